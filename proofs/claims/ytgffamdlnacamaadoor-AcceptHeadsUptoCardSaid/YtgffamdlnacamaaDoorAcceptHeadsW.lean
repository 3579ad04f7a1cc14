/- AcceptHeads, walked; Big laid into it. -/
import Derived.Test.YtgffamdlnacamaaDoorAccP
import Derived.Test.YtgffamdlnacamaaDoorConv
import Derived.Test.YtgffamdlnacamaaDoorMsh6b

/- The same contracts for larger arguments. -/
namespace Go.Proofs.YtgffamdlnacamaaDoor
open Go.RowKit

set_option maxHeartbeats 4000000 in
set_option maxRecDepth 100000 in
theorem segJoinB (A : Option Addr) (n cp : Nat) (T : List (List UInt8)) (w : World) (hS : Ss w A n cp T) (ht : Lib.lens T + T.length ≤ 4194304) : Calls Tryd.prog 53 #[.slice A n cp] w (RetB w (joinD T)) := by
  have HS := Lib.hid hS
  have HT := Lib.hid ht
  have hmax := hS.nmax
  obtain ⟨i0, hi, hz0, hz1, hz2⟩ := info_parts (byteInfo : (Tryd.prog.info? 5).map (fun i => (i.zero, i.size, i.bytes)) = some (some (.int .u8 0), 1, 1))
  clear hS ht
  go_enter Tryd.func53, Tryd.ntmps53
  go_wp2_with (fail)
  go_loopw [3, 8, 5] (fun v i _ wr => ∃ k : Nat, k ≤ n ∧ i = .int .i64 k ∧ Own 5 wr w.heap.size v (joinD (T.take k)) ∧ Below w.heap.size w wr) (fun _ i _ _ => n - (intOf i).toNat)
  case atStart => exact ⟨0, Nat.zero_le _, rfl, World.ownsRow_nil _ _ _ _, Below.refl _ _⟩
  case round =>
    obtain ⟨k, hk, rfl, hown, hb⟩ := hrel
    have HB := Lib.hid hb
    have HO := Lib.hid hown
    clear hb hown
    have hTl := HS.out.len
    by_cases hlt : k < n
    · have e1 : (k : Int) < (n : Int) := by omega
      obtain ⟨b, o, rfl, _, hc⟩ := (HS.out.below HB.out).read hlt
      have hTk := take_getD T k (by omega)
      have hl2 : (T.take (k + 1)).length = k + 1 := by rw [List.length_take]; omega
      have hJ : (joinD (T.take (k + 1))).length ≤ 4194304 := by
        rw [joinD_len]
        have hle := Lib.lens_take_le T (k + 1)
        have hTT := HT.out
        omega
      obtain ⟨y, hy⟩ : ∃ y, y = T.getD k [] := ⟨_, rfl⟩
      rw [← hy] at hTk hc
      rw [hTk, joinD_snoc, List.length_append, List.length_append] at hJ
      rw [show ([13] : List UInt8).length = 1 from rfl] at hJ
      have HTK : Hid (joinD (T.take (k + 1)) = joinD (T.take k) ++ y ++ [13]) := Lib.hid (by rw [hTk, joinD_snoc])
      generalize joinD (T.take k) = J at *
      have HJ := Lib.hid hJ
      have HSZ : Hid ((txt y).size = y.length) := Lib.hid (txt_size' y)
      have HSC : Hid (Lib.strCells (txt y) = u8s y) := Lib.hid (by simp [Lib.strCells, u8s])
      have HBS : Hid (w.heap.size ≤ wr.heap.size) := Lib.hid HB.out.size
      obtain ⟨Av, cv, rfl, _⟩ := HO.out.bs
      have HLT := Lib.hid hlt
      have tok1 : Hid True := Lib.hid trivial
      clear hTk hl2 hy hlt hTl hJ
      have tok2 : Hid True := Lib.hid trivial
      go_wp2_with (at_builtin; (first | (have _t := tok1; go_loud ((refine Lib.wpList_append_own_string _ rfl (.tmp 12) (.tmp 13) 22 9 rfl w.heap.size 5 i0 Tryd.underlying22 Tryd.underlying9 hi hz0 hz1 hz2 (.slice Av J.length cv) J.length (u8s J) rfl HO.out (txt y) rfl (by rw [HSZ.out]; have := HJ.out; unfold maxLen; omega) (by rw [HSZ.out]; have := HJ.out; omega) HBS.out ?_; intro v2 w2 hown2 hgr2 hfr2; have HO2 : Hid (Own 5 w2 w.heap.size v2 (J ++ y)) := Lib.hid (by unfold Own; rw [List.length_append]; rw [HSZ.out, HSC.out] at hown2; simpa using hown2); have HB2 := Lib.hid (HB.out.grown hgr2 HBS.out (fun k hk => (World.ownsRow.lt HO.out k hk).1)); obtain ⟨A2, c2, rfl⟩ := own_form (show w2.ownsRow w.heap.size 5 1 v2 (J ++ y).length (u8s (J ++ y)) from HO2.out); rw [List.length_append] at HO2 ⊢; have HNW := Lib.hid (newRow w2 13); have HO3 := Lib.hid (HO2.out.below ((Below.refl w2.heap.size w2).alloc (Nat.le_refl _) (.cells #[u8 13] 5))); have HBZ : Hid (w.heap.size ≤ (w2.alloc (.cells #[u8 13] 5)).heap.size) := Lib.hid (by have := HB2.out.size; simp; omega); clear tok1 hown2 hgr2 hfr2 _t))) | (have _t := tok2; go_loud ((refine wpList_appAt rfl (.tmp 15) (.tmp 16) 22 rfl w.heap.size 5 (.int .u8 0) 1 Tryd.underlying22 byteInfo rfl (by decide) (.slice A2 (J.length + y.length) c2) (J ++ y).length (u8s (J ++ y)) rfl HO3.out ⟨w2.heap.size, 0, none⟩ 1 1 [.int .u8 13] rfl rfl HNW.out (oneRow 13) (by have := HJ.out; rw [List.length_append]; omega) HBZ.out ?_; intro v3 w3 hown3 hgr3 hfr3; have HO4 : Hid (Own 5 w3 w.heap.size v3 (J ++ y ++ [13])) := Lib.hid (own_snoc (c := 13) hown3); have HB3 := Lib.hid ((HB2.out.alloc HB2.out.size _).grown hgr3 HBZ.out (fun k hk => (World.ownsRow.lt HO3.out k hk).1)); obtain ⟨A3, c3, rfl⟩ := own_form hown3; clear tok2 hown3 hgr3 hfr3 _t)))))
      exact ⟨⟨k + 1, HLT.out, by go_num, by rw [HTK.out, ← List.length_append]; exact HO4.out, HB3.out⟩, by have := HLT.out; simp [intOf]; omega⟩
    · obtain rfl : k = n := by omega
      rw [List.take_of_length_le (by omega)] at HO
      obtain ⟨Av, cv, rfl, hBs, _⟩ := HO.out.bs
      have HBB := Lib.hid hBs
      clear hBs hTl hlt
      go_wp2_with (fail)
      go_ret
      exact ⟨Av, cv, rfl, HBB.out, HB.out⟩

set_option maxHeartbeats 4000000 in
set_option maxRecDepth 100000 in
theorem segMakeB (d : Sgn) (name : ByteArray) (A : Option Addr) (n cp : Nat) (T : List (List UInt8)) (w : World) (hS : Ss w A n cp T) (hnm : name.size ≤ 4194304) (ht : Lib.lens T + T.length ≤ 4194304) : Calls Tryd.prog 40 #[d.v, .string name, .slice A n cp] w fun e w' => e = .returned (str (makeD name d.a T)) ∧ Below w.heap.size w w' := by
  have HS := Lib.hid (hS.below ((Below.refl _ w).alloc (Nat.le_refl _) (.cells #[u8 d.a, u8 d.b, u8 d.c, u8 d.d, u8 d.e] 25)))
  have HT := Lib.hid ht
  have HNM := Lib.hid hnm
  have hmax := hS.nmax
  have hTl := hS.len
  have HLEN := Lib.hid hTl
  have HX0 : Hid (BoxS d w.heap.size (boxSgn d w)) := Lib.hid (heap_alloc_new w _)
  have HB0 : Hid (Below w.heap.size w (boxSgn d w)) := Lib.hid (boxSgn_below d w)
  clear hS ht hnm hTl
  go_enter Tryd.func40, Tryd.ntmps40
  go_wp2_with (fail)
  generalize hw0 : w.alloc (.cells #[u8 d.a, u8 d.b, u8 d.c, u8 d.d, u8 d.e] 25) = w0 at *
  rw [show boxSgn d w = w0 from hw0] at HX0 HB0
  have HZ0 : Hid (w0.heap.size = w.heap.size + 1) := Lib.hid (by rw [← hw0]; simp)
  have HBU : Hid (Bu w0.heap.size w0.heap.size [] (w0.alloc (.cells #[.pointer none, .slice none 0 0] TB))) := Lib.hid (Bu.new (Nat.le_refl _))
  have HBA : Hid (Below w0.heap.size w0 (w0.alloc (.cells #[.pointer none, .slice none 0 0] TB))) := Lib.hid ((Below.refl _ _).alloc (Nat.le_refl _) _)
  clear hw0
  rw [HZ0.out] at HBU HBA
  obtain ⟨B, hB⟩ : ∃ B, B = w.heap.size + 1 := ⟨_, rfl⟩
  rw [← hB] at HBU HBA HZ0 ⊢
  have HBE := Lib.hid hB
  clear hB
  generalize (w0.alloc (.cells #[.pointer none, .slice none 0 0] TB)) = w3 at *
  have HW3 : Hid (B ≤ w3.heap.size) := Lib.hid (by have := HBA.out.size; have := HZ0.out; omega)
  refine (buString_ B B [] name.data.toList w3 HBU.out (by have := HNM.out; simp; omega) HW3.out).mono ?_
  rintro e w4 ⟨rfl, hbu, hb4⟩
  have HBU4 := Lib.hid hbu
  have HB4 : Hid (Below B w0 w4) := Lib.hid (HBA.out.trans hb4)
  clear hbu hb4 HBU
  go_wp2_with (fail)
  go_loopw [14, 8, 9] (fun i _ _ wr => ∃ k : Nat, k ≤ n ∧ i = .int .i64 k ∧ Bu B B (mkTo name d.a T k) wr ∧ Below B w0 wr) (fun i _ _ _ => n - (intOf i).toNat)
  case atStart => exact ⟨0, Nat.zero_le _, rfl, by simpa [mkTo] using HBU4.out, HB4.out⟩
  case round =>
    obtain ⟨wo, rfl⟩ : ∃ wo : World, wo = wr := ⟨_, rfl⟩
    obtain ⟨k, hk, rfl, hbu, hb⟩ := hrel
    have HBU := Lib.hid hbu
    have HB := Lib.hid hb
    have HSO := Lib.hid (HS.out.below (hb.mono (Nat.le_of_eq HZ0.out)))
    have HXO := Lib.hid (HX0.out.below (hb.mono (Nat.le_of_eq HZ0.out)))
    have HSZ : Hid (B ≤ wo.heap.size) := Lib.hid (by have := hb.size; have := HZ0.out; omega)
    clear hbu hb HBU4 HB4
    have HLN : Hid ((mkTo name d.a T k).length ≤ 16777216) := Lib.hid (by
      have h1 := mkTo_len name d.a T k (by have := HLEN.out; omega)
      have h2 := Lib.lens_take_le T k
      have h3 := HT.out
      have h4 := HNM.out
      have h5 := HLEN.out
      omega)
    by_cases hlt : k < n
    · have e1 : (k : Int) < (n : Int) := by omega
      obtain ⟨b, o, rfl, hbl, hc⟩ := HSO.out.read hlt
      obtain ⟨c0, c1, c2, c3, c4⟩ := HXO.out.cells
      obtain ⟨y, hy⟩ : ∃ y, y = T.getD k [] := ⟨_, rfl⟩
      rw [← hy] at hc
      have HMK : Hid (mkTo name d.a T (k + 1) = mkTo name d.a T k ++ sepD name d.a k ++ y) := Lib.hid (by rw [hy]; rfl)
      have HYL : Hid (y.length ≤ 4194304) := Lib.hid (by
        have h1 := lens_getD T k (by have := HLEN.out; omega)
        have h2 := Lib.lens_take_le T (k + 1)
        have h3 := HT.out
        rw [hy]; omega)
      have HLT := Lib.hid hlt
      clear hy hlt hk
      by_cases hm : name = mshB ∧ k ≤ 1
      · have hs : sepD name d.a k = [] := if_pos hm
        have d1 : (name.toList == [77, 83, 72]) = true := by rw [hm.1, Go.ByteArray.toList_eq]; rfl
        have d2 : decide ((1 : Int) < (k : Int)) = false := by simp; omega
        have hk1 : k ≤ 1 := hm.2
        have HSP := Lib.hid hs
        clear hs hm
        go_wp2_with (fail)
        refine (buString_ B B (mkTo name d.a T k) y wo HBU.out (by have := HLN.out; have := HYL.out; omega) HSZ.out).mono ?_
        rintro e w5 ⟨rfl, hbu5, hb5⟩
        have HBU5 := Lib.hid hbu5
        have HB5 : Hid (Below B w0 w5) := Lib.hid (HB.out.trans hb5)
        clear hbu5 hb5
        go_wp2_with (fail)
        exact ⟨⟨k + 1, HLT.out, by go_num, by rw [HMK.out, HSP.out, List.append_nil]; exact HBU5.out, HB5.out⟩, by have := HLT.out; simp [intOf]; omega⟩
      · have hs : sepD name d.a k = [d.a] := if_neg hm
        have HSP := Lib.hid hs
        have HTL : Hid ((mkTo name d.a T k ++ [d.a]).length ≤ 16777217) := Lib.hid (by rw [List.length_append]; have := HLN.out; simp; omega)
        clear hs
        by_cases hn : name = mshB
        · have hk1 : 1 < k := by
            rcases Nat.lt_or_ge 1 k with h | h
            · exact h
            · exact absurd ⟨hn, h⟩ hm
          have d1 : (name.toList == [77, 83, 72]) = true := by rw [hn, Go.ByteArray.toList_eq]; rfl
          have d2 : decide ((1 : Int) < (k : Int)) = true := by simp; omega
          clear hm hn
          go_wp2_with (fail)
          refine (buByte B B (mkTo name d.a T k) d.a wo HBU.out (by have := HLN.out; omega) HSZ.out).mono ?_
          rintro e w5 ⟨rfl, hbu5, hb5⟩
          have HBU5 := Lib.hid hbu5
          have HB5 : Hid (Below B w0 w5) := Lib.hid (HB.out.trans hb5)
          have HS5 : Hid (B ≤ w5.heap.size) := Lib.hid (Nat.le_trans HSZ.out hb5.size)
          clear hbu5 hb5
          go_wp2_with (fail)
          refine (buString_ B B (mkTo name d.a T k ++ [d.a]) y w5 HBU5.out (by have := HTL.out; have := HYL.out; omega) HS5.out).mono ?_
          rintro e w6 ⟨rfl, hbu6, hb6⟩
          have HBU6 := Lib.hid hbu6
          have HB6 : Hid (Below B w0 w6) := Lib.hid (HB5.out.trans hb6)
          clear hbu6 hb6
          go_wp2_with (fail)
          exact ⟨⟨k + 1, HLT.out, by go_num, by rw [HMK.out, HSP.out]; exact HBU6.out, HB6.out⟩, by have := HLT.out; simp [intOf]; omega⟩
        · have d1 : (name.toList == [77, 83, 72]) = false := by
            rw [Go.ByteArray.toList_eq, beq_eq_false_iff_ne]
            exact fun e => hn (ByteArray.ext (Array.toList_inj.1 e))
          clear hm hn
          go_wp2_with (fail)
          refine (buByte B B (mkTo name d.a T k) d.a wo HBU.out (by have := HLN.out; omega) HSZ.out).mono ?_
          rintro e w5 ⟨rfl, hbu5, hb5⟩
          have HBU5 := Lib.hid hbu5
          have HB5 : Hid (Below B w0 w5) := Lib.hid (HB.out.trans hb5)
          have HS5 : Hid (B ≤ w5.heap.size) := Lib.hid (Nat.le_trans HSZ.out hb5.size)
          clear hbu5 hb5
          go_wp2_with (fail)
          refine (buString_ B B (mkTo name d.a T k ++ [d.a]) y w5 HBU5.out (by have := HTL.out; have := HYL.out; omega) HS5.out).mono ?_
          rintro e w6 ⟨rfl, hbu6, hb6⟩
          have HBU6 := Lib.hid hbu6
          have HB6 : Hid (Below B w0 w6) := Lib.hid (HB5.out.trans hb6)
          clear hbu6 hb6
          go_wp2_with (fail)
          exact ⟨⟨k + 1, HLT.out, by go_num, by rw [HMK.out, HSP.out]; exact HBU6.out, HB6.out⟩, by have := HLT.out; simp [intOf]; omega⟩
    · obtain rfl : k = n := by omega
      have HMD : Hid (makeD name d.a T = mkTo name d.a T k) := Lib.hid (by unfold makeD; rw [HLEN.out])
      clear hlt hk
      go_wp2_with (fail)
      refine (Tryd.Builder_String_any B B (mkTo name d.a T k) wo HBU.out HSZ.out).mono ?_
      rintro e w4 ⟨rfl, hb4⟩
      have HB4 : Hid (Below w.heap.size w w4) := Lib.hid (HB0.out.trans ((HB.out.trans hb4).mono (by have := HBE.out; omega)))
      clear hb4
      go_wp2_with (fail)
      go_ret
      exact ⟨by rw [HMD.out]; rfl, HB4.out⟩
end Go.Proofs.YtgffamdlnacamaaDoor

/- Layer 8: the answer's Make, Fields and Field, walked. -/
namespace Go.Proofs.YtgffamdlnacamaaDoor
open Go.RowKit


set_option maxHeartbeats 16000000 in
set_option maxRecDepth 100000 in
theorem writeB (h : Hd) (w : World) (hb : Lib.lens (h.l.map (·.data.toList)) ≤ 2000000) :
    Calls Tryd.prog 18 #[h.v] w fun e w' => e = .returned (.tuple #[str (writeH h).1, .int .i64 (writeH h).2]) ∧ Below w.heap.size w w' := by
  have HX0 := Lib.hid (BoxH.new h w)
  have HB0 := Lib.hid (boxHd_below h w)
  have HLB := Lib.hid hb
  have HW : Hid (writeH h = if h.d.good = true then if h.l.all (standD h.d.a) = true then (makeD mshB h.d.a ((rowH h).take (filledD h.l 10)), 0) else ([], 10) else ([], 11)) := Lib.hid rfl
  clear hb
  go_enter Tryd.func18, Tryd.ntmps18
  obtain ⟨c0, c1, c2, c3, c4, c5, c6, c7, c8, c9, c10, c11, c12, c13, c14⟩ := HX0.out.cells
  go_wp2_with (fail)
  generalize w.alloc (.cells #[u8 h.d.a, u8 h.d.b, u8 h.d.c, u8 h.d.d, u8 h.d.e, .string h.a0, .string h.a1, .string h.a2, .string h.a3, .string h.a4, .string h.a5, .string h.a6, .string h.a7, .string h.a8, .string h.a9] TH) = w0 at *
  refine (delimRight h.d w0).mono ?_
  rintro e w1 ⟨rfl, hb1⟩
  have HX1 := Lib.hid (HX0.out.below hb1)
  have HB1 := Lib.hid (HB0.out.trans (hb1.mono HB0.out.size))
  clear hb1 c0 c1 c2 c3 c4 c5 c6 c7 c8 c9 c10 c11 c12 c13 c14 HX0 HB0
  cases hg : h.d.good
  · have HE : Hid (writeH h = ([], 11)) := Lib.hid (by rw [HW.out, hg]; rfl)
    go_wp2_with (fail)
    go_ret2
    exact ⟨by rw [HE.out]; rfl, HB1.out⟩
  · have HE : Hid (writeH h = if h.l.all (standD h.d.a) = true then (makeD mshB h.d.a ((rowH h).take (filledD h.l 10)), 0) else ([], 10)) := Lib.hid (by rw [HW.out, hg]; rfl)
    go_wp2_with (fail)
    have HBS : Hid (Bs (w1.alloc (.cells #[u8 h.d.a] 5)) (some ⟨w1.heap.size, 0, none⟩) 1 1 [h.d.a]) := Lib.hid (Bs.lit w1 [h.d.a] 5 _ _ rfl rfl rfl (by simp [maxLen]))
    have HGW : Hid (w.heap.size < w1.heap.size) := Lib.hid (Array.getElem?_eq_some_iff.1 HX1.out).1
    go_cut [4] (fun x wx => ∃ g : Nat, x = .slice (some ⟨g, 0, none⟩) 2 2 ∧ OwnS wx w1.heap.size (.slice (some ⟨g, 0, none⟩) 2 2) [[h.d.a], [h.d.b, h.d.c, h.d.d, h.d.e]] ∧ Below w1.heap.size w1 wx)
    case first =>
      as_aux_lemma =>
        have hcv : ∀ W : World, (convert 22 9 (.slice (some ⟨W.heap.size, 0, none⟩) 1 1)).run Tryd.prog (W.alloc (.cells #[u8 h.d.a] 5)) = .ok (str [h.d.a]) (W.alloc (.cells #[u8 h.d.a] 5)) := fun W => (Bs.lit W [h.d.a] 5 _ _ rfl rfl rfl (by simp [maxLen])).str (P := Tryd.prog) 22 5 9 Tryd.underlying22 Tryd.underlying5 Tryd.underlying9
        have hcd : (convert 22 9 (.slice (some ⟨w1.heap.size, 0, none⟩) 1 1)).run Tryd.prog (w1.alloc (.cells #[u8 h.d.a] 5)).drew = .ok (str [h.d.a]) (w1.alloc (.cells #[u8 h.d.a] 5)).drew := (HBS.out.drew).str (P := Tryd.prog) 22 5 9 Tryd.underlying22 Tryd.underlying5 Tryd.underlying9
        have HCW : Hid (∀ wA : World, Below (w1.alloc (.cells #[u8 h.d.a] 5)).heap.size (w1.alloc (.cells #[u8 h.d.a] 5)).drew wA → (convert 22 9 (.slice (some ⟨w1.heap.size, 0, none⟩) 1 1)).run Tryd.prog wA = .ok (str [h.d.a]) wA) := Lib.hid (fun wA hA => (HBS.out.drew.below hA).str (P := Tryd.prog) 22 5 9 Tryd.underlying22 Tryd.underlying5 Tryd.underlying9)
        have q0 : ∀ o1 : Obj, (w1.alloc o1).cell? ⟨w.heap.size, 0, none⟩ = some (u8 h.d.a) := fun o1 => cell_of_row _ w.heap.size 0 _ _ _ (HX1.out.below ((Below.refl _ _).alloc (Nat.le_refl _) o1))
        have q1 : ∀ o1 : Obj, (w1.alloc o1).cell? ⟨w.heap.size, 1, none⟩ = some (u8 h.d.b) := fun o1 => cell_of_row _ w.heap.size 1 _ _ _ (HX1.out.below ((Below.refl _ _).alloc (Nat.le_refl _) o1))
        have q2 : ∀ o1 : Obj, (w1.alloc o1).cell? ⟨w.heap.size, 2, none⟩ = some (u8 h.d.c) := fun o1 => cell_of_row _ w.heap.size 2 _ _ _ (HX1.out.below ((Below.refl _ _).alloc (Nat.le_refl _) o1))
        have q3 : ∀ o1 : Obj, (w1.alloc o1).cell? ⟨w.heap.size, 3, none⟩ = some (u8 h.d.d) := fun o1 => cell_of_row _ w.heap.size 3 _ _ _ (HX1.out.below ((Below.refl _ _).alloc (Nat.le_refl _) o1))
        have q4 : ∀ o1 : Obj, (w1.alloc o1).cell? ⟨w.heap.size, 4, none⟩ = some (u8 h.d.e) := fun o1 => cell_of_row _ w.heap.size 4 _ _ _ (HX1.out.below ((Below.refl _ _).alloc (Nat.le_refl _) o1))
        obtain ⟨r0, r1, r2, r3, r4, _⟩ := HX1.out.cells
        go_region_with ((go_at_call 37; go_loud ((refine (otherSigns_ h.d _).mono ?_; rintro e wA ⟨rfl, hbA⟩; have HBA : Hid (Below w1.heap.size w1 wA) := Lib.hid (by first | exact ((Below.refl _ w1).alloc (Nat.le_refl _) _).drew.trans (hbA.mono (by simp)) | exact (Below.refl _ w1).drew.trans hbA | exact hbA); have HXA := Lib.hid (HX1.out.below HBA.out); (first | (have hcA := HCW.out wA hbA) | skip); obtain ⟨z0, _, _, _, _, _⟩ := HXA.out.cells; clear hbA))))
        all_goals
          go_wp2_with (fail)
          go_meet
          first
          | exact ⟨wA.heap.size, rfl, OwnS.twoH wA _ _ _ HBA.out.size, HBA.out.alloc HBA.out.size _⟩
          | exact ⟨wA.heap.size + 1, rfl, by have t := OwnS.twoH (wA.alloc (.cells #[u8 h.d.a] 5)) [h.d.a] [h.d.b, h.d.c, h.d.d, h.d.e] w1.heap.size (Nat.le_trans HBA.out.size (by simp)); simp only [World.size_alloc] at t; exact t, (HBA.out.alloc HBA.out.size _).alloc (Nat.le_trans HBA.out.size (by simp)) _⟩
    case rest =>
      as_aux_lemma =>
        obtain ⟨g, rfl, ho, hbc⟩ := hcut
        have HO0 : Hid (OwnS wc w1.heap.size (.slice (some ⟨g, 0, none⟩) 2 2) ((rowH h).take 2)) := Lib.hid ho
        have HBC := Lib.hid hbc
        clear ho hbc HBS
        go_wp2_with (fail)
        have HBW : Hid (Below w.heap.size w w1) := HB1
        refine (rows_ wc).mono ?_
        rintro e w7 ⟨rfl, hb7⟩
        have HYL : Hid (∀ y ∈ h.l, y.size ≤ 2000000) := Lib.hid (fun y hy => by
          have h1 := HLB.out
          have h2 := mem_lens (List.mem_map.2 ⟨y, hy, rfl⟩ : y.data.toList ∈ h.l.map (·.data.toList))
          simp at h2
          omega)
        have HO7 := Lib.hid (HO0.out.below hb7)
        have HB7 := Lib.hid (HBC.out.trans (hb7.mono HBC.out.size))
        clear hb7 HO0 HBC
        go_wp2_with (fail)
        go_loopw [25, 4, 5, 7, 8] (fun i v f _ _ wr => ∃ k : Nat, k ≤ 10 ∧ i = .int .i64 k ∧ OwnS wr w1.heap.size v ((rowH h).take (k + 2)) ∧ f = .int .i64 ((filledD h.l k : Nat) : Int) ∧ (h.l.take k).all (standD h.d.a) = true ∧ Below w1.heap.size w1 wr) (fun i _ _ _ _ _ => 10 - (intOf i).toNat)
        case atStart => exact ⟨0, by omega, rfl, HO7.out, rfl, rfl, HB7.out⟩
        case round =>
          clear HO7 HB7
          obtain ⟨wo, rfl⟩ : ∃ wo : World, wo = wr := ⟨_, rfl⟩
          obtain ⟨k, hk, rfl, ho, rfl, hst, hb⟩ := hrel
          have HO := Lib.hid ho
          have HST := Lib.hid hst
          have HB := Lib.hid hb
          clear ho hst hb
          obtain ⟨A4, cc4, rfl, _, _⟩ := HO.out.ss
          obtain ⟨L, hL⟩ : ∃ L, L = ((rowH h).take (k + 2)).length := ⟨_, rfl⟩
          have HLL : Hid (L = k + 2) := Lib.hid (by rw [hL, List.length_take, show (rowH h).length = 12 from rfl]; omega)
          rw [← hL] at HO ⊢
          clear hL
          by_cases hlt : k < 10
          · obtain ⟨F, i0, hkk, hrw⟩ := rowsAt k hlt
            have HRW := Lib.hid hrw
            have HKL := Lib.hid hlt
            have HB1 : Hid (Below w1.heap.size w1 (wo.alloc (.cells #[.func (.func F) #[] #[]] 74))) := Lib.hid (HB.out.alloc HB.out.size _)
            have HO1 : Hid (OwnS (wo.alloc (.cells #[.func (.func F) #[] #[]] 74)) w1.heap.size (.slice A4 L cc4) ((rowH h).take (k + 2))) := Lib.hid (HO.out.below ((Below.refl _ _).alloc (Nat.le_refl _) _))
            obtain ⟨c0, c1, c2, c3, c4, cx⟩ := (HX1.out.below HB1.out).cells
            have cy := (HX1.out.below HB1.out).text k hlt
            have HYM : Hid ((h.l.getD k ⟨#[]⟩) ∈ h.l) := Lib.hid (h.text_mem k hlt)
            have HRT : Hid ((rowH h).take (k + 2) ++ [(h.l.getD k ⟨#[]⟩).data.toList] = (rowH h).take (k + 1 + 2)) := Lib.hid (rowH_take h k hlt)
            have HTA : Hid (standD h.d.a (h.l.getD k ⟨#[]⟩) = true → (h.l.take (k + 1)).all (standD h.d.a) = true) := Lib.hid (h.take_all _ k hlt HST.out)
            have HFS : Hid (filledD h.l (k + 1) = if (h.l.getD k ⟨#[]⟩).toList.isEmpty then filledD h.l k else k + 3) := Lib.hid (filledD_step h k)
            obtain ⟨y, hy⟩ : ∃ y, y = h.l.getD k ⟨#[]⟩ := ⟨_, rfl⟩
            rw [← hy] at cy HYM HRT HTA HFS
            obtain ⟨f, hf⟩ : ∃ f, f = filledD h.l k := ⟨_, rfl⟩
            rw [← hf] at HFS ⊢
            clear hrw hk cx hy hf
            have hk0 : (k : Int) < 10 := by omega
            go_wp2_with (fail)
            refine (HRW.out w.heap.size _).mono ?_
            rintro e wc2 ⟨rfl, rfl⟩
            have hYS : Hid (y.size ≤ 2000000) := Lib.hid (HYL.out _ HYM.out)
            go_wp2_with (fail)
            refine (mayStand_ y h.d _).mono ?_
            rintro e wd ⟨rfl, hbd⟩
            have HB2 := Lib.hid (HB1.out.trans (hbd.mono HB1.out.size))
            have HO2 := Lib.hid (HO1.out.below hbd)
            clear hbd c0 c1 c2 c3 c4 cy HB1 HO1
            cases hs : standD h.d.a y
            · have HEF : Hid (writeH h = ([], 10)) := Lib.hid (by
                rw [HE.out, if_neg]
                intro e
                have t := List.all_eq_true.1 e y HYM.out
                rw [hs] at t
                cases t)
              go_wp2_with (fail)
              go_ret2
              exact ⟨by rw [HEF.out]; rfl, HBW.out.trans (HB2.out.mono HBW.out.size)⟩
            · have HST2 : Hid ((h.l.take (k + 1)).all (standD h.d.a) = true) := Lib.hid (HTA.out hs)
              have HLB2 : Hid (((rowH h).take (k + 2)).length ≤ 12) := Lib.hid (by rw [List.length_take]; have := rowH_len h; omega)
              clear hs
              cases de : y.toList.isEmpty
              · have tok1 : Hid True := Lib.hid trivial
                have HF2 : Hid (filledD h.l (k + 1) = k + 3) := Lib.hid (by rw [HFS.out, de]; rfl)
                go_wp2_with (at_builtin; have _t := tok1; go_loud ((refine wpList_str rfl (.tmp 38) (.tmp 40) rfl w1.heap.size _ ((rowH h).take (k + 2)) rfl (HO2.out.below ((Below.refl _ wd).alloc (Nat.le_refl _) _)) wd.heap.size y.data.toList rfl (heap_alloc_new wd _) (by have := HLB2.out; omega) (by have := HB2.out.size; simp; omega) ?_; intro v' w' hown hbel hgr; rw [HRT.out] at hown; obtain ⟨A5, c5, rfl, _, _⟩ := hown.ss; obtain ⟨L5, hL5⟩ : ∃ L5, L5 = ((rowH h).take (k + 1 + 2)).length := ⟨_, rfl⟩; have HL5 : Hid (L5 = k + 3) := Lib.hid (by rw [hL5, List.length_take, rowH_len]; have := HKL.out; omega); rw [← hL5] at hown ⊢; have HOWN : Hid (OwnS w' w1.heap.size (.slice A5 L5 c5) ((rowH h).take (k + 1 + 2))) := Lib.hid hown; have HB3 : Hid (Below w1.heap.size w1 w') := Lib.hid ((HB2.out.alloc HB2.out.size _).trans hbel); clear tok1 hown hbel hgr hL5 _t)))
                exact ⟨⟨k + 1, by have := HKL.out; omega, by go_num, HOWN.out, by rw [HF2.out, HL5.out], HST2.out, HB3.out⟩, by have := HKL.out; simp [intOf]; omega⟩
              · have tok1 : Hid True := Lib.hid trivial
                have HF2 : Hid (filledD h.l (k + 1) = f) := Lib.hid (by rw [HFS.out, de]; rfl)
                go_wp2_with (at_builtin; have _t := tok1; go_loud ((refine wpList_str rfl (.tmp 38) (.tmp 40) rfl w1.heap.size _ ((rowH h).take (k + 2)) rfl (HO2.out.below ((Below.refl _ wd).alloc (Nat.le_refl _) _)) wd.heap.size y.data.toList rfl (heap_alloc_new wd _) (by have := HLB2.out; omega) (by have := HB2.out.size; simp; omega) ?_; intro v' w' hown hbel hgr; rw [HRT.out] at hown; obtain ⟨A5, c5, rfl, _, _⟩ := hown.ss; obtain ⟨L5, hL5⟩ : ∃ L5, L5 = ((rowH h).take (k + 1 + 2)).length := ⟨_, rfl⟩; have HL5 : Hid (L5 = k + 3) := Lib.hid (by rw [hL5, List.length_take, rowH_len]; have := HKL.out; omega); rw [← hL5] at hown ⊢; have HOWN : Hid (OwnS w' w1.heap.size (.slice A5 L5 c5) ((rowH h).take (k + 1 + 2))) := Lib.hid hown; have HB3 : Hid (Below w1.heap.size w1 w') := Lib.hid ((HB2.out.alloc HB2.out.size _).trans hbel); clear tok1 hown hbel hgr hL5 _t)))
                exact ⟨⟨k + 1, by have := HKL.out; omega, by go_num, HOWN.out, by rw [HF2.out], HST2.out, HB3.out⟩, by have := HKL.out; simp [intOf]; omega⟩
          · obtain rfl : k = 10 := by omega
            have HE2 : Hid (writeH h = (makeD mshB h.d.a ((rowH h).take (filledD h.l 10)), 0)) := Lib.hid (by rw [HE.out, if_pos (show h.l.all (standD h.d.a) = true from HST.out)])
            have HFB : Hid (filledD h.l 10 ≤ 12) := Lib.hid (filledD_le h.l 10)
            have hR12 : (rowH h).length = 12 := rfl
            have hB2 : Lib.lens (rowH h) = 1 + (4 + Lib.lens (h.l.map (·.data.toList))) := by simp [rowH, Lib.lens]
            rw [List.take_of_length_le (by rw [hR12]; omega)] at HO
            obtain ⟨RH, hRH⟩ : ∃ RH, RH = rowH h := ⟨_, rfl⟩
            rw [← hRH] at HO HE2 hR12 hB2
            clear hRH
            obtain ⟨g4, c4', e4, _, _, hcap, hcm⟩ := HO.out.form (by rw [hR12]; omega)
            rw [e4] at HO ⊢
            rw [hR12] at HO hcap ⊢
            have HSS : Hid (Ss wo (some ⟨g4, 0, none⟩) (filledD h.l 10) c4' (RH.take (filledD h.l 10))) := Lib.hid (Ss.take (n := 12) (by have t := HO.out; rw [← hR12] at t; have t2 := OwnS.ss' t; rw [hR12] at t2; exact t2) HFB.out)
            have HBK : Hid (Lib.lens (RH.take (filledD h.l 10)) + (RH.take (filledD h.l 10)).length ≤ 4194304) := Lib.hid (by
              have h1 := Lib.lens_take_le RH (filledD h.l 10)
              have h2 := hB2
              have h3 : (RH.take (filledD h.l 10)).length ≤ 12 := by rw [List.length_take, hR12]; omega
              have h4 := HLB.out
              omega)
            obtain ⟨F, hF⟩ : ∃ F, F = filledD h.l 10 := ⟨_, rfl⟩
            rw [← hF] at HE2 HFB HSS HBK ⊢
            obtain ⟨U, hU⟩ : ∃ U, U = RH.take F := ⟨_, rfl⟩
            rw [← hU] at HE2 HSS HBK
            have HCAP : Hid (12 ≤ c4') := Lib.hid hcap
            have HMS : Hid (mshB.size ≤ 4194304) := Lib.hid (by decide)
            have hf1 : (F : Int) ≤ (c4' : Int) := by have := HFB.out; have := HCAP.out; omega
            have hf2 : (0 : Int) ≤ (F : Int) := by omega
            have hf3 : F ≤ c4' := by omega
            have HX2 := Lib.hid (HX1.out.below HB.out)
            have HB0 := Lib.hid (HBW.out.trans (HB.out.mono HBW.out.size))
            clear HX1 HB1 HBW HB HYL HLB HST HE HW HLL hlt hk hF hU hcap HO hR12 hB2 e4 hcm
            obtain ⟨r0, r1, r2, r3, r4, rx⟩ := HX2.out.cells
            clear rx
            go_wp2_with (fail)
            go_region_held3 (fun w' => w'.cell? ⟨w.heap.size, 0, none⟩ = some (.int .u8 (h.d.a.toNat : Int)) ∧ w'.cell? ⟨w.heap.size, 1, none⟩ = some (.int .u8 (h.d.b.toNat : Int)) ∧ w'.cell? ⟨w.heap.size, 2, none⟩ = some (.int .u8 (h.d.c.toNat : Int)) ∧ w'.cell? ⟨w.heap.size, 3, none⟩ = some (.int .u8 (h.d.d.toNat : Int)) ∧ w'.cell? ⟨w.heap.size, 4, none⟩ = some (.int .u8 (h.d.e.toNat : Int))) (go_keep) ((go_at_call 40; go_loud ((refine (segMakeB h.d mshB (some ⟨g4, 0, none⟩) F c4' U _ (by first | exact HSS.out | exact HSS.out.below (Below.refl _ _).drew) HMS.out HBK.out).mono ?_; rintro e wM ⟨rfl, hbM⟩; have HBM : Hid (Below w.heap.size w wM) := Lib.hid (by first | exact HB0.out.trans (hbM.mono HB0.out.size) | exact HB0.out.trans (((Below.refl _ _).drew.trans hbM).mono HB0.out.size)); obtain ⟨z0, z1, z2, z3, z4, zx⟩ := (HX2.out.keep (by first | exact hbM | exact (Below.refl _ _).drew.trans hbM) (Array.getElem?_eq_some_iff.1 HX2.out).1).cells; clear hbM zx))))
            all_goals
              go_wp2_with (fail)
              go_ret2
              exact ⟨by rw [HE2.out]; rfl, HBM.out⟩

end Go.Proofs.YtgffamdlnacamaaDoor

/- AcceptHeads, walked. -/
namespace Go.Proofs.YtgffamdlnacamaaDoor
open Go.RowKit

theorem verdict_head {h : Hd} (hg : h.d.good = true) (hs : h.l.all (standD h.d.a) = true) (more : List UInt8) : verdictD (segH h ++ 13 :: more) = if (28 : UInt8) ∈ segH h then (Hd.zero, ⟨#[]⟩, 10) else (h, codeOf (checkD h), checkD h) := by
  unfold verdictD
  rw [read_write hg hs more, seg1_front (segH_not13 hg hs), if_pos rfl]
theorem strIdxH (x : ByteArray) (j : Nat) (h : j < x.size) (z : Int) (hz : z = (j : Int)) (W : World) : (Instr.index 9 (.string x) (.int .i64 z)).run Tryd.prog W = .ok (u8 x[j]) W := by
  subst hz
  simp [Instr.index, asIntOf, run_underlying Tryd.underlying9, go_sem, h]
theorem txt_getH (S : List UInt8) (q : Nat) (h : q < (txt S).size) : S[q]? = some (txt S)[q] := by
  have hs : q < S.length := by rw [← txt_size]; exact h
  rw [List.getElem?_eq_getElem hs]
  rfl
theorem byteInfoH : (Tryd.prog.info? 5).map (fun i => (i.zero, i.size, i.bytes)) = some (some (.int .u8 0), 1, 1) := by kernel_rfl
set_option maxHeartbeats 8000000 in
set_option maxRecDepth 100000 in
theorem acceptHeads_walk (h : Hd) (A : Option Addr) (n cp : Nat) (l : List UInt8) (w : World) (hv : Vers w ∧ Signs w ∧ Cds w) (hB : Bs w A n cp l) (_hcp : cp ≤ 140737488351232) (ht : Lib.lens (h.l.map (·.data.toList)) ≤ 1048576) :
    Calls Tryd.prog 5 #[h.v, .slice A n cp] w (True_ w) := by
  have HX0 := Lib.hid (BoxH.new h w)
  have HB0 := Lib.hid (boxHd_below h w)
  have HV := Lib.hid (fun W (hb : Below w.heap.size w W) => hv.1.below hb)
  have HS := Lib.hid (fun W (hb : Below w.heap.size w W) => hv.2.1.below hb)
  have HC := Lib.hid (fun W (hb : Below w.heap.size w W) => hv.2.2.below hb)
  have HBL := Lib.hid hB
  have HLS := Lib.hid ht
  have HSM := Lib.hid h.sum_eq
  have HE := Lib.hid (writeH_cases h)
  have HSL := Lib.hid (segH_len h)
  clear hv hB ht
  go_enter Tryd.func5, Tryd.ntmps5
  go_wp2_with (with_reducible refine wpList_loadHG w.heap.size h (by kernel_rfl) (by kernel_rfl) HX0.out ?_)
  generalize w.alloc (.cells #[u8 h.d.a, u8 h.d.b, u8 h.d.c, u8 h.d.d, u8 h.d.e, .string h.a0, .string h.a1, .string h.a2, .string h.a3, .string h.a4, .string h.a5, .string h.a6, .string h.a7, .string h.a8, .string h.a9] TH) = w0 at *
  refine (writeB h w0 (by have := HLS.out; omega)).mono ?_
  rintro e w2 ⟨rfl, hb2⟩
  have HX2 := Lib.hid (HX0.out.below hb2)
  have HB2 := Lib.hid (HB0.out.trans (hb2.mono HB0.out.size))
  clear hb2 HX0 HB0
  rcases HE.out with hw | hw | ⟨hw, hg, hst⟩
  · as_aux_lemma =>
    rw [hw]
    rw [show str (([], (11 : Int)) : List UInt8 × Int).1 = Value.string ⟨#[]⟩ from rfl]
    clear hw
    go_wp2_with (fail)
    refine (alive11 w2 (HV.out _ HB2.out) (HS.out _ HB2.out) (HC.out _ HB2.out)).mono ?_
    rintro e w3 ⟨rfl, hbA⟩
    have HBA := Lib.hid (HB2.out.trans (hbA.mono HB2.out.size))
    clear hbA
    go_wp2_with (fail)
    go_ret
    exact ⟨rfl, HBA.out⟩
  · as_aux_lemma =>
    rw [hw]
    rw [show str (([], (10 : Int)) : List UInt8 × Int).1 = Value.string ⟨#[]⟩ from rfl]
    clear hw
    go_wp2_with (fail)
    refine (alive11 w2 (HV.out _ HB2.out) (HS.out _ HB2.out) (HC.out _ HB2.out)).mono ?_
    rintro e w3 ⟨rfl, hbA⟩
    have HBA := Lib.hid (HB2.out.trans (hbA.mono HB2.out.size))
    clear hbA
    go_wp2_with (fail)
    go_ret
    exact ⟨rfl, HBA.out⟩
  · have HVH := Lib.hid (verdict_head hg hst)
    rw [hw]
    clear hw hg hst
    obtain ⟨S, hS⟩ : ∃ S, S = segH h := ⟨_, rfl⟩
    rw [← hS] at HVH HSL ⊢
    clear hS
    obtain ⟨N, hN⟩ : ∃ N, S.length = N := ⟨_, rfl⟩
    have HNN : Hid (N ≤ 1100000) := Lib.hid (by have := HSL.out; have := HSM.out; have := HLS.out; omega)
    have hts : (txt S).size = N := by rw [txt_size, hN]
    have HTS := Lib.hid hts
    have HL := Lib.hid hN
    clear HSL hN
    by_cases hbN : 2000 < N
    · as_aux_lemma =>
      have d1 : decide ((2000 : Int) < (N : Int)) = true := by simp; omega
      go_wp2_with (fail)
      refine (alive11 w2 (HV.out _ HB2.out) (HS.out _ HB2.out) (HC.out _ HB2.out)).mono ?_
      rintro e w3 ⟨rfl, hbA⟩
      have HBA := Lib.hid (HB2.out.trans (hbA.mono HB2.out.size))
      clear hbA
      go_wp2_with (fail)
      go_ret
      exact ⟨rfl, HBA.out⟩
    have d1 : decide ((2000 : Int) < (N : Int)) = false := by simp; omega
    by_cases hbn : 1000 < n
    · as_aux_lemma =>
      have d2 : decide ((1000 : Int) < (n : Int)) = true := by simp; omega
      go_wp2_with (fail)
      refine (alive11 w2 (HV.out _ HB2.out) (HS.out _ HB2.out) (HC.out _ HB2.out)).mono ?_
      rintro e w3 ⟨rfl, hbA⟩
      have HBA := Lib.hid (HB2.out.trans (hbA.mono HB2.out.size))
      clear hbA
      go_wp2_with (fail)
      go_ret
      exact ⟨rfl, HBA.out⟩
    have d2 : decide ((1000 : Int) < (n : Int)) = false := by simp; omega
    have HN2 : Hid (N ≤ 2000 ∧ n ≤ 1000) := Lib.hid (by omega)
    have hno : ¬ 9223372036854775807 < N + 1 := by omega
    clear hbN hbn
    go_wp2_with (fail)
    rw [show (ByteArray.mk #[13]) = txt [13] from rfl, txt_app]
    obtain ⟨cap3, w3, hrun3, hC3, hb3⟩ := conv_list (P := Tryd.prog) w2 9 22 5 (S ++ [13]) (N + 1) Tryd.underlying9 Tryd.underlying22 Tryd.underlying5 (by rw [List.length_append, HL.out]; rfl) (by have := HN2.out; simp only [maxLen]; omega)
    rw [hrun3]
    have HBS3 := Lib.hid hC3.bs
    have HX3 := Lib.hid (HX2.out.below hb3)
    have HB3 := Lib.hid (HB2.out.trans (hb3.mono HB2.out.size))
    clear hrun3 hC3 hb3 d1 d2 HX2 HB2
    go_wp2_with (fail)
    refine (verdict_ _ (N + 1) cap3 (S ++ [13]) w3 (HV.out _ HB3.out) HBS3.out (by have := HN2.out; omega)).mono ?_
    rintro e w4 ⟨rfl, hb4⟩
    rw [HVH.out []]
    obtain ⟨V, hV⟩ : ∃ V, V = if (28 : UInt8) ∈ S then (Hd.zero, (⟨#[]⟩ : ByteArray), (10 : Int)) else (h, codeOf (checkD h), checkD h) := ⟨_, rfl⟩
    rw [← hV]
    have HVV := Lib.hid hV
    clear hV
    obtain ⟨g, hg⟩ : ∃ g, g = V.1 := ⟨_, rfl⟩
    obtain ⟨cd, hcd⟩ : ∃ c, c = V.2.1 := ⟨_, rfl⟩
    obtain ⟨K, hK⟩ : ∃ K, K = V.2.2 := ⟨_, rfl⟩
    rw [← hg, ← hcd, ← hK]
    have HG := Lib.hid hg
    have HCD := Lib.hid hcd
    have HK := Lib.hid hK
    clear hg hcd hK
    have HY5 : Hid (BoxH g w4.heap.size (w4.alloc (.cells g.cells TH))) := Lib.hid (BoxH.new g w4)
    have hb5 : Below w3.heap.size w3 (w4.alloc (.cells g.cells TH)) := hb4.alloc hb4.size _
    have HX5 := Lib.hid (HX3.out.below hb5)
    have HB5 := Lib.hid (HB3.out.trans (hb5.mono HB3.out.size))
    clear hb4 hb5 HBS3 HX3 HB3
    go_wp2_with (fail)
    obtain ⟨G5, hG5⟩ : ∃ y, y = w4.heap.size := ⟨_, rfl⟩
    rw [← hG5] at HY5 ⊢
    clear hG5
    generalize w4.alloc (.cells #[u8 g.d.a, u8 g.d.b, u8 g.d.c, u8 g.d.d, u8 g.d.e, .string g.a0, .string g.a1, .string g.a2, .string g.a3, .string g.a4, .string g.a5, .string g.a6, .string g.a7, .string g.a8, .string g.a9] TH) = w5 at *
    rw [show (ByteArray.mk #[13]) = txt [13] from rfl, txt_app]
    obtain ⟨cap6, w6, hrun6, hC6, hb6⟩ := conv_list (P := Tryd.prog) w5 9 22 5 (S ++ [13]) (N + 1) Tryd.underlying9 Tryd.underlying22 Tryd.underlying5 (by rw [List.length_append, HL.out]; rfl) (by have := HN2.out; simp only [maxLen]; omega)
    rw [hrun6]
    have HC6 := Lib.hid hC6
    have HBS6 := Lib.hid (HBL.out.below (HB5.out.trans (hb6.mono HB5.out.size)))
    have Hb6 := Lib.hid hb6
    clear hrun6 hC6 hb6
    have tok1 : Hid True := Lib.hid trivial
    go_wp2_with (at_builtin; have _t := tok1; go_loud ((refine wpList_appC rfl (.tmp 43) (.tmp 44) 22 rfl 5 Tryd.underlying22 byteInfoH rfl HC6.out rfl HBS6.out (Hb6.out.size) (by have := HN2.out; omega) ?_; intro B7 c7 w7 hB7 hb7; have HB7 := Lib.hid hB7; have Hb7 := Lib.hid (Hb6.out.trans hb7); clear tok1 hB7 hb7 _t)))
    refine (verdict_ B7 (N + 1 + n) c7 (S ++ [13] ++ l) w7 (HV.out _ (HB5.out.trans (Hb7.out.mono HB5.out.size))) HB7.out (by have := HN2.out; omega)).mono ?_
    rw [show verdictD (S ++ [13] ++ l) = V from by rw [List.append_assoc]; rw [HVV.out]; exact HVH.out l]
    rintro e w8 ⟨rfl, hb8⟩
    rw [← HG.out, ← HCD.out, ← HK.out]
    have b58 := Hb7.out.trans (hb8.mono Hb7.out.size)
    have hb9 : Below w5.heap.size w5 (w8.alloc (.cells g.cells TH)) := b58.alloc b58.size _
    have HZ9 : Hid (BoxH g w8.heap.size (w8.alloc (.cells g.cells TH))) := Lib.hid (BoxH.new g w8)
    have HX9 := Lib.hid (HX5.out.below hb9)
    have HY9 := Lib.hid (HY5.out.below hb9)
    have HB9 := Lib.hid (HB5.out.trans (hb9.mono HB5.out.size))
    clear b58 hb9 hb8 HB7 Hb7 Hb6 HC6 HBS6 HX5 HY5 HB5
    go_wp2_with (fail)
    obtain ⟨G9, hG9⟩ : ∃ y, y = w8.heap.size := ⟨_, rfl⟩
    rw [← hG9] at HZ9 ⊢
    clear hG9
    generalize w8.alloc (.cells #[u8 g.d.a, u8 g.d.b, u8 g.d.c, u8 g.d.d, u8 g.d.e, .string g.a0, .string g.a1, .string g.a2, .string g.a3, .string g.a4, .string g.a5, .string g.a6, .string g.a7, .string g.a8, .string g.a9] TH) = w9 at *
    rw [show str S = Value.string (txt S) from rfl]
    by_cases h28 : (28 : UInt8) ∈ S
    · as_aux_lemma =>
      have hV := HVV.out
      rw [if_pos h28] at hV
      obtain rfl : K = 10 := by rw [HK.out, hV]
      obtain rfl : cd = ⟨#[]⟩ := by rw [HCD.out, hV]
      obtain ⟨j, hj, hjx⟩ := List.getElem_of_mem h28
      have HJ := Lib.hid (show S[j]? = some 28 from by rw [List.getElem?_eq_getElem hj, hjx])
      have HJN : Hid (j < N) := Lib.hid (by rw [← HL.out]; exact hj)
      clear hV hjx hj h28
      go_loop [52, 13] (fun i _ => ∃ q : Nat, q ≤ j ∧ i = .int .i64 q) (fun i _ => N - (intOf i).toNat)
      case atStart => exact ⟨0, Nat.zero_le _, rfl⟩
      case round =>
        obtain ⟨q, hq, rfl⟩ := hrel
        have hqn : q < N := by have := HJN.out; omega
        have hqs : q < (txt S).size := by rw [HTS.out]; exact hqn
        have hz := txt_getH S q hqs
        obtain ⟨z, hzz⟩ : ∃ z, z = (txt S)[q] := ⟨_, rfl⟩
        have ix : ∀ W, (Instr.index 9 (.string (txt S)) (.int .i64 (q : Int))).run Tryd.prog W = .ok (u8 z) W := fun W => by rw [strIdxH (txt S) q hqs q rfl W, hzz]
        rw [← hzz] at hz
        have d7 : decide ((q : Int) < (N : Int)) = true := by simp; omega
        have w1' : wrap64 ((q : Int) + 1) = (q : Int) + 1 := IntWalk.wrap64_in _ (by have := HN2.out; omega)
        clear hzz
        by_cases hz28 : z = 28
        · as_aux_lemma =>
          have k2 : (((z.toNat : Nat) : Int) == 28) = true := by rw [hz28]; rfl
          have he := nil_t
          clear hz28 hz
          go_wp2_with (fail)
          refine (alive11 w9 (HV.out _ HB9.out) (HS.out _ HB9.out) (HC.out _ HB9.out)).mono ?_
          rintro e w10 ⟨rfl, hbA⟩
          have HBA := Lib.hid (HB9.out.trans (hbA.mono HB9.out.size))
          clear hbA
          go_wp2_with (fail)
          go_ret
          exact ⟨rfl, HBA.out⟩
        · have k2 : (((z.toNat : Nat) : Int) == 28) = false := by
            rw [beq_eq_false_iff_ne]; intro e; exact hz28 (UInt8.toNat_inj.1 (by show z.toNat = 28; omega))
          have hqj : q < j := by
            rcases Nat.lt_or_ge q j with h | h
            · exact h
            · obtain rfl : q = j := by omega
              rw [HJ.out] at hz
              injection hz with hz
              exact absurd hz.symm hz28
          clear hz28 hz
          go_wp2_with (fail)
          go_round
          case rel => exact ⟨q + 1, by omega, by go_num⟩
          case measure => simp [intOf]; omega
    · have hV := HVV.out
      rw [if_neg h28] at hV
      obtain rfl : g = h := by rw [HG.out, hV]
      have HKC : Hid (K = checkD g) := Lib.hid (by rw [HK.out, hV])
      have HCC : Hid (cd.toList.isEmpty = false) := Lib.hid (by rw [HCD.out, hV]; exact code_isEmpty _)
      have HN28 := Lib.hid h28
      clear hV h28
      go_loop [52, 13] (fun i _ => ∃ q : Nat, q ≤ N ∧ i = .int .i64 q) (fun i _ => N - (intOf i).toNat)
      case atStart => exact ⟨0, Nat.zero_le _, rfl⟩
      case round =>
        obtain ⟨q, hq, rfl⟩ := hrel
        by_cases hqn : q < N
        · as_aux_lemma =>
          have hqs : q < (txt S).size := by rw [HTS.out]; exact hqn
          have hz := txt_getH S q hqs
          obtain ⟨z, hzz⟩ : ∃ z, z = (txt S)[q] := ⟨_, rfl⟩
          have ix : ∀ W, (Instr.index 9 (.string (txt S)) (.int .i64 (q : Int))).run Tryd.prog W = .ok (u8 z) W := fun W => by rw [strIdxH (txt S) q hqs q rfl W, hzz]
          rw [← hzz] at hz
          have d7 : decide ((q : Int) < (N : Int)) = true := by simp; omega
          have w1' : wrap64 ((q : Int) + 1) = (q : Int) + 1 := IntWalk.wrap64_in _ (by have := HN2.out; omega)
          have hz28 : z ≠ 28 := fun e => HN28.out (by rw [e] at hz; exact List.mem_of_getElem? hz)
          have k2 : (((z.toNat : Nat) : Int) == 28) = false := by
            rw [beq_eq_false_iff_ne]; intro e; exact hz28 (UInt8.toNat_inj.1 (by show z.toNat = 28; omega))
          clear hzz hz28 hz
          go_wp2_with (fail)
          go_round
          case rel => exact ⟨q + 1, by omega, by go_num⟩
          case measure => simp [intOf]; omega
        · as_aux_lemma =>
          have d7 : decide ((q : Int) < (N : Int)) = false := by simp; omega
          go_wp2_with (fail)
          refine (alive11 w9 (HV.out _ HB9.out) (HS.out _ HB9.out) (HC.out _ HB9.out)).mono ?_
          rintro e wA ⟨rfl, hbA⟩
          have HXA := Lib.hid (HX9.out.below hbA)
          have HYA := Lib.hid (HY9.out.below hbA)
          have HZA := Lib.hid (HZ9.out.below hbA)
          have HBA := Lib.hid (HB9.out.trans (hbA.mono HB9.out.size))
          clear hbA HX9 HY9 HZ9 HB9
          have hce := HCC.out
          clear hqn d7
          go_wp2_with (first | (with_reducible refine wpList_loadHG (dst := some 80) G5 g (by kernel_rfl) (by kernel_rfl) HYA.out ?_) | (with_reducible refine wpList_loadHG (dst := some 81) w.heap.size g (by kernel_rfl) (by kernel_rfl) HXA.out ?_) | (with_reducible refine wpList_loadHG (dst := some 85) G9 g (by kernel_rfl) (by kernel_rfl) HZA.out ?_) | (with_reducible refine wpList_loadHG (dst := some 86) w.heap.size g (by kernel_rfl) (by kernel_rfl) HXA.out ?_) | (with_reducible refine wpList_loadHG (dst := some 101) w.heap.size g (by kernel_rfl) (by kernel_rfl) HXA.out ?_) | (with_reducible refine wpList_eqH g (by kernel_rfl) (by kernel_rfl) (by kernel_rfl) ?_))
          have hsz : g.a8.size ≤ 1000000000 ∧ g.a9.size ≤ 1000000000 := by
            have h1 := HSM.out
            have h2 := HLS.out
            have h3 : g.a8.size ≤ g.sum ∧ g.a9.size ≤ g.sum := by unfold Hd.sum; omega
            omega
          refine (check_ g wA (HV.out _ HBA.out) hsz.1 hsz.2).mono ?_
          rintro e wB ⟨rfl, hbB⟩
          rw [← HKC.out]
          have HBB := Lib.hid (HBA.out.trans (hbB.mono HBA.out.size))
          clear hbB hsz
          go_wp2_with (fail)
          go_ret
          exact ⟨rfl, HBB.out⟩
end Go.Proofs.YtgffamdlnacamaaDoor
