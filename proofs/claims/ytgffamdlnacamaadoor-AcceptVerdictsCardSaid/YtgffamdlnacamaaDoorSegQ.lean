/- Laid together: Seg8, Seg9, Seg10, Seg11. -/
import Derived.Test.YtgffamdlnacamaaDoorSegP
import Derived.Test.YtgffamdlnacamaaDoorBuilder
import Derived.LoopTactic
import Derived.BigQuiet
import Derived.Deep.RegionLaw

/- Layer 8: messages of segments, and the law's small functions, walked. -/
namespace Go.Proofs.YtgffamdlnacamaaDoor
open Go.RowKit

theorem lens_getD (T : List (List UInt8)) (k : Nat) (hk : k < T.length) : Lib.lens (T.take (k + 1)) = Lib.lens (T.take k) + (T.getD k []).length :=
  Lib.lens_take_succ T k _ (by rw [List.getD_eq_getElem?_getD, List.getElem?_eq_getElem hk]; rfl)
theorem take_getD (T : List (List UInt8)) (k : Nat) (hk : k < T.length) : T.take (k + 1) = T.take k ++ [T.getD k []] := by
  rw [List.take_succ_eq_append_getElem hk, List.getD_eq_getElem?_getD, List.getElem?_eq_getElem hk]; rfl

/-- segments, each with a 13 behind -/
def joinD (T : List (List UInt8)) : List UInt8 := (T.map (· ++ [13])).flatten
theorem joinD_snoc (T : List (List UInt8)) (x : List UInt8) : joinD (T ++ [x]) = joinD T ++ x ++ [13] := by simp [joinD]
theorem joinD_len (T : List (List UInt8)) : (joinD T).length = Lib.lens T + T.length := by
  induction T with
  | nil => rfl
  | cons a r ih =>
    simp only [joinD, Lib.lens] at ih ⊢
    simp only [List.map_cons, List.flatten_cons, List.length_append, List.length_cons, List.length_nil, List.sum_cons]
    omega

theorem refName (s : ByteArray) (w : World) : Calls Tryd.prog 83 #[.string s] w fun e w' => e = .returned (.string (nameS s)) ∧ w' = w := by
  by_cases h : s.size < 3
  · have d1 : decide ((s.size : Int) < 3) = true := by simp; omega
    have hn : nameS s = s := by
      unfold nameS
      apply ba_ext
      rw [ex_list, List.drop_zero, List.take_of_length_le]
      have : s.data.toList.length = s.size := by simp
      omega
    rw [hn]
    clear hn
    go_enter Tryd.func83, Tryd.ntmps83
    go_wp2_with (fail)
    go_ret
    exact ⟨rfl, rfl⟩
  · have d1 : decide ((s.size : Int) < 3) = false := by simp; omega
    have h3 : (3 : Int) ≤ s.size := by omega
    have hn : nameS s = s.extract 0 3 := by unfold nameS; rw [show min s.size 3 = 3 by omega]
    rw [hn]
    clear hn
    go_enter Tryd.func83, Tryd.ntmps83
    go_wp2_with (fail)
    go_ret
    exact ⟨rfl, rfl⟩

set_option maxHeartbeats 2000000 in
set_option maxRecDepth 100000 in
theorem refSplit (A : Option Addr) (n cp : Nat) (l : List UInt8) (w : World) (hb : Bs w A n cp l) (hn : n ≤ 1000000) : Calls Tryd.prog 48 #[.slice A n cp] w (RetSs w (splitD l)) := by
  have hcv := hb.str (P := Tryd.prog) 22 5 9 Tryd.underlying22 Tryd.underlying5 Tryd.underlying9
  have hln := hb.len
  have HTZ : Hid ((txt l).size ≤ 1099511627000) := Lib.hid (by rw [txt_size']; omega)
  have HL : Hid ((cutAt 13 l).length ≤ n + 1) := Lib.hid (by have := cut_le 13 (txt l); rw [txt_size'] at this; rw [← hln]; exact this)
  clear hb hln
  go_enter Tryd.func48, Tryd.ntmps48
  go_wp2_with (fail)
  refine (refCut (txt l) 13 w HTZ.out).mono ?_
  rintro e w2 ⟨A2, c2, rfl, hS2, hb2⟩
  rw [show (txt l).data.toList = l from rfl] at hS2 ⊢
  have HT : Hid (0 < (cutAt 13 l).length) := Lib.hid (by rw [cutAt_length]; omega)
  obtain ⟨m1, hm1⟩ : ∃ m1 : Nat, ((cutAt 13 l).length : Int) - 1 = (m1 : Int) := ⟨(cutAt 13 l).length - 1, by have := HT.out; omega⟩
  have HM1 : Hid (m1 + 1 = (cutAt 13 l).length) := Lib.hid (by have := HT.out; omega)
  obtain ⟨b, o, rfl, _, hcell⟩ := hS2.read (i := m1) (by have := HM1.out; omega)
  have hx2 : (cutAt 13 l).getD m1 [] = (cutAt 13 l).getLastD [] := by
    rw [List.getLastD_eq_getLast?, List.getLast?_eq_getElem?, show (cutAt 13 l).length - 1 = m1 by have := HM1.out; omega, List.getD_eq_getElem?_getD]
  rw [hx2] at hcell
  have HSP : Hid (splitD l = if (cutAt 13 l).getLastD [] = [] then (cutAt 13 l).dropLast else cutAt 13 l) := Lib.hid rfl
  have HDL : Hid ((cutAt 13 l).dropLast = (cutAt 13 l).take m1) := Lib.hid (by rw [List.dropLast_eq_take, show (cutAt 13 l).length - 1 = m1 by have := HM1.out; omega])
  have HS2 := Lib.hid hS2
  have HB2 := Lib.hid hb2
  have hcap := hS2.le
  have hcm := hS2.max
  clear hx2 hS2 hb2
  generalize cutAt 13 l = T at *
  generalize T.getLastD [] = x at *
  have ew : IntKind.i64.wrap (m1 : Int) = (m1 : Int) := by rw [IntKind.wrap_i64]; have := HL.out; omega
  have hlt1 : (m1 : Int) < (T.length : Int) := by have := HM1.out; omega
  have hlt2 : (m1 : Int) ≤ (c2 : Int) := by have := HM1.out; omega
  by_cases hx : x = []
  · have dx : x.isEmpty = true := by rw [hx]; rfl
    have HSP2 : Hid (splitD l = T.take m1) := Lib.hid (by rw [HSP.out, if_pos hx, HDL.out])
    clear hx
    go_wp2_with (fail)
    go_ret
    have hl4 : (T.take m1).length = m1 := by rw [List.length_take]; have := HM1.out; omega
    refine ⟨some ⟨b, o, none⟩, c2, ?_, ?_, HB2.out⟩
    · rw [HSP2.out, hl4]; rfl
    · rw [HSP2.out, hl4]; exact HS2.out.take (by have := HM1.out; omega)
  · have dx : x.isEmpty = false := by
      cases x with
      | nil => exact absurd rfl hx
      | cons => rfl
    have HSP2 : Hid (splitD l = T) := Lib.hid (by rw [HSP.out, if_neg hx])
    clear hx
    go_wp2_with (fail)
    go_ret
    refine ⟨some ⟨b, o, none⟩, c2, ?_, ?_, HB2.out⟩
    · rw [HSP2.out]; rfl
    · rw [HSP2.out]; exact HS2.out

set_option maxHeartbeats 2000000 in
set_option maxRecDepth 100000 in
theorem refJoin (A : Option Addr) (n cp : Nat) (T : List (List UInt8)) (w : World) (hS : Ss w A n cp T) (ht : Lib.lens T + T.length ≤ 1048576) : Calls Tryd.prog 57 #[.slice A n cp] w fun e w' => e = .returned (.string (txt (joinD T))) ∧ Below w.heap.size w w' := by
  have HS := Lib.hid hS
  have HT := Lib.hid ht
  have hmax := hS.nmax
  clear hS ht
  go_enter Tryd.func57, Tryd.ntmps57
  go_wp2_with (fail)
  go_loopw [3, 4] (fun v i wr => ∃ k : Nat, k ≤ n ∧ i = .int .i64 k ∧ v = .string (txt (joinD (T.take k))) ∧ Below w.heap.size w wr) (fun _ i _ => n - (intOf i).toNat)
  case atStart => exact ⟨0, Nat.zero_le _, rfl, rfl, Below.refl _ _⟩
  case round =>
    obtain ⟨k, hk, rfl, rfl, hb⟩ := hrel
    have HB := Lib.hid hb
    clear hb
    have hTl := HS.out.len
    by_cases hlt : k < n
    · have e1 : (k : Int) < (n : Int) := by omega
      obtain ⟨b, o, rfl, _, hc⟩ := (HS.out.below HB.out).read hlt
      have hTk := take_getD T k (by omega)
      have hl2 : (T.take (k + 1)).length = k + 1 := by rw [List.length_take]; omega
      have hJ : (joinD (T.take (k + 1))).length ≤ 1048576 := by
        rw [joinD_len]
        have hle := Lib.lens_take_le T (k + 1)
        have hTT := HT.out
        omega
      obtain ⟨y, hy⟩ : ∃ y, y = T.getD k [] := ⟨_, rfl⟩
      rw [← hy] at hTk hc
      rw [hTk, joinD_snoc, List.length_append, List.length_append] at hJ
      rw [show ([13] : List UInt8).length = 1 from rfl] at hJ
      have HTK : Hid (joinD (T.take (k + 1)) = joinD (T.take k) ++ y ++ [13]) := Lib.hid (by rw [hTk, joinD_snoc])
      generalize joinD (T.take k) = J at *
      have ha1 := fun W => add_run (txt J) (txt y) (by rw [txt_size', txt_size']; omega) W
      have ha2 := fun W => add_run (txt (J ++ y)) ⟨#[13]⟩ (by rw [txt_size', List.length_append]; show J.length + y.length + 1 ≤ _; omega) W
      have h1 : ¬ 9223372036854775807 < J.length + y.length := by omega
      have h2 : ¬ 9223372036854775807 < J.length + y.length + 1 := by omega
      have HLT := Lib.hid hlt
      clear hTk hl2 hy hlt hTl hJ
      go_wp2_with (fail)
      exact ⟨⟨k + 1, HLT.out, by go_num, by rw [HTK.out, txt_append, txt_append], HB.out⟩, by have := HLT.out; simp [intOf]; omega⟩
    · obtain rfl : k = n := by omega
      rw [List.take_of_length_le (by omega)]
      go_wp2_with (fail)
      go_ret
      exact ⟨rfl, HB.out⟩

theorem own_snoc {w : World} {B : Nat} {v : Value} {l : List UInt8} {c : UInt8} (h : w.ownsRow B 5 1 v (l.length + 1) (u8s l ++ [.int .u8 (c.toNat : Int)])) : Own 5 w B v (l ++ [c]) := by
  unfold Own
  rw [List.length_append, show u8s (l ++ [c]) = u8s l ++ [u8 c] from List.map_append ..]
  exact h
/-- bytes in new memory -/
def RetB (w : World) (l : List UInt8) (e : Ending) (w' : World) : Prop :=
  ∃ A c, e = .returned (.slice A l.length c) ∧ Bs w' A l.length c l ∧ Below w.heap.size w w'

set_option maxHeartbeats 4000000 in
set_option maxRecDepth 100000 in
theorem segJoin (A : Option Addr) (n cp : Nat) (T : List (List UInt8)) (w : World) (hS : Ss w A n cp T) (ht : Lib.lens T + T.length ≤ 1048576) : Calls Tryd.prog 53 #[.slice A n cp] w (RetB w (joinD T)) := by
  have HS := Lib.hid hS
  have HT := Lib.hid ht
  have hmax := hS.nmax
  obtain ⟨i0, hi, hz0, hz1, hz2⟩ := info_parts (byteInfo : (Tryd.prog.info? 5).map (fun i => (i.zero, i.size, i.bytes)) = some (some (.int .u8 0), 1, 1))
  clear hS ht
  go_enter Tryd.func53, Tryd.ntmps53
  go_wp2_with (fail)
  go_loopw [3, 8, 5] (fun v i _ wr => ∃ k : Nat, k ≤ n ∧ i = .int .i64 k ∧ Own 5 wr w.heap.size v (joinD (T.take k)) ∧ Below w.heap.size w wr) (fun _ i _ _ => n - (intOf i).toNat)
  case atStart => exact ⟨0, Nat.zero_le _, rfl, World.ownsRow_nil _ _ _ _, Below.refl _ _⟩
  case round =>
    obtain ⟨k, hk, rfl, hown, hb⟩ := hrel
    have HB := Lib.hid hb
    have HO := Lib.hid hown
    clear hb hown
    have hTl := HS.out.len
    by_cases hlt : k < n
    · have e1 : (k : Int) < (n : Int) := by omega
      obtain ⟨b, o, rfl, _, hc⟩ := (HS.out.below HB.out).read hlt
      have hTk := take_getD T k (by omega)
      have hl2 : (T.take (k + 1)).length = k + 1 := by rw [List.length_take]; omega
      have hJ : (joinD (T.take (k + 1))).length ≤ 1048576 := by
        rw [joinD_len]
        have hle := Lib.lens_take_le T (k + 1)
        have hTT := HT.out
        omega
      obtain ⟨y, hy⟩ : ∃ y, y = T.getD k [] := ⟨_, rfl⟩
      rw [← hy] at hTk hc
      rw [hTk, joinD_snoc, List.length_append, List.length_append] at hJ
      rw [show ([13] : List UInt8).length = 1 from rfl] at hJ
      have HTK : Hid (joinD (T.take (k + 1)) = joinD (T.take k) ++ y ++ [13]) := Lib.hid (by rw [hTk, joinD_snoc])
      generalize joinD (T.take k) = J at *
      have HJ := Lib.hid hJ
      have HSZ : Hid ((txt y).size = y.length) := Lib.hid (txt_size' y)
      have HSC : Hid (Lib.strCells (txt y) = u8s y) := Lib.hid (by simp [Lib.strCells, u8s])
      have HBS : Hid (w.heap.size ≤ wr.heap.size) := Lib.hid HB.out.size
      obtain ⟨Av, cv, rfl, _⟩ := HO.out.bs
      have HLT := Lib.hid hlt
      have tok1 : Hid True := Lib.hid trivial
      clear hTk hl2 hy hlt hTl hJ
      have tok2 : Hid True := Lib.hid trivial
      go_wp2_with (at_builtin; (first | (have _t := tok1; go_loud ((refine Lib.wpList_append_own_string _ rfl (.tmp 12) (.tmp 13) 22 9 rfl w.heap.size 5 i0 Tryd.underlying22 Tryd.underlying9 hi hz0 hz1 hz2 (.slice Av J.length cv) J.length (u8s J) rfl HO.out (txt y) rfl (by rw [HSZ.out]; have := HJ.out; unfold maxLen; omega) (by rw [HSZ.out]; have := HJ.out; omega) HBS.out ?_; intro v2 w2 hown2 hgr2 hfr2; have HO2 : Hid (Own 5 w2 w.heap.size v2 (J ++ y)) := Lib.hid (by unfold Own; rw [List.length_append]; rw [HSZ.out, HSC.out] at hown2; simpa using hown2); have HB2 := Lib.hid (HB.out.grown hgr2 HBS.out (fun k hk => (World.ownsRow.lt HO.out k hk).1)); obtain ⟨A2, c2, rfl⟩ := own_form (show w2.ownsRow w.heap.size 5 1 v2 (J ++ y).length (u8s (J ++ y)) from HO2.out); rw [List.length_append] at HO2 ⊢; have HNW := Lib.hid (newRow w2 13); have HO3 := Lib.hid (HO2.out.below ((Below.refl w2.heap.size w2).alloc (Nat.le_refl _) (.cells #[u8 13] 5))); have HBZ : Hid (w.heap.size ≤ (w2.alloc (.cells #[u8 13] 5)).heap.size) := Lib.hid (by have := HB2.out.size; simp; omega); clear tok1 hown2 hgr2 hfr2 _t))) | (have _t := tok2; go_loud ((refine wpList_appAt rfl (.tmp 15) (.tmp 16) 22 rfl w.heap.size 5 (.int .u8 0) 1 Tryd.underlying22 byteInfo rfl (by decide) (.slice A2 (J.length + y.length) c2) (J ++ y).length (u8s (J ++ y)) rfl HO3.out ⟨w2.heap.size, 0, none⟩ 1 1 [.int .u8 13] rfl rfl HNW.out (oneRow 13) (by have := HJ.out; rw [List.length_append]; omega) HBZ.out ?_; intro v3 w3 hown3 hgr3 hfr3; have HO4 : Hid (Own 5 w3 w.heap.size v3 (J ++ y ++ [13])) := Lib.hid (own_snoc (c := 13) hown3); have HB3 := Lib.hid ((HB2.out.alloc HB2.out.size _).grown hgr3 HBZ.out (fun k hk => (World.ownsRow.lt HO3.out k hk).1)); obtain ⟨A3, c3, rfl⟩ := own_form hown3; clear tok2 hown3 hgr3 hfr3 _t)))))
      exact ⟨⟨k + 1, HLT.out, by go_num, by rw [HTK.out, ← List.length_append]; exact HO4.out, HB3.out⟩, by have := HLT.out; simp [intOf]; omega⟩
    · obtain rfl : k = n := by omega
      rw [List.take_of_length_le (by omega)] at HO
      obtain ⟨Av, cv, rfl, hBs, _⟩ := HO.out.bs
      have HBB := Lib.hid hBs
      clear hBs hTl hlt
      go_wp2_with (fail)
      go_ret
      exact ⟨Av, cv, rfl, HBB.out, HB.out⟩
end Go.Proofs.YtgffamdlnacamaaDoor

/- Layer 8: a segment of a name and fields, walked. -/
namespace Go.Proofs.YtgffamdlnacamaaDoor
open Go.RowKit

/-- what stands ahead of the field number k -/
def sepD (name : ByteArray) (c : UInt8) (k : Nat) : List UInt8 := if name = mshB ∧ k ≤ 1 then [] else [c]
/-- the segment, as far as its first k fields -/
def mkTo (name : ByteArray) (c : UInt8) (T : List (List UInt8)) : Nat → List UInt8
  | 0 => name.data.toList
  | k + 1 => mkTo name c T k ++ sepD name c k ++ T.getD k []
def makeD (name : ByteArray) (c : UInt8) (T : List (List UInt8)) : List UInt8 := mkTo name c T T.length
theorem sepD_len (name : ByteArray) (c : UInt8) (k : Nat) : (sepD name c k).length ≤ 1 := by unfold sepD; split <;> simp
theorem mkTo_len (name : ByteArray) (c : UInt8) (T : List (List UInt8)) : ∀ k, k ≤ T.length → (mkTo name c T k).length ≤ name.size + Lib.lens (T.take k) + k
  | 0, _ => by simp [mkTo]
  | k + 1, h => by
    have h1 := mkTo_len name c T k (by omega)
    have h2 := sepD_len name c k
    have h3 := lens_getD T k (by omega)
    simp only [mkTo, List.length_append]
    omega

set_option maxHeartbeats 4000000 in
set_option maxRecDepth 100000 in
theorem segMake (d : Sgn) (name : ByteArray) (A : Option Addr) (n cp : Nat) (T : List (List UInt8)) (w : World) (hS : Ss w A n cp T) (hnm : name.size ≤ 1048576) (ht : Lib.lens T + T.length ≤ 1048576) : Calls Tryd.prog 40 #[d.v, .string name, .slice A n cp] w fun e w' => e = .returned (str (makeD name d.a T)) ∧ Below w.heap.size w w' := by
  have HS := Lib.hid (hS.below ((Below.refl _ w).alloc (Nat.le_refl _) (.cells #[u8 d.a, u8 d.b, u8 d.c, u8 d.d, u8 d.e] 25)))
  have HT := Lib.hid ht
  have HNM := Lib.hid hnm
  have hmax := hS.nmax
  have hTl := hS.len
  have HLEN := Lib.hid hTl
  have HX0 : Hid (BoxS d w.heap.size (boxSgn d w)) := Lib.hid (heap_alloc_new w _)
  have HB0 : Hid (Below w.heap.size w (boxSgn d w)) := Lib.hid (boxSgn_below d w)
  clear hS ht hnm hTl
  go_enter Tryd.func40, Tryd.ntmps40
  go_wp2_with (fail)
  generalize hw0 : w.alloc (.cells #[u8 d.a, u8 d.b, u8 d.c, u8 d.d, u8 d.e] 25) = w0 at *
  rw [show boxSgn d w = w0 from hw0] at HX0 HB0
  have HZ0 : Hid (w0.heap.size = w.heap.size + 1) := Lib.hid (by rw [← hw0]; simp)
  have HBU : Hid (Bu w0.heap.size w0.heap.size [] (w0.alloc (.cells #[.pointer none, .slice none 0 0] TB))) := Lib.hid (Bu.new (Nat.le_refl _))
  have HBA : Hid (Below w0.heap.size w0 (w0.alloc (.cells #[.pointer none, .slice none 0 0] TB))) := Lib.hid ((Below.refl _ _).alloc (Nat.le_refl _) _)
  clear hw0
  rw [HZ0.out] at HBU HBA
  obtain ⟨B, hB⟩ : ∃ B, B = w.heap.size + 1 := ⟨_, rfl⟩
  rw [← hB] at HBU HBA HZ0 ⊢
  have HBE := Lib.hid hB
  clear hB
  generalize (w0.alloc (.cells #[.pointer none, .slice none 0 0] TB)) = w3 at *
  have HW3 : Hid (B ≤ w3.heap.size) := Lib.hid (by have := HBA.out.size; have := HZ0.out; omega)
  refine (buString_ B B [] name.data.toList w3 HBU.out (by have := HNM.out; simp; omega) HW3.out).mono ?_
  rintro e w4 ⟨rfl, hbu, hb4⟩
  have HBU4 := Lib.hid hbu
  have HB4 : Hid (Below B w0 w4) := Lib.hid (HBA.out.trans hb4)
  clear hbu hb4 HBU
  go_wp2_with (fail)
  go_loopw [14, 8, 9] (fun i _ _ wr => ∃ k : Nat, k ≤ n ∧ i = .int .i64 k ∧ Bu B B (mkTo name d.a T k) wr ∧ Below B w0 wr) (fun i _ _ _ => n - (intOf i).toNat)
  case atStart => exact ⟨0, Nat.zero_le _, rfl, by simpa [mkTo] using HBU4.out, HB4.out⟩
  case round =>
    obtain ⟨wo, rfl⟩ : ∃ wo : World, wo = wr := ⟨_, rfl⟩
    obtain ⟨k, hk, rfl, hbu, hb⟩ := hrel
    have HBU := Lib.hid hbu
    have HB := Lib.hid hb
    have HSO := Lib.hid (HS.out.below (hb.mono (Nat.le_of_eq HZ0.out)))
    have HXO := Lib.hid (HX0.out.below (hb.mono (Nat.le_of_eq HZ0.out)))
    have HSZ : Hid (B ≤ wo.heap.size) := Lib.hid (by have := hb.size; have := HZ0.out; omega)
    clear hbu hb HBU4 HB4
    have HLN : Hid ((mkTo name d.a T k).length ≤ 2097152) := Lib.hid (by
      have h1 := mkTo_len name d.a T k (by have := HLEN.out; omega)
      have h2 := Lib.lens_take_le T k
      have h3 := HT.out
      have h4 := HNM.out
      have h5 := HLEN.out
      omega)
    by_cases hlt : k < n
    · have e1 : (k : Int) < (n : Int) := by omega
      obtain ⟨b, o, rfl, hbl, hc⟩ := HSO.out.read hlt
      obtain ⟨c0, c1, c2, c3, c4⟩ := HXO.out.cells
      obtain ⟨y, hy⟩ : ∃ y, y = T.getD k [] := ⟨_, rfl⟩
      rw [← hy] at hc
      have HMK : Hid (mkTo name d.a T (k + 1) = mkTo name d.a T k ++ sepD name d.a k ++ y) := Lib.hid (by rw [hy]; rfl)
      have HYL : Hid (y.length ≤ 1048576) := Lib.hid (by
        have h1 := lens_getD T k (by have := HLEN.out; omega)
        have h2 := Lib.lens_take_le T (k + 1)
        have h3 := HT.out
        rw [hy]; omega)
      have HLT := Lib.hid hlt
      clear hy hlt hk
      by_cases hm : name = mshB ∧ k ≤ 1
      · have hs : sepD name d.a k = [] := if_pos hm
        have d1 : (name.toList == [77, 83, 72]) = true := by rw [hm.1, Go.ByteArray.toList_eq]; rfl
        have d2 : decide ((1 : Int) < (k : Int)) = false := by simp; omega
        have hk1 : k ≤ 1 := hm.2
        have HSP := Lib.hid hs
        clear hs hm
        go_wp2_with (fail)
        refine (buString_ B B (mkTo name d.a T k) y wo HBU.out (by have := HLN.out; have := HYL.out; omega) HSZ.out).mono ?_
        rintro e w5 ⟨rfl, hbu5, hb5⟩
        have HBU5 := Lib.hid hbu5
        have HB5 : Hid (Below B w0 w5) := Lib.hid (HB.out.trans hb5)
        clear hbu5 hb5
        go_wp2_with (fail)
        exact ⟨⟨k + 1, HLT.out, by go_num, by rw [HMK.out, HSP.out, List.append_nil]; exact HBU5.out, HB5.out⟩, by have := HLT.out; simp [intOf]; omega⟩
      · have hs : sepD name d.a k = [d.a] := if_neg hm
        have HSP := Lib.hid hs
        have HTL : Hid ((mkTo name d.a T k ++ [d.a]).length ≤ 2097153) := Lib.hid (by rw [List.length_append]; have := HLN.out; simp; omega)
        clear hs
        by_cases hn : name = mshB
        · have hk1 : 1 < k := by
            rcases Nat.lt_or_ge 1 k with h | h
            · exact h
            · exact absurd ⟨hn, h⟩ hm
          have d1 : (name.toList == [77, 83, 72]) = true := by rw [hn, Go.ByteArray.toList_eq]; rfl
          have d2 : decide ((1 : Int) < (k : Int)) = true := by simp; omega
          clear hm hn
          go_wp2_with (fail)
          refine (buByte B B (mkTo name d.a T k) d.a wo HBU.out (by have := HLN.out; omega) HSZ.out).mono ?_
          rintro e w5 ⟨rfl, hbu5, hb5⟩
          have HBU5 := Lib.hid hbu5
          have HB5 : Hid (Below B w0 w5) := Lib.hid (HB.out.trans hb5)
          have HS5 : Hid (B ≤ w5.heap.size) := Lib.hid (Nat.le_trans HSZ.out hb5.size)
          clear hbu5 hb5
          go_wp2_with (fail)
          refine (buString_ B B (mkTo name d.a T k ++ [d.a]) y w5 HBU5.out (by have := HTL.out; have := HYL.out; omega) HS5.out).mono ?_
          rintro e w6 ⟨rfl, hbu6, hb6⟩
          have HBU6 := Lib.hid hbu6
          have HB6 : Hid (Below B w0 w6) := Lib.hid (HB5.out.trans hb6)
          clear hbu6 hb6
          go_wp2_with (fail)
          exact ⟨⟨k + 1, HLT.out, by go_num, by rw [HMK.out, HSP.out]; exact HBU6.out, HB6.out⟩, by have := HLT.out; simp [intOf]; omega⟩
        · have d1 : (name.toList == [77, 83, 72]) = false := by
            rw [Go.ByteArray.toList_eq, beq_eq_false_iff_ne]
            exact fun e => hn (ByteArray.ext (Array.toList_inj.1 e))
          clear hm hn
          go_wp2_with (fail)
          refine (buByte B B (mkTo name d.a T k) d.a wo HBU.out (by have := HLN.out; omega) HSZ.out).mono ?_
          rintro e w5 ⟨rfl, hbu5, hb5⟩
          have HBU5 := Lib.hid hbu5
          have HB5 : Hid (Below B w0 w5) := Lib.hid (HB.out.trans hb5)
          have HS5 : Hid (B ≤ w5.heap.size) := Lib.hid (Nat.le_trans HSZ.out hb5.size)
          clear hbu5 hb5
          go_wp2_with (fail)
          refine (buString_ B B (mkTo name d.a T k ++ [d.a]) y w5 HBU5.out (by have := HTL.out; have := HYL.out; omega) HS5.out).mono ?_
          rintro e w6 ⟨rfl, hbu6, hb6⟩
          have HBU6 := Lib.hid hbu6
          have HB6 : Hid (Below B w0 w6) := Lib.hid (HB5.out.trans hb6)
          clear hbu6 hb6
          go_wp2_with (fail)
          exact ⟨⟨k + 1, HLT.out, by go_num, by rw [HMK.out, HSP.out]; exact HBU6.out, HB6.out⟩, by have := HLT.out; simp [intOf]; omega⟩
    · obtain rfl : k = n := by omega
      have HMD : Hid (makeD name d.a T = mkTo name d.a T k) := Lib.hid (by unfold makeD; rw [HLEN.out])
      clear hlt hk
      go_wp2_with (fail)
      refine (Tryd.Builder_String_any B B (mkTo name d.a T k) wo HBU.out HSZ.out).mono ?_
      rintro e w4 ⟨rfl, hb4⟩
      have HB4 : Hid (Below w.heap.size w w4) := Lib.hid (HB0.out.trans ((HB.out.trans hb4).mono (by have := HBE.out; omega)))
      clear hb4
      go_wp2_with (fail)
      go_ret
      exact ⟨by rw [HMD.out]; rfl, HB4.out⟩
end Go.Proofs.YtgffamdlnacamaaDoor

/- Layer 8: the answer's Make, Fields and Field, walked. -/
namespace Go.Proofs.YtgffamdlnacamaaDoor
open Go.RowKit

set_option maxHeartbeats 4000000 in
set_option maxRecDepth 100000 in
theorem refMake (d : Sgn) (name : ByteArray) (A : Option Addr) (n cp : Nat) (T : List (List UInt8)) (w : World) (hS : Ss w A n cp T) (hnm : name.size ≤ 1048576) (ht : Lib.lens T + T.length ≤ 1048576) : Calls Tryd.prog 58 #[d.v, .string name, .slice A n cp] w fun e w' => e = .returned (str (makeD name d.a T)) ∧ Below w.heap.size w w' := by
  have HS := Lib.hid (hS.below (boxSgn_below d w))
  have HT := Lib.hid ht
  have HNM := Lib.hid hnm
  have hmax := hS.nmax
  have HLEN := Lib.hid hS.len
  have HX0 : Hid (BoxS d w.heap.size (boxSgn d w)) := Lib.hid (heap_alloc_new w _)
  have HB0 : Hid (Below w.heap.size w (boxSgn d w)) := Lib.hid (boxSgn_below d w)
  clear hS ht hnm
  go_enter Tryd.func58, Tryd.ntmps58
  go_wp2_with (fail)
  generalize hw0 : w.alloc (.cells #[u8 d.a, u8 d.b, u8 d.c, u8 d.d, u8 d.e] 25) = w0 at *
  rw [show boxSgn d w = w0 from hw0] at HX0 HB0 HS
  clear hw0
  go_loopw [7, 8] (fun v i wr => ∃ k : Nat, k ≤ n ∧ i = .int .i64 k ∧ v = .string (txt (mkTo name d.a T k)) ∧ Below w0.heap.size w0 wr) (fun _ i _ => n - (intOf i).toNat)
  case atStart => exact ⟨0, Nat.zero_le _, rfl, rfl, Below.refl _ _⟩
  case round =>
    obtain ⟨wo, rfl⟩ : ∃ wo : World, wo = wr := ⟨_, rfl⟩
    obtain ⟨k, hk, rfl, rfl, hb⟩ := hrel
    have HB := Lib.hid hb
    have HSO := Lib.hid (HS.out.below hb)
    have HXO := Lib.hid (HX0.out.below hb)
    clear hb
    have HLN : Hid ((mkTo name d.a T k).length ≤ 2097152) := Lib.hid (by
      have h1 := mkTo_len name d.a T k (by have := HLEN.out; omega)
      have h2 := Lib.lens_take_le T k
      have h3 := HT.out
      have h4 := HNM.out
      have h5 := HLEN.out
      omega)
    by_cases hlt : k < n
    · have e1 : (k : Int) < (n : Int) := by omega
      obtain ⟨b, o, rfl, hbl, hc⟩ := HSO.out.read hlt
      obtain ⟨c0, c1, c2, c3, c4⟩ := HXO.out.cells
      obtain ⟨y, hy⟩ : ∃ y, y = T.getD k [] := ⟨_, rfl⟩
      rw [← hy] at hc
      have HMK : Hid (mkTo name d.a T (k + 1) = mkTo name d.a T k ++ sepD name d.a k ++ y) := Lib.hid (by rw [hy]; rfl)
      have HYL : Hid (y.length ≤ 1048576) := Lib.hid (by
        have h1 := lens_getD T k (by have := HLEN.out; omega)
        have h2 := Lib.lens_take_le T (k + 1)
        have h3 := HT.out
        rw [hy]; omega)
      have HLT := Lib.hid hlt
      clear hy hlt hk
      generalize mkTo name d.a T k = M at *
      by_cases hm : name = mshB ∧ k ≤ 1
      · have hs : sepD name d.a k = [] := if_pos hm
        have d1 : (name.toList == [77, 83, 72]) = true := by rw [hm.1, Go.ByteArray.toList_eq]; rfl
        have d2 : decide ((1 : Int) < (k : Int)) = false := by simp; omega
        have hk1 : k ≤ 1 := hm.2
        have HSP := Lib.hid hs
        have h1 : ¬ 9223372036854775807 < M.length + y.length := by have := HLN.out; have := HYL.out; omega
        clear hs hm
        go_wp2_with (fail)
        exact ⟨⟨k + 1, HLT.out, by go_num, by rw [HMK.out, HSP.out, List.append_nil, txt_append], HB.out⟩, by have := HLT.out; simp [intOf]; omega⟩
      · have hs : sepD name d.a k = [d.a] := if_neg hm
        have HSP := Lib.hid hs
        have h1 : ¬ 9223372036854775807 < M.length + 1 := by have := HLN.out; omega
        have h2 : ¬ 9223372036854775807 < M.length + 1 + y.length := by have := HLN.out; have := HYL.out; omega
        have hcv := (Bs.of_block (w := wo.alloc (.cells #[u8 d.a] 5)) (g := wo.heap.size) (n := 1) (c := 1) (l := [d.a]) (heap_alloc_new wo _) (by rfl) rfl (by decide) (by decide)).str (P := Tryd.prog) 22 5 9 Tryd.underlying22 Tryd.underlying5 Tryd.underlying9
        have hc2 : (wo.alloc (.cells #[u8 d.a] 5)).cell? ⟨b, o + k, none⟩ = some (str y) := (((Below.refl wo.heap.size wo).alloc (Nat.le_refl _) _).cell (p := ⟨b, o + k, none⟩) hbl).trans hc
        have HB2 : Hid (Below w0.heap.size w0 (wo.alloc (.cells #[u8 d.a] 5))) := Lib.hid (HB.out.alloc HB.out.size _)
        have h3 : ¬ 9223372036854775807 < M.length + (txt [d.a]).size := by rw [txt_size']; have := HLN.out; simp; omega
        clear hs
        by_cases hn : name = mshB
        · have hk1 : 1 < k := by
            rcases Nat.lt_or_ge 1 k with h | h
            · exact h
            · exact absurd ⟨hn, h⟩ hm
          have d1 : (name.toList == [77, 83, 72]) = true := by rw [hn, Go.ByteArray.toList_eq]; rfl
          have d2 : decide ((1 : Int) < (k : Int)) = true := by simp; omega
          clear hm hn
          go_wp2_with (fail)
          exact ⟨⟨k + 1, HLT.out, by go_num, by rw [HMK.out, HSP.out, txt_append, txt_append], HB2.out⟩, by have := HLT.out; simp [intOf]; omega⟩
        · have d1 : (name.toList == [77, 83, 72]) = false := by
            rw [Go.ByteArray.toList_eq, beq_eq_false_iff_ne]
            exact fun e => hn (ByteArray.ext (Array.toList_inj.1 e))
          clear hm hn
          go_wp2_with (fail)
          exact ⟨⟨k + 1, HLT.out, by go_num, by rw [HMK.out, HSP.out, txt_append, txt_append], HB2.out⟩, by have := HLT.out; simp [intOf]; omega⟩
    · obtain rfl : k = n := by omega
      have HMD : Hid (makeD name d.a T = mkTo name d.a T k) := Lib.hid (by unfold makeD; rw [HLEN.out])
      clear hlt hk
      go_wp2_with (fail)
      go_ret
      exact ⟨by rw [HMD.out]; rfl, HB0.out.trans (HB.out.mono HB0.out.size)⟩
end Go.Proofs.YtgffamdlnacamaaDoor

/- Layer 8: the answer's Fields and Field, walked. -/
namespace Go.Proofs.YtgffamdlnacamaaDoor
open Go.RowKit

theorem Ss.drop {w : World} {A : Option Addr} {n c : Nat} {T : List (List UInt8)} (h : Ss w A n c T) {q : Nat} (hq : q ≤ n) : Ss w (if c = q then A else Option.map (fun x => x.add q) A) (n - q) (c - q) (T.drop q) := by
  obtain ⟨h1, h2, h3, h4⟩ := h
  refine ⟨by rw [List.length_drop, h1], by omega, by omega, fun hn => ?_⟩
  obtain ⟨b, o, rfl, hc⟩ := h4 (by omega)
  rw [if_neg (by omega)]
  refine ⟨b, o + q, by simp [Addr.add], fun i x hx => ?_⟩
  rw [List.getElem?_drop] at hx
  have := hc _ _ hx
  rw [Nat.add_assoc]
  exact this

theorem step_strs {ops : Array Oper} {o : Oper} {a : Act} {w : World} {K : Act → World → Prop} {Q : Exit → Act → World → Prop} {E : Prop} (hgd : o.guard = none) (s x : Operand)
    (ho : o.op = .call { callee := .builtin .append, args := #[s, x], argTypes := #[47, 47] }) (base : Nat)
    (v : Value) (T : List (List UInt8)) (hs : a.eval s = v) (hown : OwnS w base v T) (A : Option Addr) (m c : Nat) (U : List (List UInt8)) (hx : a.eval x = .slice A m c) (hU : Ss w A m c U) (h0 : 0 < m) (hn : T.length + m ≤ 1099511627776) (hbase : base ≤ w.heap.size)
    (h : ∀ v' w', OwnS w' base v' (T ++ U) → Below base w w' → w.grownBy w' v.ownBlock → K (a.put o.dst v') w') :
    if Region.wanted o (yielded ops a.tmps) = true then Oper.wp Tryd.prog o a w K Q else E := by
  have hw : Region.wanted o (yielded ops a.tmps) = true := by simp [Region.wanted, hgd]
  rw [if_pos hw]
  have hi : (Tryd.prog.info? 9).map (fun i => (i.zero, i.size, i.bytes)) = some (some (.string ByteArray.empty), 1, 16) := by kernel_rfl
  obtain ⟨i, hi, hzz⟩ := Option.map_eq_some_iff.1 hi
  simp only [Prod.mk.injEq] at hzz
  have hUl := hU.len
  obtain ⟨b, off, rfl, _, hc⟩ := hU.at_ h0
  obtain ⟨v', w', hrun, h2, h3, _, _⟩ := run_append_own_at (P := Tryd.prog) w base 47 o.type 9 i (.string ByteArray.empty) 1 16 Tryd.underlying47 hi hzz.1 hzz.2.1 hzz.2.2 rfl (by decide) v T.length (T.map str) hown ⟨b, off, none⟩ m c (U.map str) (by rw [List.length_map, hUl, Nat.mul_one])
    (fun j z hz => by
      rw [List.getElem?_map] at hz
      cases hj : U[j]? with
      | none => rw [hj] at hz; cases hz
      | some y =>
        rw [hj] at hz
        simp only [Option.map_some, Option.some.injEq] at hz
        subst hz
        rw [Addr.add_lit]
        exact hc j y hj) (fun z hz => by
      obtain ⟨y, _, rfl⟩ := List.mem_map.1 hz
      rfl) (by simp only [maxLen]; omega) (by omega) hbase
  unfold Oper.wp
  simp [execOp, ho, resolve, invoke, builtin, hs, hx, hrun, Result.andThen]
  refine h v' w' ?_ ((Below.refl _ _).grown h3 hbase fun k hk => (World.ownsRow.lt hown k hk).1) h3
  unfold OwnS
  rw [List.length_append, List.map_append, hUl]
  exact h2

theorem strIdx (x : ByteArray) (j : Nat) (h : j < x.size) (z : Int) (hz : z = (j : Int)) (W : World) : (Instr.index 9 (.string x) (.int .i64 z)).run Tryd.prog W = .ok (u8 x[j]) W := by
  subst hz
  simp [Instr.index, asIntOf, run_underlying Tryd.underlying9, go_sem, h]

set_option maxHeartbeats 8000000 in
set_option maxRecDepth 100000 in
theorem refFields (s : ByteArray) (d : Sgn) (w : World) (hs : s.size ≤ 1000000) : Calls Tryd.prog 49 #[.string s, d.v] w (RetSs w (fieldsD s d.a)) := by
  have HB0 := Lib.hid (boxSgn_below d w)
  have HX0 : Hid (BoxS d w.heap.size (boxSgn d w)) := Lib.hid (heap_alloc_new w _)
  have HS := Lib.hid hs
  obtain ⟨c0, c1, c2, c3, c4⟩ := HX0.out.cells
  clear hs
  by_cases hm : nameS s = mshB
  · have d1 := name_t hm
    by_cases h4 : s.size < 4
    · have d2 : decide ((s.size : Int) < 4) = true := by simp; omega
      have hf : fieldsD s d.a = [] := by
        unfold fieldsD
        rw [if_pos hm]
        unfold behD
        rw [if_neg (by omega)]
      have HFF := Lib.hid hf
      clear hf hm h4
      go_enter Tryd.func49, Tryd.ntmps49
      go_wp2_with (fail)
      refine (refName s _).mono ?_
      rintro e w1 ⟨rfl, rfl⟩
      go_wp2_with (fail)
      go_quiet (fail)
      go_wp2_with (fail)
      go_ret
      exact RetSs.nil HFF.out (drawN_below HB0.out _)
    · have d2 : decide ((s.size : Int) < 4) = false := by simp; omega
      have h3 : 3 < s.size := by omega
      have ix := fun W => strIdx s 3 h3 3 rfl W
      have hix : s.data[3]'h3 = s.data.toList.getD 3 0 := by
        rw [List.getD_eq_getElem?_getD, List.getElem?_eq_getElem (by simpa using h3)]; rfl
      by_cases hc : s.data.toList.getD 3 0 = d.a
      · have d3 : ((((s.data[3]'h3).toNat : Nat) : Int) != ((d.a.toNat : Nat) : Int)) = false := by rw [hix, hc]; simp
        have d4 : ((((s[3]'h3).toNat : Nat) : Int) != ((d.a.toNat : Nat) : Int)) = false := d3
        have hb : behD s d.a = some (s.extract 4 s.size) := if_pos ⟨h3, hc⟩
        have hex : s.extract 3 4 = txt [d.a] := by
          apply ba_ext
          rw [ex_list, List.drop_eq_getElem_cons (by simpa using h3)]
          rw [show 4 - 3 = 1 from rfl, List.take_succ_cons, List.take_zero]
          rw [← hc, List.getD_eq_getElem?_getD, List.getElem?_eq_getElem (by simpa using h3)]
          rfl
        have hf : fieldsD s d.a = [d.a] :: cutAt d.a (s.extract 4 s.size).data.toList := by unfold fieldsD; rw [if_pos hm, hb]
        have HFF := Lib.hid hf
        have HEX := Lib.hid hex
        have h44 : (4 : Int) ≤ s.size := by omega
        have HR : Hid ((s.extract 4 s.size).size ≤ 1000000) := Lib.hid (by rw [ByteArray.size_extract]; have := HS.out; omega)
        have HCL : Hid (0 < (cutAt d.a (s.extract 4 s.size).data.toList).length ∧ (cutAt d.a (s.extract 4 s.size).data.toList).length ≤ 1000001) := Lib.hid ⟨by rw [cutAt_length]; omega, by have := cut_le d.a (s.extract 4 s.size); have := HR.out; omega⟩
        clear hb hf hm h4 hix hc hex
        go_enter Tryd.func49, Tryd.ntmps49
        go_wp2_with (fail)
        refine (refName s _).mono ?_
        rintro e w1 ⟨rfl, rfl⟩
        go_wp2_with (fail)
        go_quiet (fail)
        go_wp2_with (fail)
        have HB1 : Hid (Below w.heap.size w ((boxSgn d w).drewN nq)) := Lib.hid (drawN_below HB0.out nq)
        have HX1 : Hid (BoxS d w.heap.size ((boxSgn d w).drewN nq)) := Lib.hid (HX0.out.below (drawN_below (Below.refl _ _) nq))
        rw [show (w.alloc (.cells #[.int .u8 (d.a.toNat : Int), .int .u8 (d.b.toNat : Int), .int .u8 (d.c.toNat : Int), .int .u8 (d.d.toNat : Int), .int .u8 (d.e.toNat : Int)] 25)).drewN nq = (boxSgn d w).drewN nq from rfl]
        clear c0 c1 c2 c3 c4
        generalize (boxSgn d w).drewN nq = w1 at *
        obtain ⟨c0, c1, c2, c3, c4⟩ := HX1.out.cells
        have c0a : (w1.alloc (.cells #[.string (s.extract 3 4)] 9)).cell? ⟨w.heap.size, 0, none⟩ = some (u8 d.a) := (((Below.refl w1.heap.size w1).alloc (Nat.le_refl _) _).cell (p := ⟨w.heap.size, 0, none⟩) (Array.getElem?_eq_some_iff.1 HX1.out).1).trans c0
        have tok1 : Hid True := Lib.hid trivial
        have tok2 : Hid True := Lib.hid trivial
        clear c1 c2 c3 c4 d1 d2 d3 d4 ix
        have HONE : Hid (∀ (W : World) (B : Nat), B ≤ W.heap.size → OwnS (W.alloc (.cells #[.string (s.extract 3 4)] 9)) B (.slice (some ⟨W.heap.size, 0, none⟩) 1 1) [[d.a]]) := Lib.hid (fun W B hB => by rw [HEX.out]; exact OwnS.one W [d.a] hB)
        obtain ⟨U, hU⟩ : ∃ U, U = cutAt d.a (s.extract 4 s.size).data.toList := ⟨_, rfl⟩
        have HU := Lib.hid hU
        rw [← hU] at HCL HFF
        clear hU
        go_region_law (first
          | (have _t := tok1; go_loud (refine step_strs rfl (.tmp 25) (.tmp 30) rfl w.heap.size _ [[d.a]] rfl (by first | exact (HONE.out w1 w.heap.size HB1.out.size).below ((Below.refl _ _).drew.trans HBCC.out) | exact (HONE.out w1 w.heap.size HB1.out.size).below HBCC.out | exact HONE.out wC w.heap.size HBC.out.size) A2 U.length c2' U rfl (by first | exact HSC.out | exact HSC.out.below ((Below.refl _ _).alloc (Nat.le_refl _) _)) HCL.out.1 (by have := HCL.out.2; simp; omega) (by first | exact HBC.out.size | exact (HBC.out.alloc HBC.out.size _).size) ?_)
             intro v3 w3 hown3 hb3 _
             have HB3 : Hid (Below w.heap.size w w3) := Lib.hid (by first | exact HBC.out.trans hb3 | exact (HBC.out.alloc HBC.out.size _).trans hb3)
             obtain ⟨A3, c3', rfl, hS3, _⟩ := hown3.ss
             have HS3 := Lib.hid hS3
             clear tok1 hown3 hb3 hS3 _t)
          | (go_simp; go_at_call 82; have _t := tok2; go_loud ((refine (refCut (s.extract 4 s.size) d.a _ (by have := HR.out; omega)).mono ?_; rintro e wC ⟨A2, c2', rfl, hS2, hbC⟩; rw [← HU.out] at hS2 ⊢; have HSC := Lib.hid hS2; have HBC : Hid (Below w.heap.size w wC) := Lib.hid (by first | exact (HB1.out.alloc HB1.out.size _).drew.trans (hbC.mono (HB1.out.alloc HB1.out.size _).drew.size) | exact HB1.out.drew.trans (hbC.mono HB1.out.drew.size) | exact HB1.out.trans (hbC.mono HB1.out.size)); have HBCC := Lib.hid hbC; clear tok2 hS2 hbC _t))))
        all_goals
          go_wp2_with (fail)
          go_ret
          refine ⟨A3, c3', ?_, ?_, HB3.out⟩
          · rw [HFF.out]; rfl
          · rw [HFF.out]; exact HS3.out
      · have d3 : ((((s.data[3]'h3).toNat : Nat) : Int) != ((d.a.toNat : Nat) : Int)) = true := by
          rw [hix, bne_iff_ne]; intro e; exact hc (UInt8.toNat_inj.1 (by omega))
        have d4 : ((((s[3]'h3).toNat : Nat) : Int) != ((d.a.toNat : Nat) : Int)) = true := d3
        have hf : fieldsD s d.a = [] := by
          unfold fieldsD
          rw [if_pos hm]
          unfold behD
          rw [if_neg (fun h => hc h.2)]
        have HFF := Lib.hid hf
        clear hf hm h4 hix hc
        go_enter Tryd.func49, Tryd.ntmps49
        go_wp2_with (fail)
        refine (refName s _).mono ?_
        rintro e w1 ⟨rfl, rfl⟩
        go_wp2_with (fail)
        go_quiet (fail)
        go_wp2_with (fail)
        go_ret
        exact RetSs.nil HFF.out (drawN_below HB0.out _)
  · have d1 := name_f hm
    have hf : fieldsD s d.a = (cutAt d.a s.data.toList).drop 1 := by unfold fieldsD; rw [if_neg hm, List.drop_one]
    have HFF := Lib.hid hf
    clear hf hm
    go_enter Tryd.func49, Tryd.ntmps49
    go_wp2_with (fail)
    refine (refName s _).mono ?_
    rintro e w1 ⟨rfl, rfl⟩
    go_wp2_with (fail)
    refine (refCut s d.a _ (by have := HS.out; omega)).mono ?_
    rintro e w2 ⟨A, c, rfl, hS, hb2⟩
    have HT := Lib.hid hS
    have HB2 := Lib.hid (HB0.out.trans (hb2.mono HB0.out.size))
    have hl0 : (1 : Int) ≤ ((cutAt d.a s.data.toList).length : Int) := by have := cutAt_length d.a s.data.toList; omega
    have HL0 : Hid (1 ≤ (cutAt d.a s.data.toList).length) := Lib.hid (by omega)
    obtain ⟨b, o, rfl, _, _⟩ := hS.at_ (by omega)
    have hle := hS.le
    have hmx := hS.max
    generalize cutAt d.a s.data.toList = T at *
    obtain ⟨m1, hm1⟩ : ∃ m1 : Nat, (T.length : Int) - 1 = (m1 : Int) := ⟨T.length - 1, by omega⟩
    have HM1 : Hid (m1 = T.length - 1) := Lib.hid (by omega)
    clear hS hb2 c0 c1 c2 c3 c4
    by_cases hc1 : c = 1
    · subst hc1
      have HD := Lib.hid (HT.out.drop (q := 1) HL0.out)
      rw [if_pos rfl] at HD
      have HTL : Hid (T.length - 1 = 0) := Lib.hid (by have := HT.out.le; omega)
      go_wp2_with (fail)
      go_ret
      have h1 : fieldsD s d.a = [] := by
        rw [HFF.out]
        exact List.drop_eq_nil_of_le (by have := HTL.out; omega)
      refine ⟨some ⟨b, o, none⟩, 0, by rw [h1]; rfl, ?_, HB2.out⟩
      rw [h1]
      exact Ss.nil _ _ _ (by simp [maxLen])
    · have HD := Lib.hid (HT.out.drop (q := 1) HL0.out)
      rw [if_neg hc1] at HD
      go_wp2_with (fail)
      go_ret
      refine ⟨some ⟨b, o + 1, none⟩, c - 1, ?_, ?_, HB2.out⟩
      · rw [HFF.out, List.length_drop]; rfl
      · rw [HFF.out, List.length_drop]
        have := HD.out
        simp only [Option.map_some, Addr.add] at this
        exact this

theorem fieldsD_len (s : ByteArray) (c : UInt8) : (fieldsD s c).length ≤ s.size + 1 := by
  have h1 := cut_le c s
  unfold fieldsD
  split
  · split
    · simp
    · rename_i r hb
      have h2 := behD_size hb
      have h3 := cut_le c r
      simp; omega
  · rw [List.length_tail]; omega

end Go.Proofs.YtgffamdlnacamaaDoor
