/- Layer 8: messages of segments, and the law's small functions, walked. -/
import Derived.Test.YtmambhopdbomfaaSeg7
import Derived.Test.YtmambhopdbomfaaBuilder
import Derived.LoopTactic
namespace Go.Proofs.Ytmambhopdbomfaa
open Go.RowKit

theorem lens_getD (T : List (List UInt8)) (k : Nat) (hk : k < T.length) : Lib.lens (T.take (k + 1)) = Lib.lens (T.take k) + (T.getD k []).length :=
  Lib.lens_take_succ T k _ (by rw [List.getD_eq_getElem?_getD, List.getElem?_eq_getElem hk]; rfl)
theorem take_getD (T : List (List UInt8)) (k : Nat) (hk : k < T.length) : T.take (k + 1) = T.take k ++ [T.getD k []] := by
  rw [List.take_succ_eq_append_getElem hk, List.getD_eq_getElem?_getD, List.getElem?_eq_getElem hk]; rfl

/-- segments, each with a 13 behind -/
def joinD (T : List (List UInt8)) : List UInt8 := (T.map (· ++ [13])).flatten
theorem joinD_snoc (T : List (List UInt8)) (x : List UInt8) : joinD (T ++ [x]) = joinD T ++ x ++ [13] := by simp [joinD]
theorem joinD_len (T : List (List UInt8)) : (joinD T).length = Lib.lens T + T.length := by
  induction T with
  | nil => rfl
  | cons a r ih =>
    simp only [joinD, Lib.lens] at ih ⊢
    simp only [List.map_cons, List.flatten_cons, List.length_append, List.length_cons, List.length_nil, List.sum_cons]
    omega

set_option maxHeartbeats 2000000 in
theorem bytes08 (A : Option Addr) (n cp : Nat) (T : List (List UInt8)) (w : World) (hS : Ss w A n cp T) (ht : Lib.lens T + T.length ≤ 1048576) (N : Nat) (hN : N = Lib.lens T + T.length) : Calls Try.prog 10 #[.slice A n cp] w fun e w' => e = .returned (.int .i64 (N : Int)) ∧ w' = w := by
  have HNN := Lib.hid hN
  have HS := Lib.hid hS
  have HT := Lib.hid ht
  have hmax := hS.nmax
  clear hS ht hN
  go_enter Try.func10, Try.ntmps10
  go_wp2_with (fail)
  go_loop [3, 8, 5] (fun v i _ => ∃ k : Nat, k ≤ n ∧ i = .int .i64 k ∧ v = .int .i64 ((Lib.lens (T.take k) + k : Nat) : Int)) (fun _ i _ => n - (intOf i).toNat)
  case atStart => exact ⟨0, Nat.zero_le _, rfl, rfl⟩
  case round =>
    obtain ⟨k, hk, rfl, rfl⟩ := hrel
    have hb1 := Lib.lens_take_le T k
    have hTl := HS.out.len
    by_cases hlt : k < n
    · have hl := lens_getD T k (by omega)
      have hb2 := Lib.lens_take_le T (k + 1)
      obtain ⟨b, o, rfl, _, hc⟩ := HS.out.read hlt
      have hTb := HT.out
      have e1 : (k : Int) < (n : Int) := by omega
      obtain ⟨p, hp⟩ : ∃ y, y = Lib.lens (T.take k) := ⟨_, rfl⟩
      rw [← hp] at hl hb1 ⊢
      generalize T.getD k [] = y at *
      have hq : ((p + k : Nat) : Int) ≤ 4000000 := by omega
      have hy : (y.length : Int) ≤ 1048576 := by omega
      have HL := Lib.hid hl
      have HLT := Lib.hid hlt
      clear hl hb1 hb2 hTl hlt hp hTb
      go_wp2_with (fail)
      exact ⟨⟨k + 1, HLT.out, by go_num, by rw [HL.out]; go_num⟩, by have := HLT.out; simp [intOf]; omega⟩
    · obtain rfl : k = n := by omega
      rw [List.take_of_length_le (by omega), ← hTl, ← HNN.out]
      clear hb1 hTl hlt
      go_wp2_with (fail)
      go_ret
      exact ⟨rfl, rfl⟩

set_option maxHeartbeats 1000000 in
set_option maxRecDepth 100000 in
theorem same08 (A A' : Option Addr) (n c c' : Nat) (T : List (List UInt8)) (w : World) (hS : Ss w A n c T) (hS' : Ss w A' n c' T) :
    Calls Try.prog 14 #[.slice A n c, .slice A' n c'] w fun e w' => e = .returned (.bool true) ∧ Below w.heap.size w w' := by
  have hmax := hS.nmax
  have HS := Lib.hid hS
  have HS' := Lib.hid hS'
  clear hS hS'
  go_enter Try.func14, Try.ntmps14
  go_wp2_with (fail)
  go_loopw [13, 5] (fun i _ wr => ∃ k : Nat, k ≤ n ∧ i = .int .i64 k ∧ Below w.heap.size w wr) (fun i _ _ => n - (intOf i).toNat)
  case atStart => exact ⟨0, Nat.zero_le _, rfl, Below.refl _ _⟩
  case round =>
    obtain ⟨k, hk, rfl, hb⟩ := hrel
    have HB := Lib.hid hb
    clear hb
    by_cases hlt : k < n
    · obtain ⟨b, o, rfl, _, hc⟩ := (HS.out.below HB.out).read hlt
      obtain ⟨b', o', rfl, _, hc'⟩ := (HS'.out.below HB.out).read hlt
      have e1 : (k : Int) < (n : Int) := by omega
      have e0 : (0 : Int) ≤ (k : Int) := by omega
      generalize T.getD k [] = y at *
      have HLT := Lib.hid hlt
      clear hlt
      go_wp2_with (fail)
      go_quiet (fail)
      go_wp2_with (fail)
      exact ⟨⟨k + 1, HLT.out, by go_num, drawN_below HB.out _⟩, by have := HLT.out; simp [intOf]; omega⟩
    · obtain rfl : k = n := by omega
      go_wp2_with (fail)
      go_ret
      exact ⟨rfl, HB.out⟩

theorem refName (s : ByteArray) (w : World) : Calls Try.prog 13 #[.string s] w fun e w' => e = .returned (.string (nameS s)) ∧ w' = w := by
  by_cases h : s.size < 3
  · have d1 : decide ((s.size : Int) < 3) = true := by simp; omega
    have hn : nameS s = s := by
      unfold nameS
      apply ba_ext
      rw [ex_list, List.drop_zero, List.take_of_length_le]
      have : s.data.toList.length = s.size := by simp
      omega
    rw [hn]
    clear hn
    go_enter Try.func13, Try.ntmps13
    go_wp2_with (fail)
    go_ret
    exact ⟨rfl, rfl⟩
  · have d1 : decide ((s.size : Int) < 3) = false := by simp; omega
    have h3 : (3 : Int) ≤ s.size := by omega
    have hn : nameS s = s.extract 0 3 := by unfold nameS; rw [show min s.size 3 = 3 by omega]
    rw [hn]
    clear hn
    go_enter Try.func13, Try.ntmps13
    go_wp2_with (fail)
    go_ret
    exact ⟨rfl, rfl⟩

set_option maxHeartbeats 2000000 in
set_option maxRecDepth 100000 in
theorem refSplit (A : Option Addr) (n cp : Nat) (l : List UInt8) (w : World) (hb : Bs w A n cp l) (hn : n ≤ 1000000) : Calls Try.prog 16 #[.slice A n cp] w (RetSs w (splitD l)) := by
  have hcv := hb.str (P := Try.prog) 22 5 9 Try.underlying22 Try.underlying5 Try.underlying9
  have hln := hb.len
  have HTZ : Hid ((txt l).size ≤ 1099511627000) := Lib.hid (by rw [txt_size']; omega)
  have HL : Hid ((cutAt 13 l).length ≤ n + 1) := Lib.hid (by have := cut_le 13 (txt l); rw [txt_size'] at this; rw [← hln]; exact this)
  clear hb hln
  go_enter Try.func16, Try.ntmps16
  go_wp2_with (fail)
  refine (refCut (txt l) 13 w HTZ.out).mono ?_
  rintro e w2 ⟨A2, c2, rfl, hS2, hb2⟩
  rw [show (txt l).data.toList = l from rfl] at hS2 ⊢
  have HT : Hid (0 < (cutAt 13 l).length) := Lib.hid (by rw [cutAt_length]; omega)
  obtain ⟨m1, hm1⟩ : ∃ m1 : Nat, ((cutAt 13 l).length : Int) - 1 = (m1 : Int) := ⟨(cutAt 13 l).length - 1, by have := HT.out; omega⟩
  have HM1 : Hid (m1 + 1 = (cutAt 13 l).length) := Lib.hid (by have := HT.out; omega)
  obtain ⟨b, o, rfl, _, hcell⟩ := hS2.read (i := m1) (by have := HM1.out; omega)
  have hx2 : (cutAt 13 l).getD m1 [] = (cutAt 13 l).getLastD [] := by
    rw [List.getLastD_eq_getLast?, List.getLast?_eq_getElem?, show (cutAt 13 l).length - 1 = m1 by have := HM1.out; omega, List.getD_eq_getElem?_getD]
  rw [hx2] at hcell
  have HSP : Hid (splitD l = if (cutAt 13 l).getLastD [] = [] then (cutAt 13 l).dropLast else cutAt 13 l) := Lib.hid rfl
  have HDL : Hid ((cutAt 13 l).dropLast = (cutAt 13 l).take m1) := Lib.hid (by rw [List.dropLast_eq_take, show (cutAt 13 l).length - 1 = m1 by have := HM1.out; omega])
  have HS2 := Lib.hid hS2
  have HB2 := Lib.hid hb2
  have hcap := hS2.le
  have hcm := hS2.max
  clear hx2 hS2 hb2
  generalize cutAt 13 l = T at *
  generalize T.getLastD [] = x at *
  have ew : IntKind.i64.wrap (m1 : Int) = (m1 : Int) := by rw [IntKind.wrap_i64]; have := HL.out; omega
  have hlt1 : (m1 : Int) < (T.length : Int) := by have := HM1.out; omega
  have hlt2 : (m1 : Int) ≤ (c2 : Int) := by have := HM1.out; omega
  by_cases hx : x = []
  · have dx : x.isEmpty = true := by rw [hx]; rfl
    have HSP2 : Hid (splitD l = T.take m1) := Lib.hid (by rw [HSP.out, if_pos hx, HDL.out])
    clear hx
    go_wp2_with (fail)
    go_ret
    have hl4 : (T.take m1).length = m1 := by rw [List.length_take]; have := HM1.out; omega
    refine ⟨some ⟨b, o, none⟩, c2, ?_, ?_, HB2.out⟩
    · rw [HSP2.out, hl4]; rfl
    · rw [HSP2.out, hl4]; exact HS2.out.take (by have := HM1.out; omega)
  · have dx : x.isEmpty = false := by
      cases x with
      | nil => exact absurd rfl hx
      | cons => rfl
    have HSP2 : Hid (splitD l = T) := Lib.hid (by rw [HSP.out, if_neg hx])
    clear hx
    go_wp2_with (fail)
    go_ret
    refine ⟨some ⟨b, o, none⟩, c2, ?_, ?_, HB2.out⟩
    · rw [HSP2.out]; rfl
    · rw [HSP2.out]; exact HS2.out

set_option maxHeartbeats 2000000 in
set_option maxRecDepth 100000 in
theorem refJoin (A : Option Addr) (n cp : Nat) (T : List (List UInt8)) (w : World) (hS : Ss w A n cp T) (ht : Lib.lens T + T.length ≤ 1048576) : Calls Try.prog 18 #[.slice A n cp] w fun e w' => e = .returned (.string (txt (joinD T))) ∧ Below w.heap.size w w' := by
  have HS := Lib.hid hS
  have HT := Lib.hid ht
  have hmax := hS.nmax
  clear hS ht
  go_enter Try.func18, Try.ntmps18
  go_wp2_with (fail)
  go_loopw [3, 4] (fun v i wr => ∃ k : Nat, k ≤ n ∧ i = .int .i64 k ∧ v = .string (txt (joinD (T.take k))) ∧ Below w.heap.size w wr) (fun _ i _ => n - (intOf i).toNat)
  case atStart => exact ⟨0, Nat.zero_le _, rfl, rfl, Below.refl _ _⟩
  case round =>
    obtain ⟨k, hk, rfl, rfl, hb⟩ := hrel
    have HB := Lib.hid hb
    clear hb
    have hTl := HS.out.len
    by_cases hlt : k < n
    · have e1 : (k : Int) < (n : Int) := by omega
      obtain ⟨b, o, rfl, _, hc⟩ := (HS.out.below HB.out).read hlt
      have hTk := take_getD T k (by omega)
      have hl2 : (T.take (k + 1)).length = k + 1 := by rw [List.length_take]; omega
      have hJ : (joinD (T.take (k + 1))).length ≤ 1048576 := by
        rw [joinD_len]
        have hle := Lib.lens_take_le T (k + 1)
        have hTT := HT.out
        omega
      obtain ⟨y, hy⟩ : ∃ y, y = T.getD k [] := ⟨_, rfl⟩
      rw [← hy] at hTk hc
      rw [hTk, joinD_snoc, List.length_append, List.length_append] at hJ
      rw [show ([13] : List UInt8).length = 1 from rfl] at hJ
      have HTK : Hid (joinD (T.take (k + 1)) = joinD (T.take k) ++ y ++ [13]) := Lib.hid (by rw [hTk, joinD_snoc])
      generalize joinD (T.take k) = J at *
      have ha1 := fun W => add_run (txt J) (txt y) (by rw [txt_size', txt_size']; omega) W
      have ha2 := fun W => add_run (txt (J ++ y)) ⟨#[13]⟩ (by rw [txt_size', List.length_append]; show J.length + y.length + 1 ≤ _; omega) W
      have h1 : ¬ 9223372036854775807 < J.length + y.length := by omega
      have h2 : ¬ 9223372036854775807 < J.length + y.length + 1 := by omega
      have HLT := Lib.hid hlt
      clear hTk hl2 hy hlt hTl hJ
      go_wp2_with (fail)
      exact ⟨⟨k + 1, HLT.out, by go_num, by rw [HTK.out, txt_append, txt_append], HB.out⟩, by have := HLT.out; simp [intOf]; omega⟩
    · obtain rfl : k = n := by omega
      rw [List.take_of_length_le (by omega)]
      go_wp2_with (fail)
      go_ret
      exact ⟨rfl, HB.out⟩

theorem own_snoc {w : World} {B : Nat} {v : Value} {l : List UInt8} {c : UInt8} (h : w.ownsRow B 5 1 v (l.length + 1) (u8s l ++ [.int .u8 (c.toNat : Int)])) : Own 5 w B v (l ++ [c]) := by
  unfold Own
  rw [List.length_append, show u8s (l ++ [c]) = u8s l ++ [u8 c] from List.map_append ..]
  exact h
/-- bytes in new memory -/
def RetB (w : World) (l : List UInt8) (e : Ending) (w' : World) : Prop :=
  ∃ A c, e = .returned (.slice A l.length c) ∧ Bs w' A l.length c l ∧ Below w.heap.size w w'

set_option maxHeartbeats 4000000 in
set_option maxRecDepth 100000 in
theorem segJoin (A : Option Addr) (n cp : Nat) (T : List (List UInt8)) (w : World) (hS : Ss w A n cp T) (ht : Lib.lens T + T.length ≤ 1048576) : Calls Try.prog 17 #[.slice A n cp] w (RetB w (joinD T)) := by
  have HS := Lib.hid hS
  have HT := Lib.hid ht
  have hmax := hS.nmax
  obtain ⟨i0, hi, hz0, hz1, hz2⟩ := info_parts (byteInfo : (Try.prog.info? 5).map (fun i => (i.zero, i.size, i.bytes)) = some (some (.int .u8 0), 1, 1))
  clear hS ht
  go_enter Try.func17, Try.ntmps17
  go_wp2_with (fail)
  go_loopw [3, 8, 5] (fun v i _ wr => ∃ k : Nat, k ≤ n ∧ i = .int .i64 k ∧ Own 5 wr w.heap.size v (joinD (T.take k)) ∧ Below w.heap.size w wr) (fun _ i _ _ => n - (intOf i).toNat)
  case atStart => exact ⟨0, Nat.zero_le _, rfl, World.ownsRow_nil _ _ _ _, Below.refl _ _⟩
  case round =>
    obtain ⟨k, hk, rfl, hown, hb⟩ := hrel
    have HB := Lib.hid hb
    have HO := Lib.hid hown
    clear hb hown
    have hTl := HS.out.len
    by_cases hlt : k < n
    · have e1 : (k : Int) < (n : Int) := by omega
      obtain ⟨b, o, rfl, _, hc⟩ := (HS.out.below HB.out).read hlt
      have hTk := take_getD T k (by omega)
      have hl2 : (T.take (k + 1)).length = k + 1 := by rw [List.length_take]; omega
      have hJ : (joinD (T.take (k + 1))).length ≤ 1048576 := by
        rw [joinD_len]
        have hle := Lib.lens_take_le T (k + 1)
        have hTT := HT.out
        omega
      obtain ⟨y, hy⟩ : ∃ y, y = T.getD k [] := ⟨_, rfl⟩
      rw [← hy] at hTk hc
      rw [hTk, joinD_snoc, List.length_append, List.length_append] at hJ
      rw [show ([13] : List UInt8).length = 1 from rfl] at hJ
      have HTK : Hid (joinD (T.take (k + 1)) = joinD (T.take k) ++ y ++ [13]) := Lib.hid (by rw [hTk, joinD_snoc])
      generalize joinD (T.take k) = J at *
      have HJ := Lib.hid hJ
      have HSZ : Hid ((txt y).size = y.length) := Lib.hid (txt_size' y)
      have HSC : Hid (Lib.strCells (txt y) = u8s y) := Lib.hid (by simp [Lib.strCells, u8s])
      have HBS : Hid (w.heap.size ≤ wr.heap.size) := Lib.hid HB.out.size
      obtain ⟨Av, cv, rfl, _⟩ := HO.out.bs
      have HLT := Lib.hid hlt
      have tok1 : Hid True := Lib.hid trivial
      clear hTk hl2 hy hlt hTl hJ
      have tok2 : Hid True := Lib.hid trivial
      go_wp2_with (at_builtin; (first | (have _t := tok1; go_loud ((refine Lib.wpList_append_own_string _ rfl (.tmp 12) (.tmp 13) 22 9 rfl w.heap.size 5 i0 Try.underlying22 Try.underlying9 hi hz0 hz1 hz2 (.slice Av J.length cv) J.length (u8s J) rfl HO.out (txt y) rfl (by rw [HSZ.out]; have := HJ.out; unfold maxLen; omega) (by rw [HSZ.out]; have := HJ.out; omega) HBS.out ?_; intro v2 w2 hown2 hgr2 hfr2; have HO2 : Hid (Own 5 w2 w.heap.size v2 (J ++ y)) := Lib.hid (by unfold Own; rw [List.length_append]; rw [HSZ.out, HSC.out] at hown2; simpa using hown2); have HB2 := Lib.hid (HB.out.grown hgr2 HBS.out (fun k hk => (World.ownsRow.lt HO.out k hk).1)); obtain ⟨A2, c2, rfl⟩ := own_form (show w2.ownsRow w.heap.size 5 1 v2 (J ++ y).length (u8s (J ++ y)) from HO2.out); rw [List.length_append] at HO2 ⊢; have HNW := Lib.hid (newRow w2 13); have HO3 := Lib.hid (HO2.out.below ((Below.refl w2.heap.size w2).alloc (Nat.le_refl _) (.cells #[u8 13] 5))); have HBZ : Hid (w.heap.size ≤ (w2.alloc (.cells #[u8 13] 5)).heap.size) := Lib.hid (by have := HB2.out.size; simp; omega); clear tok1 hown2 hgr2 hfr2 _t))) | (have _t := tok2; go_loud ((refine wpList_appAt rfl (.tmp 15) (.tmp 16) 22 rfl w.heap.size 5 (.int .u8 0) 1 Try.underlying22 byteInfo rfl (by decide) (.slice A2 (J.length + y.length) c2) (J ++ y).length (u8s (J ++ y)) rfl HO3.out ⟨w2.heap.size, 0, none⟩ 1 1 [.int .u8 13] rfl rfl HNW.out (oneRow 13) (by have := HJ.out; rw [List.length_append]; omega) HBZ.out ?_; intro v3 w3 hown3 hgr3 hfr3; have HO4 : Hid (Own 5 w3 w.heap.size v3 (J ++ y ++ [13])) := Lib.hid (own_snoc (c := 13) hown3); have HB3 := Lib.hid ((HB2.out.alloc HB2.out.size _).grown hgr3 HBZ.out (fun k hk => (World.ownsRow.lt HO3.out k hk).1)); obtain ⟨A3, c3, rfl⟩ := own_form hown3; clear tok2 hown3 hgr3 hfr3 _t)))))
      exact ⟨⟨k + 1, HLT.out, by go_num, by rw [HTK.out, ← List.length_append]; exact HO4.out, HB3.out⟩, by have := HLT.out; simp [intOf]; omega⟩
    · obtain rfl : k = n := by omega
      rw [List.take_of_length_le (by omega)] at HO
      obtain ⟨Av, cv, rfl, hBs, _⟩ := HO.out.bs
      have HBB := Lib.hid hBs
      clear hBs hTl hlt
      go_wp2_with (fail)
      go_ret
      exact ⟨Av, cv, rfl, HBB.out, HB.out⟩
end Go.Proofs.Ytmambhopdbomfaa
