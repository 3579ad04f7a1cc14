/- Layer 19: Hex and Bytes, walked. -/
import Derived.Test.YtnoppnnpennddaaDoorTrM
import Derived.Test.YtnoppnnpennddaaDoorBuilder
import Derived.Test.YtnoppnnpennddaaDoorShelf
namespace Go.Proofs.YtnoppnnpennddaaDoor
open Go.RowKit

theorem idxL (c : UInt8) (w : World) : Calls Tryd.prog 35 #[.string ⟨#[48, 49, 50, 51, 52, 53, 54, 55, 56, 57, 97, 98, 99, 100, 101, 102]⟩, .int .u8 (c.toNat : Int)] w fun e w' => e = .returned (.int .i64 (hexL c)) ∧ w' = w := by
  have := Tryd.strings_IndexByte ⟨#[48, 49, 50, 51, 52, 53, 54, 55, 56, 57, 97, 98, 99, 100, 101, 102]⟩ (c.toNat : Int) w
  have e : ((c.toNat : Int).toNat.toUInt8) = c := by simp
  rw [e] at this
  exact this
theorem getD_ix (x : ByteArray) (k : Nat) (h : k < x.size) : x.data.toList.getD k 0 = x[k] := by
  rw [List.getD_eq_getElem?_getD, List.getElem?_eq_getElem (by simpa using h)]
  rfl
theorem strIx (x : ByteArray) (j : Nat) (h : j < x.size) (z : Int) (hz : z = (j : Int)) (W : World) : (Instr.index 9 (.string x) (.int .i64 z)).run Tryd.prog W = .ok (u8 x[j]) W := by
  subst hz
  simp [Instr.index, asIntOf, run_underlying Tryd.underlying9, go_sem, h]
theorem strIxU (x : ByteArray) (j : Nat) (h : j < x.size) (z : Int) (hz : z = (j : Int)) (W : World) : (Instr.index 9 (.string x) (.int .u8 z)).run Tryd.prog W = .ok (u8 x[j]) W := by
  subst hz
  simp [Instr.index, asIntOf, run_underlying Tryd.underlying9, go_sem, h]
/-- a digit out of the row of digits -/
theorem digIx (k : Nat) (h : k < 16) (z : Int) (hz : z = (k : Int)) (W : World) : (Instr.index 9 (.string ⟨#[48, 49, 50, 51, 52, 53, 54, 55, 56, 57, 97, 98, 99, 100, 101, 102]⟩) (.int .u8 z)).run Tryd.prog W = .ok (u8 (digL.getD k 0)) W := by
  have hs : k < (⟨#[48, 49, 50, 51, 52, 53, 54, 55, 56, 57, 97, 98, 99, 100, 101, 102]⟩ : ByteArray).size := h
  have e : (⟨#[48, 49, 50, 51, 52, 53, 54, 55, 56, 57, 97, 98, 99, 100, 101, 102]⟩ : ByteArray)[k] = digL.getD k 0 := by
    rw [← getD_ix _ k hs]
  rw [← e]
  exact strIxU _ k hs z hz W
theorem byteInfoT : (Tryd.prog.info? 5).map (fun i => (i.zero, i.size, i.bytes)) = some (some (.int .u8 0), 1, 1) := by kernel_rfl
theorem and15 (c : UInt8) : bits BinOp.and IntKind.u8 (c.toNat : Int) 15 = ((c.toNat % 16 : Nat) : Int) := by
  have key : ∀ k : Fin 256, bits BinOp.and IntKind.u8 ((k.val : Nat) : Int) 15 = ((k.val % 16 : Nat) : Int) := by decide +kernel
  exact key ⟨c.toNat, c.toNat_lt⟩
set_option maxHeartbeats 2000000 in
set_option maxRecDepth 100000 in
theorem hex_ (A : Option Addr) (n c : Nat) (l : List UInt8) (w : World) (hB : Bs w A n c l) (hn : n ≤ 100000000) :
    Calls Tryd.prog 16 #[.slice A n c] w fun e w' => e = .returned (str (hexD l)) ∧ Below w.heap.size w w' := by
  have HL := Lib.hid hB.len
  have HN := Lib.hid hn
  by_cases h0 : n = 0
  · subst h0
    obtain rfl := hB.empty
    clear hB
    go_enter Tryd.func16, Tryd.ntmps16
    go_wp2_with (fail)
    go_ret
    exact ⟨rfl, Below.refl _ _⟩
  have HD : Hid (hexD l = l.flatMap hexT) := Lib.hid (if_neg (by intro e; have := hB.len; rw [e] at this; simp at this; omega))
  have en : ((n : Int) == 0) = false := by rw [beq_eq_false_iff_ne]; omega
  obtain ⟨b, o, rfl, hb, hc⟩ := hB.at_ (by omega)
  have HC := Lib.hid hc
  have HBU : Hid (Bu w.heap.size w.heap.size [] (w.alloc (.cells #[.pointer none, .slice none 0 0] TB))) := Lib.hid (Bu.new (Nat.le_refl _))
  have HBA : Hid (Below w.heap.size w (w.alloc (.cells #[.pointer none, .slice none 0 0] TB))) := Lib.hid ((Below.refl _ _).alloc (Nat.le_refl _) _)
  have HBL := Lib.hid hb
  clear hB hc hn hb h0
  go_enter Tryd.func16, Tryd.ntmps16
  go_wp2_with (fail)
  go_loopw [11, 5] (fun i _ wr => ∃ k : Nat, k ≤ n ∧ i = .int .i64 k ∧ Bu w.heap.size w.heap.size ((l.take k).flatMap hexT) wr ∧ Below w.heap.size w wr) (fun i _ _ => n - (intOf i).toNat)
  case atStart => exact ⟨0, by omega, rfl, HBU.out, HBA.out⟩
  case round =>
    clear HBU HBA
    obtain ⟨wo, rfl⟩ : ∃ wo : World, wo = wr := ⟨_, rfl⟩
    obtain ⟨k, hk, rfl, hbu, hb⟩ := hrel
    have HBU := Lib.hid hbu
    have HB := Lib.hid hb
    clear hbu hb
    by_cases hlt : k < n
    · have hkl : k < l.length := by have := HL.out; omega
      have hcell : wo.cell? ⟨b, o + k, none⟩ = some (u8 l[k]) := (HB.out.cell (p := ⟨b, o + k, none⟩) HBL.out).trans (HC.out k _ (List.getElem?_eq_getElem hkl))
      have HT : Hid ((l.take (k + 1)).flatMap hexT = (l.take k).flatMap hexT ++ [digL.getD (l[k].toNat / 16) 0] ++ [digL.getD (l[k].toNat % 16) 0]) := Lib.hid (by
        rw [List.take_succ_eq_append_getElem hkl, List.flatMap_append]
        simp [hexT])
      have HTL : Hid (((l.take k).flatMap hexT).length ≤ 2 * n) := Lib.hid (by rw [flat_len, List.length_take]; omega)
      obtain ⟨x, hx⟩ : ∃ x, x = l[k] := ⟨_, rfl⟩
      rw [← hx] at hcell HT
      have hx1 := x.toNat_lt
      have ix1 := fun W => digIx (x.toNat / 16) (by omega) ((x.toNat : Int) / 16) (by omega) W
      have ix2 := fun W => digIx (x.toNat % 16) (by omega) (bits BinOp.and IntKind.u8 (x.toNat : Int) 15) (and15 x) W
      obtain ⟨d1, hd1⟩ : ∃ d, d = digL.getD (x.toNat / 16) 0 := ⟨_, rfl⟩
      obtain ⟨d2, hd2⟩ : ∃ d, d = digL.getD (x.toNat % 16) 0 := ⟨_, rfl⟩
      rw [← hd1] at ix1 HT
      rw [← hd2] at ix2 HT
      have hw1 : IntKind.i64.wrap ((k : Int) + 1) = (k : Int) + 1 := IntWalk.i64_in _ (by have := HN.out; omega)
      clear hkl hx hx1 hd1 hd2
      go_wp2_with (fail)
      refine (buByte w.heap.size w.heap.size ((l.take k).flatMap hexT) d1 wo HBU.out (by have := HTL.out; have := HN.out; omega) HB.out.size).mono ?_
      rintro e w1 ⟨rfl, hbu1, hb1⟩
      have HBU1 := Lib.hid hbu1
      have HB1 : Hid (Below w.heap.size w w1) := Lib.hid (HB.out.trans hb1)
      clear hbu1 hb1 hcell
      go_wp2_with (fail)
      refine (buByte w.heap.size w.heap.size ((l.take k).flatMap hexT ++ [d1]) d2 w1 HBU1.out (by rw [List.length_append, List.length_singleton]; have := HTL.out; have := HN.out; omega) HB1.out.size).mono ?_
      rintro e w2 ⟨rfl, hbu2, hb2⟩
      rw [← HT.out] at hbu2
      have HBU2 := Lib.hid hbu2
      have HB2 : Hid (Below w.heap.size w w2) := Lib.hid (HB1.out.trans hb2)
      clear hbu2 hb2
      go_wp2_with (fail)
      exact ⟨⟨k + 1, by omega, rfl, HBU2.out, HB2.out⟩, by simp [intOf]; omega⟩
    · obtain rfl : k = n := by omega
      have HT : Hid ((l.take k).flatMap hexT = hexD l) := Lib.hid (by rw [HD.out, List.take_of_length_le (by have := HL.out; omega)])
      rw [HT.out] at HBU
      clear hlt
      go_wp2_with (fail)
      refine (Tryd.Builder_String_any w.heap.size w.heap.size (hexD l) wo HBU.out HB.out.size).mono ?_
      rintro e w4 ⟨rfl, hb4⟩
      have HB4 : Hid (Below w.heap.size w w4) := Lib.hid (HB.out.trans hb4)
      clear hb4
      go_wp2_with (fail)
      go_ret
      exact ⟨rfl, HB4.out⟩

/-- what a call gives that answers bytes and whether there are some -/
def RetO (r : Option (List UInt8)) (w : World) (e : Ending) (w' : World) : Prop :=
  ∃ A m c, e = .returned (.tuple #[.slice A m c, .bool r.isSome]) ∧ Bs w' A m c (r.getD []) ∧ (∀ b, A = some b → w.heap.size ≤ b.block) ∧ Below w.heap.size w w'
theorem RetO.none_ {w w' : World} (hb : Below w.heap.size w w') : RetO none w (.returned (.tuple #[.slice none 0 0, .bool false])) w' :=
  ⟨none, 0, 0, rfl, Bs.none_ _, (fun b h => by cases h), hb⟩

set_option maxHeartbeats 2000000 in
set_option maxRecDepth 100000 in
theorem bytes_ (x : ByteArray) (w : World) (hx : x.size ≤ 100000000) : Calls Tryd.prog 17 #[.string x] w (RetO (bytesD x.data.toList) w) := by
  by_cases h1 : x.data.toList = [45]
  · have e1 : (x.toList == [45]) = true := by rw [Go.ByteArray.toList_eq, h1]; rfl
    have HE : Hid (bytesD x.data.toList = some []) := Lib.hid (if_pos h1)
    clear h1
    go_enter Tryd.func17, Tryd.ntmps17
    go_wp2_with (fail)
    go_ret2
    rw [HE.out]
    exact ⟨none, 0, 0, rfl, Bs.none_ _, (fun b h => by cases h), Below.refl _ _⟩
  have e1 : (x.toList == [45]) = false := by rw [Go.ByteArray.toList_eq, beq_eq_false_iff_ne]; exact h1
  by_cases h2 : x.data.toList = []
  · have e2 : x.toList.isEmpty = true := by rw [Go.ByteArray.toList_eq, h2]; rfl
    have HE : Hid (bytesD x.data.toList = none) := Lib.hid (by unfold bytesD; rw [if_neg h1, if_pos (.inl h2)])
    clear h1 h2
    go_enter Tryd.func17, Tryd.ntmps17
    go_wp2_with (fail)
    go_ret2
    rw [HE.out]
    exact RetO.none_ (Below.refl _ _)
  have e2 : x.toList.isEmpty = false := by rw [Go.ByteArray.toList_eq]; cases hh : x.data.toList with | nil => exact absurd hh h2 | cons a b => rfl
  by_cases h3 : x.size % 2 = 1
  · have e3 : ((x.size : Int) % 2 == 0) = false := by rw [beq_eq_false_iff_ne]; omega
    have HE : Hid (bytesD x.data.toList = none) := Lib.hid (by unfold bytesD; rw [if_neg h1, if_pos (.inr (by simpa using h3))])
    clear h1 h2 h3
    go_enter Tryd.func17, Tryd.ntmps17
    go_wp2_with (fail)
    go_ret2
    rw [HE.out]
    exact RetO.none_ (Below.refl _ _)
  have e3 : ((x.size : Int) % 2 == 0) = true := by rw [beq_iff_eq]; omega
  have HE : Hid (bytesD x.data.toList = pairsL x.data.toList) := Lib.hid (by unfold bytesD; rw [if_neg h1, if_neg]; rintro (h | h); exact h2 h; simp at h; omega)
  obtain ⟨n, hn⟩ : ∃ n, x.size = 2 * n := ⟨x.size / 2, by omega⟩
  have hdiv : (x.size : Int) / 2 = (n : Int) := by omega
  have H2 := Lib.hid hn
  clear h1 h2 h3 hn
  have hmk : ∀ W : World, (Instr.makeSlice 22 (.int .i64 (n : Int)) (.int .i64 (n : Int))).run Tryd.prog W = .ok (.slice (some ⟨W.heap.size, 0, none⟩) n n) (W.alloc (.cells (Array.replicate n (.int .u8 0)) 5)) := by
    intro W
    exact run_mk _ _ Tryd.underlying22 byteInfoT n n (by omega) (by have := H2.out; omega) W
  have e4 : ((x.size : Int) % 2 != 0) = false := by rw [bne, e3]; rfl
  clear e3
  have HO0 : Hid (Own 5 (w.alloc (.cells (Array.replicate n (.int .u8 0)) 5)) w.heap.size (.slice (some ⟨w.heap.size, 0, none⟩) (List.replicate n (0 : UInt8)).length n) (List.replicate n 0)) := Lib.hid (by
    have h := Own.lit 5 w (List.replicate n (0 : UInt8)) (Nat.le_refl _) (by have := H2.out; rw [List.length_replicate]; exact Nat.le_trans (by omega : n ≤ 50000000) (by decide))
    have e : (u8s (List.replicate n (0 : UInt8))).toArray = Array.replicate n (.int .u8 0) := by simp [u8s, u8]
    rw [e] at h
    simpa using h)
  have HB0 : Hid (Below w.heap.size w (w.alloc (.cells (Array.replicate n (.int .u8 0)) 5))) := Lib.hid ((Below.refl _ _).alloc (Nat.le_refl _) _)
  have HX := Lib.hid hx
  go_enter Tryd.func17, Tryd.ntmps17
  go_wp2_with (fail)
  clear hmk hdiv
  generalize hg : w.heap.size = g at *
  have HG := Lib.hid hg
  clear hg
  generalize w.alloc (.cells (Array.replicate n (.int .u8 0)) 5) = w0 at *
  go_loopw [24, 5, 6, 7] (fun i _ _ _ wr => ∃ (k : Nat) (out : List UInt8), k ≤ n ∧ i = .int .i64 k ∧ out.length = k ∧ Own 5 wr g (.slice (some ⟨g, 0, none⟩) (out ++ List.replicate (n - k) 0).length n) (out ++ List.replicate (n - k) 0) ∧ Below g w wr ∧ pairsL x.data.toList = (pairsL (x.data.toList.drop (2 * k))).map (out ++ ·)) (fun i _ _ _ _ => n - (intOf i).toNat)
  case atStart => exact ⟨0, [], by omega, rfl, rfl, HO0.out, HB0.out, by simp⟩
  case round =>
    clear HO0 HB0
    obtain ⟨wo, rfl⟩ : ∃ wo : World, wo = wr := ⟨_, rfl⟩
    obtain ⟨k, out, hk, rfl, hol, hown, hb, hp⟩ := hrel
    have HO := Lib.hid hown
    have HB := Lib.hid hb
    have HP := Lib.hid hp
    have HOL := Lib.hid hol
    clear hown hb hp hol
    by_cases hlt : k < n
    · have hi0 : 2 * k < x.size := by have := H2.out; omega
      have hi1 : 2 * k + 1 < x.size := by have := H2.out; omega
      have hw0 : IntKind.i64.wrap (2 * (k : Int)) = 2 * (k : Int) := IntWalk.i64_in _ (by omega)
      have hw1 : IntKind.i64.wrap (2 * (k : Int) + 1) = 2 * (k : Int) + 1 := IntWalk.i64_in _ (by omega)
      have hw2 : IntKind.i64.wrap ((k : Int) + 1) = (k : Int) + 1 := IntWalk.i64_in _ (by omega)
      have ix1 := fun W => strIx x (2 * k) hi0 (2 * (k : Int)) (by omega) W
      have ix2 := fun W => strIx x (2 * k + 1) hi1 (2 * (k : Int) + 1) (by omega) W
      have HP2 := Lib.hid (pairsL_two x.data.toList (2 * k) (by simpa using hi1))
      rw [getD_ix x (2 * k) hi0, getD_ix x (2 * k + 1) hi1] at HP2
      obtain ⟨a, ha⟩ : ∃ a, a = x[2 * k] := ⟨_, rfl⟩
      obtain ⟨b, hb⟩ : ∃ b, b = x[2 * k + 1] := ⟨_, rfl⟩
      rw [← ha] at ix1 HP2
      rw [← hb] at ix2 HP2
      have hba := hexL_bd a
      have hbb := hexL_bd b
      clear ha hb hi0 hi1
      have IDX := Lib.hid (fun c W => idxL c W)
      by_cases hbad : hexL a < 0 ∨ hexL b < 0
      · have HN : Hid (bytesD x.data.toList = none) := Lib.hid (by rw [HE.out, HP.out, HP2.out, if_pos hbad]; rfl)
        by_cases ha : hexL a < 0
        · as_aux_lemma =>
          clear hbad hba hbb
          go_wp2_with (fail)
          go_quiet ((go_at_call 35; exact Calls.quiet_of_same (IDX.out _ _)))
          go_wp2_with (fail)
          go_ret2
          rw [HN.out]
          exact RetO.none_ (by rw [HG.out]; exact drawN_below HB.out _)
        · have hb0 : hexL b < 0 := by omega
          as_aux_lemma =>
          clear hbad hba hbb
          go_wp2_with (fail)
          go_quiet ((go_at_call 35; exact Calls.quiet_of_same (IDX.out _ _)))
          go_wp2_with (fail)
          go_ret2
          rw [HN.out]
          exact RetO.none_ (by rw [HG.out]; exact drawN_below HB.out _)
      · as_aux_lemma =>
        have ha : 0 ≤ hexL a := by omega
        have hb0 : 0 ≤ hexL b := by omega
        obtain ⟨na, hna⟩ : ∃ na : Nat, hexL a = (na : Int) := ⟨(hexL a).toNat, by omega⟩
        obtain ⟨nb, hnb⟩ : ∃ nb : Nat, hexL b = (nb : Int) := ⟨(hexL b).toNat, by omega⟩
        have hor := orL16 ⟨na, by omega⟩ ⟨nb, by omega⟩
        simp only at hor
        have hwr : wrap64 (hexL a * 16) = hexL a * 16 := IntWalk.wrap64_in _ (by omega)
        have HV : Hid (bits BinOp.or IntKind.i64 (wrap64 (hexL a * 16)) (hexL b) % 256 = ((hexLB a b).toNat : Int)) := Lib.hid (by
          rw [hwr, hna, hnb, hor]
          unfold hexLB
          rw [hna, hnb]
          have e : ((na : Int) * 16 + (nb : Int)).toNat = na * 16 + nb := by omega
          rw [e]
          simp)
        have HN : Hid (pairsL x.data.toList = (pairsL (x.data.toList.drop (2 * k + 2))).map ((out ++ [hexLB a b]) ++ ·)) := Lib.hid (by
          rw [HP.out, HP2.out, if_neg hbad]
          cases pairsL (x.data.toList.drop (2 * k + 2)) <;> simp)
        clear hor hwr hna hnb hbad hba hbb
        go_wp2_with (fail)
        go_quiet ((go_at_call 35; exact Calls.quiet_of_same (IDX.out _ _)))
        have HB2 : Hid (Below g w (wo.drewN nq)) := Lib.hid (drawN_below HB.out _)
        have HO2 : Hid (Own 5 (wo.drewN nq) g (.slice (some ⟨g, 0, none⟩) (out ++ List.replicate (n - k) 0).length n) (out ++ List.replicate (n - k) 0)) := Lib.hid (HO.out.below (drawN_below (Below.refl _ _) _))
        generalize wo.drewN nq = w2 at *
        have hkM : k < (out ++ List.replicate (n - k) (0 : UInt8)).length := by rw [List.length_append, List.length_replicate, HOL.out]; omega
        have hcell := HO2.out.cell (List.getElem?_eq_getElem hkM)
        have hfr := HO2.out.frozen k
        generalize (out ++ List.replicate (n - k) (0 : UInt8))[k] = z at hcell
        clear hkM
        go_wp2_with (fail)
        rw [HV.out]
        have HO3 := Lib.hid (HO2.out.store k (hexLB a b))
        have HM : Hid ((out ++ List.replicate (n - k) (0 : UInt8)).set k (hexLB a b) = (out ++ [hexLB a b]) ++ List.replicate (n - (k + 1)) 0) := Lib.hid (by
          rw [show n - k = (n - (k + 1)) + 1 from by omega, List.replicate_succ, List.set_append_right _ _ (by rw [HOL.out]; exact Nat.le_refl _), HOL.out, Nat.sub_self]
          simp)
        have HML : Hid ((out ++ List.replicate (n - k) (0 : UInt8)).length = ((out ++ [hexLB a b]) ++ List.replicate (n - (k + 1)) (0 : UInt8)).length) := Lib.hid (by simp; omega)
        rw [HM.out, HML.out] at HO3
        refine ⟨⟨k + 1, out ++ [hexLB a b], by omega, rfl, by rw [List.length_append, HOL.out]; rfl, HO3.out, ?_, ?_⟩, by simp [intOf]; omega⟩
        · exact HB2.out.setCell (Nat.le_refl _) _
        · rw [show 2 * (k + 1) = 2 * k + 2 from by omega]
          exact HN.out
    · obtain rfl : k = n := by omega
      clear hlt
      have HN : Hid (bytesD x.data.toList = some out) := Lib.hid (by
        rw [HE.out, HP.out, List.drop_of_length_le (by have := H2.out; simp; omega)]
        simp [pairsL])
      rw [Nat.sub_self, List.replicate_zero, List.append_nil] at HO
      go_wp2_with (fail)
      go_ret2
      rw [HN.out]
      obtain ⟨A4, c4, e4, hB4, hf4⟩ := HO.out.bs
      injection e4 with e4 e5 e6
      subst e4 e6
      rw [HOL.out] at hB4
      exact ⟨_, k, _, rfl, hB4, by rw [HG.out]; exact hf4, by rw [HG.out]; exact HB.out⟩
end Go.Proofs.YtnoppnnpennddaaDoor
