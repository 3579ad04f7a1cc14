/- Layer 13: Get, walked. -/
import Derived.Test.YthblbmbefhlbjaaEntryPut
namespace Go.Proofs.Ythblbmbefhlbjaa
open Go.RowKit

/-- what a call gives that answers bytes, a number and an error, and leaves what was there -/
def RetG (l : List UInt8) (n : Int) (err : Int) (w : World) (e : Ending) (w' : World) : Prop :=
  ∃ A c, e = .returned (.tuple #[.slice A l.length c, .int .i64 n, .int .i64 err]) ∧ Bs w' A l.length c l ∧ Below w.heap.size w w'
/-- the same, where the bytes lie in memory of their own -/
def RetGN (l : List UInt8) (n : Int) (err : Int) (w : World) (e : Ending) (w' : World) : Prop :=
  ∃ A c, e = .returned (.tuple #[.slice A l.length c, .int .i64 n, .int .i64 err]) ∧ Bs w' A l.length c l ∧ (∀ b, A = some b → w.heap.size ≤ b.block) ∧ Below w.heap.size w w'
theorem RetGN.none {n err : Int} {w w' : World} (hb : Below w.heap.size w w') : RetGN [] n err w (.returned (.tuple #[.slice none 0 0, .int .i64 n, .int .i64 err])) w' :=
  ⟨Option.none, 0, rfl, Bs.none_ _, (fun _ h => by cases h), hb⟩
theorem get_err {l : List UInt8} {err : Int} (h : getErr l = err) (h0 : err ≠ 0) : getGet l = [] ∧ getLen l = 0 := by
  have : ¬ getErr l = 0 := by omega
  exact ⟨by unfold getGet; rw [if_neg this], by unfold getLen; rw [if_neg this]⟩

set_option maxRecDepth 100000 in
set_option maxHeartbeats 1000000 in
theorem entryGetN (A : Option Addr) (n c : Nat) (l : List UInt8) (w : World) (hB : Bs w A n c l) (hN : n ≤ 140737488351232) :
    Calls Try.prog 52 #[.slice A n c] w (RetGN (getGet l) (getLen l) (getErr l) w) := by
  have hlen := hB.len
  have hcm := hB.max
  have hle := hB.le
  by_cases h8 : n < 8
  · have e : getErr l = 7 := by unfold getErr; rw [if_pos (by omega)]
    rw [(get_err e (by omega)).1, (get_err e (by omega)).2, e]
    clear e hlen hB
    go_enter Try.func52, Try.ntmps52
    go_wp2
    go_ret3
    exact RetGN.none (Below.refl _ _)
  · obtain ⟨b, o, rfl, hb, _⟩ := hB.at_ (by omega)
    have H4 := Lib.hid (hB.take (j := 4) (by omega))
    have h5 := (hB.drop (i := 4) (by omega)).take (j := 4) (by omega)
    rw [if_neg (by omega), Option.map_some, Addr.add_lit] at h5
    have H5 := Lib.hid h5
    have h6 := hB.drop (i := 8) (by omega)
    rw [Option.map_some, Addr.add_lit] at h6
    obtain ⟨k, hk⟩ : ∃ k, n = k + 8 := ⟨n - 8, by omega⟩
    subst hk
    rw [show k + 8 - 8 = k from by omega] at h6
    obtain ⟨R, hR⟩ : ∃ R, (if c = 8 then some (⟨b, o, none⟩ : Addr) else some ⟨b, o + 8, none⟩) = R := ⟨_, rfl⟩
    rw [hR] at h6
    have H6 := Lib.hid h6
    have e0 : (k : Int) ≤ (k : Int) + 8 := by omega
    have e9 : ¬ c = 4 := by omega
    have hxlt : beNum (l.take 4) < 4294967296 := by
      have := beNum_lt (l.take 4)
      rw [show (l.take 4).length = 4 from H4.out.len] at this
      simpa using this
    have HE : Hid (getErr l = if okLen (beNum (l.take 4)) = false then 9 else if k < beNum (l.take 4) then 7 else if Crc.sum 0 (l.take 4 ++ (l.drop 8).take (beNum (l.take 4))) = beNum ((l.drop 4).take 4) then 0 else 8) := by
      show getErr l = _
      unfold getErr
      rw [if_neg (by omega), hlen, show k + 8 - 8 = k from by omega]
    have CN := fun W h => entryNumber (some ⟨b, o, none⟩) c (l.take 4) W h
    have HG : Hid (getErr l = 0 → getGet l = (l.drop 8).take (beNum (l.take 4)) ∧ getLen l = 8 + beNum (l.take 4)) := fun h => ⟨by unfold getGet; rw [if_pos h], by unfold getLen; rw [if_pos h]⟩
    have CN2 := fun W h => entryNumber (some ⟨b, o + 4, none⟩) (c - 4) ((l.drop 4).take 4) W h
    generalize beNum (l.take 4) = x at *
    generalize beNum ((l.drop 4).take 4) = y at *
    have HCN := Lib.hid CN
    have HCN2 := Lib.hid CN2
    have HBB := Lib.hid hB
    clear hB h5 h6 CN CN2 hlen
    by_cases hx : okLen x = false
    · have e := HE.out
      rw [if_pos hx] at e
      rw [(get_err e (by omega)).1, (get_err e (by omega)).2, e]
      have HX := Lib.hid (okLen_no hx)
      clear e hx
      go_enter Try.func52, Try.ntmps52
      go_wp2_with (fail)
      go_quiet (fail)
      go_wp2_with (fail)
      refine (HCN.out _ (H4.out.drewN _)).mono ?_
      rintro e w' ⟨rfl, rfl⟩
      go_wp2_with (fail)
      refine (rightLength_no x _ (by have := HX.out; omega)).mono ?_
      rintro e w' ⟨rfl, rfl⟩
      go_wp2
      go_ret3
      exact RetGN.none (drawN_below (Below.refl _ _) _)
    · have hx1 : okLen x = true := by
        cases h : okLen x with
        | true => rfl
        | false => exact absurd h hx
      have hx2 := okLen_yes hx1
      have e := HE.out
      rw [if_neg hx] at e
      have HX := Lib.hid hx2
      have HX1 := Lib.hid hx1
      clear hx hx2 hx1
      by_cases hk : k < x
      · rw [if_pos hk] at e
        rw [(get_err e (by omega)).1, (get_err e (by omega)).2, e]
        clear e
        go_enter Try.func52, Try.ntmps52
        go_wp2_with (fail)
        go_quiet (fail)
        go_wp2_with (fail)
        refine (HCN.out _ (H4.out.drewN _)).mono ?_
        rintro e w' ⟨rfl, rfl⟩
        go_wp2_with (fail)
        refine (rightLength_yes x _ (by have := HX.out; omega) (by have := HX.out; omega)).mono ?_
        rintro e w' ⟨rfl, rfl⟩
        go_wp2
        go_ret3
        exact RetGN.none (drawN_below (Below.refl _ _) _)
      · rw [if_neg hk] at e
        have HX6 := Lib.hid (H6.out.take (j := x) (by omega))
        have e1 : (x : Int) ≤ (k : Int) := by omega
        have e2 : x ≤ c - 8 := by omega
        have CS := fun W h1 h2 => entrySumOf (some ⟨b, o, none⟩) 4 c (l.take 4) R x (c - 8) ((l.drop 8).take x) W h1 h2
        have hslt := Crc.sum_lt (s := 0) (l.take 4 ++ (l.drop 8).take x) (by omega)
        generalize Crc.sum 0 (l.take 4 ++ (l.drop 8).take x) = s at *
        have HCS := Lib.hid CS
        clear CS
        by_cases hs : s = y
        · rw [if_pos hs] at e
          have HEE := Lib.hid e
          have hne : ((s : Int) != (y : Int)) = false := by simp [hs]
          have hx65 : x ≤ 65536 := HX.out.2
          obtain ⟨Z, HZ, hzl, hmk⟩ := mk_zeros (x : Int) x rfl (by omega)
          have HZL := Lib.hid hzl
          have HMK := Lib.hid hmk
          clear e hs hzl hmk
          go_enter Try.func52, Try.ntmps52
          go_wp2_with (fail)
          go_quiet (fail)
          go_wp2_with (fail)
          refine (HCN.out _ (H4.out.drewN _)).mono ?_
          rintro e w' ⟨rfl, rfl⟩
          go_wp2_with (fail)
          refine (rightLength_yes x _ (by have := HX.out; omega) (by have := HX.out; omega)).mono ?_
          rintro e w' ⟨rfl, rfl⟩
          go_wp2_with (fail)
          refine (HCS.out _ (H4.out.drewN _) (HX6.out.drewN _)).mono ?_
          rintro e w' ⟨rfl, rfl⟩
          go_wp2_with (fail)
          refine (HCN2.out _ (H5.out.drewN _)).mono ?_
          rintro e w' ⟨rfl, rfl⟩
          have hw3 : Hid (Below w.heap.size w (w.drewN nq)) := Lib.hid (drawN_below (Below.refl _ _) nq)
          have HXX := Lib.hid (HX6.out.drewN nq)
          generalize w.drewN nq = w3 at *
          have hmk := HMK.out
          have hsz3 := hw3.out.size
          go_wp2_with (with_reducible show wpList _ _ _ _ _ _; refine wpList_cpyTo rfl (.tmp 39) (.tmp 40) 27 27 rfl 5 Try.underlying27 byteInfo w3.heap.size 0 _ _ _ rfl Z 5 (heap_alloc_new w3 _) R k x (c - 8) ((l.drop 8).take x) rfl (HXX.out.alloc _) (fun _ => rfl) (by omega) (by rw [HZL.out]; omega) ?_; intro w1 hw1 hb1)
          refine (entrySize_yes x _ HX1.out).mono ?_
          rintro e w' ⟨rfl, rfl⟩
          go_wp2
          go_ret3
          rw [(HG.out HEE.out).1, (HG.out HEE.out).2, HEE.out]
          have e : List.take 0 Z ++ ((l.drop 8).take x ++ List.drop (0 + x) Z) = (l.drop 8).take x := by
            have hz : List.drop (0 + x) Z = [] := List.drop_of_length_le (by rw [HZL.out]; omega)
            rw [List.take_zero, List.nil_append, hz, List.append_nil]
          have hw := hw1.out
          rw [e] at hw
          have hlk : ((l.drop 8).take x).length = x := HX6.out.len
          refine ⟨some ⟨w3.heap.size, 0, none⟩, x, ?_, ?_, (fun b hb => by injection hb with hb; subst hb; exact hsz3), hw3.out.trans ((((Below.refl _ w3).alloc (Nat.le_refl _) _).trans hb1).mono hsz3)⟩
          · rw [hlk, show ((8 + x : Nat) : Int) = 8 + (x : Int) from by omega]
            rfl
          · have := Bs.block hw hlk (by unfold maxLen; omega)
            rwa [hlk]
        · rw [if_neg hs] at e
          rw [(get_err e (by omega)).1, (get_err e (by omega)).2, e]
          have hne : ((s : Int) != (y : Int)) = true := by rw [bne_iff_ne]; omega
          clear e hs
          go_enter Try.func52, Try.ntmps52
          go_wp2_with (fail)
          go_quiet (fail)
          go_wp2_with (fail)
          refine (HCN.out _ (H4.out.drewN _)).mono ?_
          rintro e w' ⟨rfl, rfl⟩
          go_wp2_with (fail)
          refine (rightLength_yes x _ (by have := HX.out; omega) (by have := HX.out; omega)).mono ?_
          rintro e w' ⟨rfl, rfl⟩
          go_wp2_with (fail)
          refine (HCS.out _ (H4.out.drewN _) (HX6.out.drewN _)).mono ?_
          rintro e w' ⟨rfl, rfl⟩
          go_wp2_with (fail)
          refine (HCN2.out _ (H5.out.drewN _)).mono ?_
          rintro e w' ⟨rfl, rfl⟩
          go_wp2
          go_ret3
          exact RetGN.none (drawN_below (Below.refl _ _) _)
theorem entryGet (A : Option Addr) (n c : Nat) (l : List UInt8) (w : World) (hB : Bs w A n c l) (hN : n ≤ 140737488351232) :
    Calls Try.prog 52 #[.slice A n c] w (RetG (getGet l) (getLen l) (getErr l) w) :=
  (entryGetN A n c l w hB hN).mono fun _ _ ⟨A', c', h1, h2, _, h3⟩ => ⟨A', c', h1, h2, h3⟩
end Go.Proofs.Ythblbmbefhlbjaa
