/- Layer 7: the escape at the front; Decode, walked. -/
import Derived.Test.YtecmadodpkfnnaaEsc4
namespace Go.Proofs.Ytecmadodpkfnnaa
open Go.RowKit Go.MapKept

theorem idxOf (x : ByteArray) (c : UInt8) (w : World) : Calls Try.prog 64 #[.string x, .int .u8 (c.toNat : Int)] w fun e w' => e = .returned (.int .i64 (Lib.indexByte x.data.toList c)) ∧ w' = w := by
  have := Try.strings_IndexByte x (c.toNat : Int) w
  have e : ((c.toNat : Int).toNat.toUInt8) = c := by simp
  rw [e] at this
  exact this
theorem ext_list (x : ByteArray) (i j : Nat) : (x.extract i j).data.toList = (x.data.toList.take j).drop i := by
  rw [ByteArray.data_extract, Array.toList_extract, List.extract_eq_take_drop]
  by_cases h : i ≤ j
  · rw [List.drop_take]
  · rw [show j - i = 0 by omega, List.take_zero, List.drop_of_length_le (by rw [List.length_take]; omega)]

/-- what 'first' gives -/
def RetF (r : Option (List UInt8 × Nat)) (w : World) (e : Ending) (w' : World) : Prop :=
  e = .returned (.tuple #[strV ((r.map (·.1)).getD []), .int .i64 (((r.map (·.2)).getD 0 : Nat) : Int)]) ∧ Below w.heap.size w w'

set_option maxHeartbeats 4000000 in
set_option maxRecDepth 100000 in
theorem escFirst (x : ByteArray) (h0 : 0 < x.size) (hxm : x.size ≤ 1000000) (s : Sgn) (M : Nat) (w : World) (hm : MapIs u8 w M (sgnL s)) : Calls Try.prog 35 #[.string x, .map (some M)] w (RetF (firstD s x.data.toList) w) := by
  have HM := Lib.hid hm
  have hx1 : (1 : Int) ≤ (x.size : Int) := by omega
  have hd : (x.extract 1 x.size).data.toList = x.data.toList.drop 1 := by rw [ext_list, List.take_of_length_le (by simp)]
  have hc := getD_idx x 0 h0
  have HF : Hid (firstD s x.data.toList = if Lib.indexByte (x.extract 1 x.size).data.toList x[0] < 0 then none else (insideD s ((x.data.toList.drop 1).take (Lib.indexByte (x.extract 1 x.size).data.toList x[0]).toNat)).map fun t => (t, (Lib.indexByte (x.extract 1 x.size).data.toList x[0]).toNat + 2)) := Lib.hid (by
    unfold firstD; rw [hd, hc])
  have hlt : Lib.indexByte (x.extract 1 x.size).data.toList x[0] < (x.size : Int) - 1 := by
    have := indexByte_lt (x.extract 1 x.size).data.toList x[0]
    rw [hd, List.length_drop] at this
    rw [hd]
    simp only [Array.length_toList, ByteArray.size_data] at this
    omega
  have hge := Lib.indexByte_ge (x.extract 1 x.size).data.toList x[0]
  have IDX := Lib.hid (fun W => idxOf (x.extract 1 x.size) x[0] W)
  clear hm hd hc
  by_cases hn : Lib.indexByte (x.extract 1 x.size).data.toList x[0] < 0
  · have HN : Hid (firstD s x.data.toList = none) := Lib.hid (by rw [HF.out, if_pos hn])
    clear hlt hge HF
    generalize Lib.indexByte (x.extract 1 x.size).data.toList x[0] = z at *
    go_enter Try.func35, Try.ntmps35
    go_wp2_with (fail)
    go_quiet ((go_at_call 64; exact Calls.quiet_of_same (IDX.out _)))
    go_wp2_with (fail)
    go_ret2
    exact ⟨by rw [HN.out]; rfl, drawN_below (Below.refl _ _) _⟩
  · obtain ⟨n, hnn⟩ : ∃ n : Nat, Lib.indexByte (x.extract 1 x.size).data.toList x[0] = (n : Int) := ⟨(Lib.indexByte (x.extract 1 x.size).data.toList x[0]).toNat, by omega⟩
    rw [hnn] at hlt hn IDX
    have HR : Hid (firstD s x.data.toList = (insideD s ((x.data.toList.drop 1).take n)).map fun t => (t, n + 2)) := Lib.hid (by rw [HF.out, hnn, if_neg (by omega)]; simp)
    clear hge HF hn hnn
    have hex : (x.extract 1 (1 + n)).data.toList = (x.data.toList.drop 1).take n := by
      rw [ext_list, List.drop_take, show 1 + n - 1 = n by omega]
    have hsz : (x.extract 1 (1 + n)).size ≤ 1000000 := by rw [ByteArray.size_extract]; omega
    obtain ⟨j, hj⟩ : ∃ j, j = 1 + n := ⟨_, rfl⟩
    rw [← hj] at hex hsz
    have hji : (1 : Int) + (n : Int) = (j : Int) := by omega
    have hj1 : (1 : Int) ≤ (j : Int) := by omega
    have hjx : (j : Int) ≤ (x.size : Int) := by omega
    have HEX := Lib.hid hex
    have HSZ := Lib.hid hsz
    have hn0 : ¬ ((n : Int) < 0) := by omega
    clear hj hex hsz hlt
    go_enter Try.func35, Try.ntmps35
    go_wp2_with (fail)
    go_quiet ((go_at_call 64; exact Calls.quiet_of_same (IDX.out _)))
    go_wp2_with (fail)
    have HD : Hid (Below w.heap.size w (w.drewN nq)) := Lib.hid (drawN_below (Below.refl _ _) _)
    generalize w.drewN nq = w2 at *
    refine (escInside (x.extract 1 j) HSZ.out s M w2 (HM.out.below HD.out)).mono ?_
    rintro e w3 ⟨rfl, hb3⟩
    rw [HEX.out]
    have HB3 : Hid (Below w.heap.size w w3) := Lib.hid (HD.out.trans (hb3.mono HD.out.size))
    clear hb3
    cases hi : insideD s ((x.data.toList.drop 1).take n) with
    | none =>
      have HN : Hid (firstD s x.data.toList = none) := Lib.hid (by rw [HR.out, hi]; rfl)
      simp only [Option.getD_none, Option.isSome_none]
      clear hi
      go_wp2_with (fail)
      go_ret2
      exact ⟨by rw [HN.out]; rfl, HB3.out⟩
    | some t =>
      have HN : Hid (firstD s x.data.toList = some (t, n + 2)) := Lib.hid (by rw [HR.out, hi]; rfl)
      simp only [Option.getD_some, Option.isSome_some]
      clear hi
      go_wp2_with (fail)
      go_ret2
      exact ⟨by rw [HN.out]; rfl, HB3.out⟩
end Go.Proofs.Ytecmadodpkfnnaa
