/- Layer 7: Clean, walked. -/
import Derived.Test.YtecmadodpkfnnaaEscJoinsW
import Derived.Test.YtecmadodpkfnnaaEscMath3
namespace Go.Proofs.Ytecmadodpkfnnaa
open Go.RowKit Go.MapKept

theorem cleanD_not {s : Sgn} {x : ByteArray} {k : Nat} (h : k < x.size) (hc : cleanB s x[k] = false) : cleanD s x.data.toList = false := by
  unfold cleanD
  rw [List.all_eq_false]
  exact ⟨x[k], by rw [← getD_idx x k h, List.getD_eq_getElem?_getD, List.getElem?_eq_getElem (by simpa using h)]; simp, by simp [hc]⟩
set_option maxHeartbeats 4000000 in
set_option maxRecDepth 100000 in
theorem escClean (x : ByteArray) (hx : x.size ≤ 1000000) (s : Sgn) (w : World) : Calls Try.prog 12 #[.string x, s.v] w fun e w' => e = .returned (.bool (cleanD s x.data.toList)) ∧ Below w.heap.size w w' := by
  have HX := Lib.hid (Box5.new s w)
  have HB0 : Hid (Below w.heap.size w (w.alloc (dobj7 s))) := Lib.hid ((Below.refl _ _).alloc (Nat.le_refl _) _)
  go_enter Try.func12, Try.ntmps12
  go_wp2_with (fail)
  generalize (w.alloc (.cells #[u8 s.a, u8 s.b, u8 s.c, u8 s.d, u8 s.e] 23)) = w0 at *
  go_loopw [8, 5] (fun i _ wr => ∃ k : Nat, k ≤ x.size ∧ i = .int .i64 k ∧ cleanD s (x.data.toList.take k) = true ∧ wr = w0) (fun i _ _ => x.size - (intOf i).toNat)
  case atStart => exact ⟨0, Nat.zero_le _, rfl, rfl, rfl⟩
  case round =>
    obtain ⟨k, hk, rfl, hcl, rfl⟩ := hrel
    have HK := Lib.hid hcl
    clear hcl
    obtain ⟨x0, x1, x2, x3, x4⟩ := HX.out.cells
    by_cases hlt : k < x.size
    · have e1 : (k : Int) < (x.size : Int) := by omega
      by_cases ha : x[k] = s.a
      · have da : (((x[k].toNat : Nat) : Int) == (s.a.toNat : Int)) = true := by rw [ha]; simp
        have HC : Hid (cleanD s x.data.toList = false) := Lib.hid (cleanD_not hlt (by unfold cleanB; simp [ha]))
        clear ha
        go_wp2_with (fail)
        go_ret
        rw [HC.out]
        exact ⟨rfl, HB0.out⟩
      have da : (((x[k].toNat : Nat) : Int) == (s.a.toNat : Int)) = false := by rw [beq_eq_false_iff_ne]; intro e; exact ha (UInt8.toNat_inj.1 (by omega))
      by_cases hb : x[k] = s.b
      · have db : (((x[k].toNat : Nat) : Int) == (s.b.toNat : Int)) = true := by rw [hb]; simp
        have HC : Hid (cleanD s x.data.toList = false) := Lib.hid (cleanD_not hlt (by unfold cleanB; simp [hb]))
        clear hb
        go_wp2_with (fail)
        go_ret
        rw [HC.out]
        exact ⟨rfl, HB0.out⟩
      have db : (((x[k].toNat : Nat) : Int) == (s.b.toNat : Int)) = false := by rw [beq_eq_false_iff_ne]; intro e; exact hb (UInt8.toNat_inj.1 (by omega))
      by_cases hc : x[k] = s.c
      · have dc : (((x[k].toNat : Nat) : Int) == (s.c.toNat : Int)) = true := by rw [hc]; simp
        have HC : Hid (cleanD s x.data.toList = false) := Lib.hid (cleanD_not hlt (by unfold cleanB; simp [hc]))
        clear hc
        go_wp2_with (fail)
        go_ret
        rw [HC.out]
        exact ⟨rfl, HB0.out⟩
      have dc : (((x[k].toNat : Nat) : Int) == (s.c.toNat : Int)) = false := by rw [beq_eq_false_iff_ne]; intro e; exact hc (UInt8.toNat_inj.1 (by omega))
      by_cases hd : x[k] = s.d
      · have dd : (((x[k].toNat : Nat) : Int) == (s.d.toNat : Int)) = true := by rw [hd]; simp
        have HC : Hid (cleanD s x.data.toList = false) := Lib.hid (cleanD_not hlt (by unfold cleanB; simp [hd]))
        clear hd
        go_wp2_with (fail)
        go_ret
        rw [HC.out]
        exact ⟨rfl, HB0.out⟩
      have dd : (((x[k].toNat : Nat) : Int) == (s.d.toNat : Int)) = false := by rw [beq_eq_false_iff_ne]; intro e; exact hd (UInt8.toNat_inj.1 (by omega))
      by_cases he : x[k] = s.e
      · have de : (((x[k].toNat : Nat) : Int) == (s.e.toNat : Int)) = true := by rw [he]; simp
        have HC : Hid (cleanD s x.data.toList = false) := Lib.hid (cleanD_not hlt (by unfold cleanB; simp [he]))
        clear he
        go_wp2_with (fail)
        go_ret
        rw [HC.out]
        exact ⟨rfl, HB0.out⟩
      have de : (((x[k].toNat : Nat) : Int) == (s.e.toNat : Int)) = false := by rw [beq_eq_false_iff_ne]; intro e; exact he (UInt8.toNat_inj.1 (by omega))
      by_cases h11 : x[k] = 11
      · have d11 : (((x[k].toNat : Nat) : Int) == 11) = true := by rw [h11]; rfl
        have HC : Hid (cleanD s x.data.toList = false) := Lib.hid (cleanD_not hlt (by unfold cleanB; simp [h11]))
        clear h11
        go_wp2_with (fail)
        go_ret
        rw [HC.out]
        exact ⟨rfl, HB0.out⟩
      have d11 : (((x[k].toNat : Nat) : Int) == 11) = false := by rw [beq_eq_false_iff_ne]; intro e; exact h11 (UInt8.toNat_inj.1 (by have : (11 : UInt8).toNat = 11 := rfl; omega))
      by_cases h13 : x[k] = 13
      · have d13 : (((x[k].toNat : Nat) : Int) == 13) = true := by rw [h13]; rfl
        have HC : Hid (cleanD s x.data.toList = false) := Lib.hid (cleanD_not hlt (by unfold cleanB; simp [h13]))
        clear h13
        go_wp2_with (fail)
        go_ret
        rw [HC.out]
        exact ⟨rfl, HB0.out⟩
      have d13 : (((x[k].toNat : Nat) : Int) == 13) = false := by rw [beq_eq_false_iff_ne]; intro e; exact h13 (UInt8.toNat_inj.1 (by have : (13 : UInt8).toNat = 13 := rfl; omega))
      by_cases h28 : x[k] = 28
      · have d28 : (((x[k].toNat : Nat) : Int) == 28) = true := by rw [h28]; rfl
        have HC : Hid (cleanD s x.data.toList = false) := Lib.hid (cleanD_not hlt (by unfold cleanB; simp [h28]))
        clear h28
        go_wp2_with (fail)
        go_ret
        rw [HC.out]
        exact ⟨rfl, HB0.out⟩
      have d28 : (((x[k].toNat : Nat) : Int) == 28) = false := by rw [beq_eq_false_iff_ne]; intro e; exact h28 (UInt8.toNat_inj.1 (by have : (28 : UInt8).toNat = 28 := rfl; omega))
      have HC : Hid (cleanD s (x.data.toList.take (k + 1)) = true) := Lib.hid (by rw [take_snocB x k hlt]; unfold cleanD at HK ⊢; rw [List.all_append, HK.out]; simp [cleanB, ha, hb, hc, hd, he, h11, h13, h28])
      clear ha hb hc hd he h11 h13 h28
      go_wp2_with (fail)
      exact ⟨⟨k + 1, by omega, by go_num, HC.out, by trivial⟩, by simp [intOf]; omega⟩
    · obtain rfl : k = x.size := by omega
      have HTK : Hid (x.data.toList.take x.size = x.data.toList) := Lib.hid (List.take_of_length_le (by simp))
      rw [HTK.out] at HK
      clear hlt
      go_wp2_with (fail)
      go_ret
      rw [HK.out]
      exact ⟨rfl, HB0.out⟩
end Go.Proofs.Ytecmadodpkfnnaa
