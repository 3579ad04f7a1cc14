/- Laid together: MshE, MshG, MshW0. -/
import Derived.Test.YtodgcmjdnfbegaaDoorMsh1
import Derived.Test.YtodgcmjdnfbegaaDoorMsh6
import Derived.Test.YtodgcmjdnfbegaaDoorMshBackM
import Derived.Test.YtodgcmjdnfbegaaDoorMsh6b

/- Layer 9: a head against itself. -/
namespace Go.Proofs.YtodgcmjdnfbegaaDoor
open Go.RowKit

theorem head_self (h : Hd) (w : World) : (binOp .eql TH h.v h.v).run Tryd.prog w = .ok (.bool true) w := by
  have hs : Tryd.prog.stoodInHeld 25 = false := by kernel_rfl
  have ht : Tryd.prog.underlying 25 = some (.struct (Tryd.prog.fieldsOf 25)) := by kernel_rfl
  have hd : ∀ W, (Op.equalIn 9999 25 h.d.v h.d.v).run Tryd.prog W = .ok true W := fun W => by
    rw [run_equalIn_agg (ht := ht) (hp := hs)]
    simp [Op.eqFields, Program.fieldsOf, Tryd.underlying25, part, go_sem]
  rw [run_eql_struct, run_equalIn_agg (ht := by kernel_rfl) (hp := by kernel_rfl)]
  simp [Op.eqFields, Program.fieldsOf, Tryd.underlying27, hd, part, go_sem]
theorem sgn_self (s : Sgn) (w : World) : (binOp .neq 25 s.v s.v).run Tryd.prog w = .ok (.bool false) w := by
  rw [run_neq_struct, run_equalIn_agg (ht := by kernel_rfl) (hp := by kernel_rfl)]
  simp [Op.eqFields, Program.fieldsOf, Tryd.underlying25, part, go_sem]
end Go.Proofs.YtodgcmjdnfbegaaDoor

/- Layer 9: how great a head is. -/
namespace Go.Proofs.YtodgcmjdnfbegaaDoor
open Go.RowKit

/-- how many bytes a head's texts have -/
def Hd.sum (h : Hd) : Nat := h.a0.size + h.a1.size + h.a2.size + h.a3.size + h.a4.size + h.a5.size + h.a6.size + h.a7.size + h.a8.size + h.a9.size
theorem Hd.sum_eq (h : Hd) : h.sum = Lib.lens (h.l.map (·.data.toList)) := by
  have k : ∀ b : ByteArray, b.data.toList.length = b.size := fun b => by simp
  simp only [Hd.sum, Hd.l, Lib.lens, List.map_cons, List.map_nil, List.sum_cons, List.sum_nil, k]
  omega
theorem wrap_add {a b c : Nat} (h : c = a + b) (hc : c ≤ 1048576) : wrap64 ((a : Int) + (b : Int)) = (c : Int) := by
  subst h
  rw [IntWalk.wrap64_in _ (by omega)]
  exact (Int.natCast_add a b).symm
theorem le_of_add {a b c : Nat} (h : c = a + b) (hc : c ≤ 1048576) : a ≤ 1048576 := Nat.le_trans (by rw [h]; exact Nat.le_add_right _ _) hc

set_option maxHeartbeats 4000000 in
set_option maxRecDepth 100000 in
theorem great_head {f : Nat} {lim : Nat} (h : Hd) (w : World) (hs : h.sum ≤ 1048576) (hf : f = 13) (hl : lim = 3000) :
    Calls Tryd.prog f #[h.v] w fun e w' => e = .returned (.bool (decide (lim < h.sum))) ∧ Below w.heap.size w w' := by
  subst hf hl
  have HX0 := Lib.hid (BoxH.new h w)
  have HB0 := Lib.hid (boxHd_below h w)
  obtain ⟨z1, e1⟩ : ∃ z, z = h.a0.size + h.a1.size := ⟨_, rfl⟩
  obtain ⟨z2, e2⟩ : ∃ z, z = z1 + h.a2.size := ⟨_, rfl⟩
  obtain ⟨z3, e3⟩ : ∃ z, z = z2 + h.a3.size := ⟨_, rfl⟩
  obtain ⟨z4, e4⟩ : ∃ z, z = z3 + h.a4.size := ⟨_, rfl⟩
  obtain ⟨z5, e5⟩ : ∃ z, z = z4 + h.a5.size := ⟨_, rfl⟩
  obtain ⟨z6, e6⟩ : ∃ z, z = z5 + h.a6.size := ⟨_, rfl⟩
  obtain ⟨z7, e7⟩ : ∃ z, z = z6 + h.a7.size := ⟨_, rfl⟩
  obtain ⟨z8, e8⟩ : ∃ z, z = z7 + h.a8.size := ⟨_, rfl⟩
  obtain ⟨z9, e9⟩ : ∃ z, z = z8 + h.a9.size := ⟨_, rfl⟩
  have hz : h.sum = z9 := by rw [e9, e8, e7, e6, e5, e4, e3, e2, e1]; rfl
  have b9 : z9 ≤ 1048576 := by rw [← hz]; exact hs
  have b8 := le_of_add e9 b9
  have b7 := le_of_add e8 b8
  have b6 := le_of_add e7 b7
  have b5 := le_of_add e6 b6
  have b4 := le_of_add e5 b5
  have b3 := le_of_add e4 b4
  have b2 := le_of_add e3 b3
  have b1 := le_of_add e2 b2
  have k1 : wrap64 (((h.a0.size) : Int) + (h.a1.size : Int)) = (z1 : Int) := wrap_add e1 b1
  have k2 : wrap64 (((z1) : Int) + (h.a2.size : Int)) = (z2 : Int) := wrap_add e2 b2
  have k3 : wrap64 (((z2) : Int) + (h.a3.size : Int)) = (z3 : Int) := wrap_add e3 b3
  have k4 : wrap64 (((z3) : Int) + (h.a4.size : Int)) = (z4 : Int) := wrap_add e4 b4
  have k5 : wrap64 (((z4) : Int) + (h.a5.size : Int)) = (z5 : Int) := wrap_add e5 b5
  have k6 : wrap64 (((z5) : Int) + (h.a6.size : Int)) = (z6 : Int) := wrap_add e6 b6
  have k7 : wrap64 (((z6) : Int) + (h.a7.size : Int)) = (z7 : Int) := wrap_add e7 b7
  have k8 : wrap64 (((z7) : Int) + (h.a8.size : Int)) = (z8 : Int) := wrap_add e8 b8
  have k9 : wrap64 (((z8) : Int) + (h.a9.size : Int)) = (z9 : Int) := wrap_add e9 b9
  have HZ : Hid (decide (3000 < h.sum) = decide ((3000 : Int) < (z9 : Int))) := Lib.hid (by rw [hz, decide_eq_decide]; exact (Int.ofNat_lt (n := 3000) (m := z9)).symm)
  clear e1 e2 e3 e4 e5 e6 e7 e8 e9 hz hs b1 b2 b3 b4 b5 b6 b7 b8 b9
  go_enter Tryd.func13, Tryd.ntmps13
  obtain ⟨c0, c1, c2, c3, c4, c5, c6, c7, c8, c9, c10, c11, c12, c13, c14⟩ := HX0.out.cells
  go_wp2_with (fail)
  go_ret
  rw [HZ.out]
  exact ⟨rfl, HB0.out⟩
end Go.Proofs.YtodgcmjdnfbegaaDoor

/- Layer 9: how a head is written. -/
namespace Go.Proofs.YtodgcmjdnfbegaaDoor
open Go.RowKit

/-- how a head is written: no, for its signs; no, for a text; or its segment -/
theorem writeH_cases (h : Hd) : (writeH h = ([], 11)) ∨ (writeH h = ([], 10)) ∨ (writeH h = (segH h, 0) ∧ h.d.good = true ∧ h.l.all (standD h.d.a) = true) := by
  by_cases hg : h.d.good = true
  · by_cases hs : h.l.all (standD h.d.a) = true
    · exact .inr (.inr ⟨writeH_good hg hs, hg, hs⟩)
    · exact .inr (.inl (by unfold writeH; rw [if_pos hg, if_neg hs]))
  · exact .inl (by unfold writeH; rw [if_neg hg])
theorem lens_joinTail (c : UInt8) (T : List (List UInt8)) : (Lib.joinTail [c] T).length = Lib.lens T + T.length := by
  induction T with
  | nil => rfl
  | cons a r ih =>
    simp only [Lib.joinTail, Lib.lens] at ih ⊢
    simp only [List.map_cons, List.flatten_cons, List.length_append, List.length_cons, List.length_nil, List.sum_cons] at ih ⊢
    omega
theorem segH_len (h : Hd) : (segH h).length ≤ h.sum + 18 := by
  rw [segH_eq, List.length_append, lens_joinTail, h.sum_eq]
  have h1 := Lib.lens_take_le (h.l.map (·.data.toList)) (filledD h.l 10 - 2)
  have h2 : (rowK h).length ≤ 10 := by
    unfold rowK
    rw [List.length_take]
    have : (h.l.map (·.data.toList)).length = 10 := rfl
    omega
  unfold rowK at h2 ⊢
  simp only [List.length_cons, List.length_nil]
  omega
end Go.Proofs.YtodgcmjdnfbegaaDoor
