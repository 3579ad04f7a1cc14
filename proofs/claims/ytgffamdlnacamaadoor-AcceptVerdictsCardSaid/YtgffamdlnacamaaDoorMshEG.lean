/- Laid together: MshE, MshG, MshW0. -/
import Derived.Test.YtgffamdlnacamaaDoorMsh1
import Derived.Test.YtgffamdlnacamaaDoorMsh6
import Derived.Test.YtgffamdlnacamaaDoorMshBackM
import Derived.Test.YtgffamdlnacamaaDoorMsh6b

/- Layer 9: a head against itself. -/
namespace Go.Proofs.YtgffamdlnacamaaDoor
open Go.RowKit

theorem head_self (h : Hd) (w : World) : (binOp .eql TH h.v h.v).run Tryd.prog w = .ok (.bool true) w := by
  have hs : Tryd.prog.stoodInHeld 25 = false := by kernel_rfl
  have ht : Tryd.prog.underlying 25 = some (.struct (Tryd.prog.fieldsOf 25)) := by kernel_rfl
  have hd : ∀ W, (Op.equalIn 9999 25 h.d.v h.d.v).run Tryd.prog W = .ok true W := fun W => by
    rw [run_equalIn_agg (ht := ht) (hp := hs)]
    simp [Op.eqFields, Program.fieldsOf, Tryd.underlying25, part, go_sem]
  rw [run_eql_struct, run_equalIn_agg (ht := by kernel_rfl) (hp := by kernel_rfl)]
  simp [Op.eqFields, Program.fieldsOf, Tryd.underlying27, hd, part, go_sem]
theorem sgn_self (s : Sgn) (w : World) : (binOp .neq 25 s.v s.v).run Tryd.prog w = .ok (.bool false) w := by
  rw [run_neq_struct, run_equalIn_agg (ht := by kernel_rfl) (hp := by kernel_rfl)]
  simp [Op.eqFields, Program.fieldsOf, Tryd.underlying25, part, go_sem]
end Go.Proofs.YtgffamdlnacamaaDoor

/- Layer 9: how great a head is. -/
namespace Go.Proofs.YtgffamdlnacamaaDoor
open Go.RowKit

/-- how many bytes a head's texts have -/
def Hd.sum (h : Hd) : Nat := h.a0.size + h.a1.size + h.a2.size + h.a3.size + h.a4.size + h.a5.size + h.a6.size + h.a7.size + h.a8.size + h.a9.size
theorem Hd.sum_eq (h : Hd) : h.sum = Lib.lens (h.l.map (·.data.toList)) := by
  have k : ∀ b : ByteArray, b.data.toList.length = b.size := fun b => by simp
  simp only [Hd.sum, Hd.l, Lib.lens, List.map_cons, List.map_nil, List.sum_cons, List.sum_nil, k]
  omega
theorem wrap_add {a b c : Nat} (h : c = a + b) (hc : c ≤ 1048576) : wrap64 ((a : Int) + (b : Int)) = (c : Int) := by
  subst h
  rw [IntWalk.wrap64_in _ (by omega)]
  exact (Int.natCast_add a b).symm
theorem le_of_add {a b c : Nat} (h : c = a + b) (hc : c ≤ 1048576) : a ≤ 1048576 := Nat.le_trans (by rw [h]; exact Nat.le_add_right _ _) hc

end Go.Proofs.YtgffamdlnacamaaDoor

/- Layer 9: how a head is written. -/
namespace Go.Proofs.YtgffamdlnacamaaDoor
open Go.RowKit

/-- how a head is written: no, for its signs; no, for a text; or its segment -/
theorem writeH_cases (h : Hd) : (writeH h = ([], 11)) ∨ (writeH h = ([], 10)) ∨ (writeH h = (segH h, 0) ∧ h.d.good = true ∧ h.l.all (standD h.d.a) = true) := by
  by_cases hg : h.d.good = true
  · by_cases hs : h.l.all (standD h.d.a) = true
    · exact .inr (.inr ⟨writeH_good hg hs, hg, hs⟩)
    · exact .inr (.inl (by unfold writeH; rw [if_pos hg, if_neg hs]))
  · exact .inl (by unfold writeH; rw [if_neg hg])
theorem lens_joinTail (c : UInt8) (T : List (List UInt8)) : (Lib.joinTail [c] T).length = Lib.lens T + T.length := by
  induction T with
  | nil => rfl
  | cons a r ih =>
    simp only [Lib.joinTail, Lib.lens] at ih ⊢
    simp only [List.map_cons, List.flatten_cons, List.length_append, List.length_cons, List.length_nil, List.sum_cons] at ih ⊢
    omega
theorem segH_len (h : Hd) : (segH h).length ≤ h.sum + 18 := by
  rw [segH_eq, List.length_append, lens_joinTail, h.sum_eq]
  have h1 := Lib.lens_take_le (h.l.map (·.data.toList)) (filledD h.l 10 - 2)
  have h2 : (rowK h).length ≤ 10 := by
    unfold rowK
    rw [List.length_take]
    have : (h.l.map (·.data.toList)).length = 10 := rfl
    omega
  unfold rowK at h2 ⊢
  simp only [List.length_cons, List.length_nil]
  omega
end Go.Proofs.YtgffamdlnacamaaDoor
