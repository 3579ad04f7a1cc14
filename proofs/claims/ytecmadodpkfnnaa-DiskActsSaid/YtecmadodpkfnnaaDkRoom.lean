/- DiskRoom, walked. -/
import Derived.Test.YtecmadodpkfnnaaDkGreat
namespace Go.Proofs.Ytecmadodpkfnnaa
open Go.RowKit Go.MapKept

/-- how the law's append ends -/
theorem appO_ends (d : Dk) (fs : Fs) (a : ByteArray) (l : List UInt8) : (∃ x d' fs', appO d fs a l = ((0, .inl x), d', fs') ∧ x = 16) ∨ (∃ op d' fs', appO d fs a l = ((0, .inr op), d', fs')) ∨
    (∃ d' fs', appO d fs a l = ((((min l.length (d.room - d.used).toNat : Nat) : Int), .inl (if min l.length (d.room - d.used).toNat < l.length then 4 else 0)), d', fs') ∧ d'.used = d.used + ((min l.length (d.room - d.used).toNat : Nat) : Int)) := by
  unfold appO
  split
  · exact .inl ⟨16, d, fs, rfl, rfl⟩
  · split
    · exact .inr (.inl ⟨_, _, _, rfl⟩)
    · exact .inr (.inr ⟨_, _, rfl, rfl⟩)

theorem newD_ok (r : Int) (h : 0 ≤ r ∧ r ≤ 1073741824) : FsOk ⟨r, 0, 0, 0, 0, 0⟩ (fsOf []) :=
  ⟨⟨h, ⟨by simp, by simp⟩, ⟨by simp, by simp⟩, ⟨by simp, by simp⟩, ⟨by simp, by simp⟩, ⟨by simp, by simp⟩⟩, rfl, fun e he => (by cases he), List.nodup_nil⟩
theorem retO_form (r : Int × (Int ⊕ Int)) : ∃ n e g o, retO r = retC n e g o := by
  obtain ⟨n, x | op⟩ := r
  · exact ⟨_, _, _, _, rfl⟩
  · exact ⟨_, _, _, _, rfl⟩

end Go.Proofs.Ytecmadodpkfnnaa
