/- Layer 15: where the disk stands between the saves. -/
import Derived.Test.YtolomfdommnklaaCurKeepsG
import Derived.Test.YtolomfdommnklaaCurOrderW
namespace Go.Proofs.Ytolomfdommnklaa
open Go.RowKit Go.MapKept

/-- the number that is told, and its file -/
structure KInv (d : Dk) (fs : Fs) (last : Nat) (k : Nat) : Prop where
  ok : FsOk d fs
  ops : d.ops ≤ 6 * (k : Int)
  le : last ≤ 1099511627776
  at_ : (fget fs nmC = none ∧ last = 0) ∨ fget fs nmC = some ⟨bytesD last, 12⟩
theorem KInv.load {d : Dk} {fs : Fs} {last k : Nat} (h : KInv d fs last k) : loadD fs nmC = ((last : Int), 0) := by
  unfold loadD
  rcases h.at_ with ⟨h1, h2⟩ | h1
  · rw [h1, h2]; rfl
  · rw [h1]; exact numD_bytes h.le
theorem KInv.later {d : Dk} {fs : Fs} {last k j : Nat} (h : KInv d fs last k) (hj : k ≤ j) : KInv d fs last j := ⟨h.ok, by have := h.ops; omega, h.le, h.at_⟩
theorem fget_pow (keep : Int) : ∀ (fs : Fs) (n : ByteArray), fget (powFs keep fs) n = (fget fs n).map (powFl keep)
  | [], _ => rfl
  | (a, v) :: r, n => by
    show fget ((a, powFl keep v) :: powFs keep r) n = _
    unfold fget
    split
    · rfl
    · exact fget_pow keep r n
theorem powFl_whole (keep : Int) (v : Nat) : powFl keep ⟨bytesD v, 12⟩ = ⟨bytesD v, 12⟩ := by
  have h : powN keep ⟨bytesD v, 12⟩ = 12 := by
    show 12 + min ((bytesD v).length - 12) keep.toNat = 12
    rw [show (bytesD v).length = 12 from rfl]; omega
  unfold powFl
  rw [h]; rfl
theorem KInv.power {d : Dk} {fs : Fs} {last k : Nat} (h : KInv d fs last k) (keep : Int) : KInv (opPower d fs keep).2.1 (opPower d fs keep).2.2 last k :=
  ⟨power_ok h.ok keep, h.ops, h.le, by
    show (fget (powFs keep fs) nmC = none ∧ _) ∨ fget (powFs keep fs) nmC = _
    rw [fget_pow]
    rcases h.at_ with ⟨h1, h2⟩ | h1
    · rw [h1]; exact .inl ⟨rfl, h2⟩
    · rw [h1]; exact .inr (by rw [Option.map_some, powFl_whole])⟩
theorem KInv.room {d : Dk} {fs : Fs} {last k : Nat} (h : KInv d fs last k) (hk : k ≤ 200) (n : Int) (hn : -9223372036854775808 ≤ n ∧ n ≤ 9223372036854775807) : KInv (opSetRoom d fs n).2.1 (opSetRoom d fs n).2.2 last k :=
  ⟨callD_ok h.ok (by have := h.ops; omega) 5 n 0 hn (by omega) ⟨#[]⟩ ⟨#[]⟩ [], by unfold opSetRoom; split <;> exact h.ops, h.le, by unfold opSetRoom; split <;> exact h.at_⟩
theorem KInv.fail {d : Dk} {fs : Fs} {last k : Nat} (h : KInv d fs last k) (hk : k ≤ 200) (n : Int) (hn : -9223372036854775808 ≤ n ∧ n ≤ 9223372036854775807) : KInv (opFail d fs n).2.1 (opFail d fs n).2.2 last k :=
  ⟨callD_ok h.ok (by have := h.ops; omega) 6 n 0 hn (by omega) ⟨#[]⟩ ⟨#[]⟩ [], by unfold opFail; split <;> exact h.ops, h.le, by unfold opFail; split <;> exact h.at_⟩
theorem KInv.arm {d : Dk} {fs : Fs} {last k : Nat} (h : KInv d fs last k) (hk : k ≤ 200) (n j : Int) (hn : -9223372036854775808 ≤ n ∧ n ≤ 9223372036854775807) (hj : -9223372036854775808 ≤ j ∧ j ≤ 9223372036854775807) : KInv (opArm d fs n j).2.1 (opArm d fs n j).2.2 last k :=
  ⟨callD_ok h.ok (by have := h.ops; omega) 7 n j hn hj ⟨#[]⟩ ⟨#[]⟩ [], by unfold opArm; split <;> exact h.ops, h.le, by unfold opArm; split <;> exact h.at_⟩
/-- behind a save: the number is the last one's or this one's -/
theorem KInv.save {d : Dk} {fs : Fs} {last k v : Nat} (h : KInv d fs last k) (hk : k ≤ 200) (hv : v ≤ 1099511627776) :
    (∀ x, (saveD d fs nmC (v : Int)).1 = .inl x → KInv (saveD d fs nmC (v : Int)).2.1 (saveD d fs nmC (v : Int)).2.2 (if x = 0 then v else last) (k + 1)) ∧
    (∀ op, (saveD d fs nmC (v : Int)).1 = .inr op → ∃ u, (u = last ∨ u = v) ∧ KInv (saveD d fs nmC (v : Int)).2.1 (saveD d fs nmC (v : Int)).2.2 u (k + 1)) := by
  have ho := h.ops
  have hs := saveD_ok h.ok (by omega) nmC (v : Int)
  have hl := layD_ok h.ok (by omega) (tmpN nmC) (bytesD v)
  have hkeep := saveD_keeps (d := d) (fs := fs) (nm := nmC) hv nameC.1 nameC.2 hl.1.names
  clear hl
  generalize saveD d fs nmC (v : Int) = r at *
  obtain ⟨x | op, d2, fs2⟩ := r
  · refine ⟨fun y hy => ?_, fun op hop => (by cases hop)⟩
    obtain rfl : x = y := by injection hy
    obtain ⟨k1, k2⟩ : (x = 0 → fget fs2 nmC = some ⟨bytesD v, 12⟩) ∧ (x ≠ 0 → fget fs2 nmC = fget fs nmC) := hkeep
    by_cases hx : x = 0
    · rw [if_pos hx]
      exact ⟨hs.1, by have h2 := hs.2; simp only at h2 ⊢; omega, hv, .inr (k1 hx)⟩
    · rw [if_neg hx]
      exact ⟨hs.1, by have h2 := hs.2; simp only at h2 ⊢; omega, h.le, by rw [show fget fs2 nmC = fget fs nmC from k2 hx]; exact h.at_⟩
  · refine ⟨fun y hy => (by cases hy), fun o ho' => ?_⟩
    have hk' : fget fs2 nmC = fget fs nmC ∨ fget fs2 nmC = some ⟨bytesD v, 12⟩ := hkeep
    have h2 : d2.ops ≤ d.ops + 5 := hs.2
    rcases hk' with h1 | h1
    · exact ⟨last, .inl rfl, hs.1, by show d2.ops ≤ _; omega, h.le, by show (fget fs2 nmC = none ∧ _) ∨ fget fs2 nmC = _; rw [h1]; exact h.at_⟩
    · exact ⟨v, .inr rfl, hs.1, by show d2.ops ≤ _; omega, hv, .inr h1⟩
theorem KInv.new (r : Int) (h : 0 ≤ r ∧ r ≤ 1073741824) : KInv ⟨r, 0, 0, 0, 0, 0⟩ (fsOf []) 0 0 := ⟨newDk_ok r h, by simp, by omega, .inl ⟨rfl, rfl⟩⟩
/-- a room that may be -/
def roomF (n : Int) : Nat := (IntKind.u64.wrap n % 60).toNat
theorem roomF_le (n : Int) : roomF n ≤ 60 := by
  have h0 : 0 ≤ IntKind.u64.wrap n := by simp [IntKind.wrap, IntKind.bits, IntKind.signed]; omega
  unfold roomF; omega
theorem curRoom (n : Int) (w : World) : Calls Try.prog 16 #[.int .i64 n] w fun e w' => e = .returned (.int .i64 (roomF n : Int)) ∧ w = w' := by
  have h0 : 0 ≤ IntKind.u64.wrap n := by simp [IntKind.wrap, IntKind.bits, IntKind.signed]; omega
  have h3 : (IntKind.u64.wrap n).tmod 60 = (roomF n : Int) := by rw [Int.tmod_eq_emod_of_nonneg h0]; unfold roomF; omega
  have h4 : wrap64 (roomF n : Int) = (roomF n : Int) := IntWalk.wrap64_in _ (by have := roomF_le n; omega)
  have H := Lib.hid (And.intro h3 h4)
  clear h0 h3 h4
  go_enter Try.func16, Try.ntmps16
  go_wp2_with (fail)
  go_ret
  rw [H.out.1, H.out.2]
  exact ⟨rfl, rfl⟩
end Go.Proofs.Ytolomfdommnklaa
