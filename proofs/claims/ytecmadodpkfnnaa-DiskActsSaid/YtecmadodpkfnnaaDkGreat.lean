/- Layer 2: what the laws look at: room and great, walked. -/
import Derived.Test.YtecmadodpkfnnaaOpenDActs
import Derived.Test.YtecmadodpkfnnaaDk16
import Derived.Test.YtecmadodpkfnnaaDkAlive
namespace Go.Proofs.Ytecmadodpkfnnaa
open Go.RowKit Go.MapKept

theorem dkRoomN (n : Int) (w : World) : Calls Try.prog 22 #[.int .i64 n] w fun e w' => (∃ r : Int, e = .returned (.int .i64 r) ∧ 0 ≤ r ∧ r < 4000) ∧ w' = w := by
  have h0 : 0 ≤ IntKind.u64.wrap n := by simp [IntKind.wrap, IntKind.bits, IntKind.signed]; omega
  have h1 : 0 ≤ (IntKind.u64.wrap n) % 4000 := by omega
  have h2 : (IntKind.u64.wrap n) % 4000 < 4000 := by omega
  have h3 : (IntKind.u64.wrap n).tmod 4000 = (IntKind.u64.wrap n) % 4000 := Int.tmod_eq_emod_of_nonneg h0
  have h4 : wrap64 ((IntKind.u64.wrap n) % 4000) = (IntKind.u64.wrap n) % 4000 := IntWalk.wrap64_in _ (by omega)
  have H := Lib.hid (And.intro h1 (And.intro h2 (And.intro h3 h4)))
  clear h0 h1 h2 h3 h4
  go_enter Try.func22, Try.ntmps22
  go_wp2_with (fail)
  go_ret
  rw [H.out.2.2.1, H.out.2.2.2]
  exact ⟨⟨_, rfl, H.out.1, H.out.2.1⟩, rfl⟩
/-- some truth value is answered -/
def SomeB (w : World) (e : Ending) (w' : World) : Prop := ∃ b : Bool, e = .returned (.bool b) ∧ Below w.heap.size w w'

set_option maxHeartbeats 4000000 in
set_option maxRecDepth 100000 in
theorem dkGreat (A : Option Addr) (n c : Nat) (L : List DAct) (w : World) (hL : DAs w A n c L) : Calls Try.prog 20 #[.slice A n c] w (SomeB w) := by
  have HL := Lib.hid hL
  have hn : n ≤ 140737488351232 := hL.2.2.2.1
  clear hL
  go_enter Try.func20, Try.ntmps20
  go_wp2_with (fail)
  go_loopw [8, 3] (fun i s wr => ∃ (k : Nat) (z : Int), k ≤ n ∧ i = .int .i64 k ∧ s = .int .i64 z ∧ Below w.heap.size w wr) (fun i _ _ => n - (intOf i).toNat)
  case atStart => exact ⟨0, 0, by omega, rfl, rfl, Below.refl _ _⟩
  case round =>
    obtain ⟨wo, rfl⟩ : ∃ wo : World, wo = wr := ⟨_, rfl⟩
    obtain ⟨k, z, hk, rfl, rfl, hb⟩ := hrel
    have HB := Lib.hid hb
    clear hb
    by_cases hlt : k < n
    · obtain ⟨b, o, rfl, hx⟩ := (HL.out.below HB.out).2.2.2.2 (by omega)
      obtain ⟨x, hxk⟩ : ∃ x, L[k]? = some x := ⟨_, List.getElem?_eq_getElem (by have := HL.out.1; omega)⟩
      obtain ⟨⟨c0, c1, c2, c3, c4, A5, m, c', c5, hB5, hc'⟩, hf⟩ := hx k x hxk
      have hm5 := hB5.le
      have HB2 : Hid (∀ o, Below w.heap.size w (wo.alloc o)) := Lib.hid (fun o => HB.out.alloc HB.out.size o)
      clear hx hB5 hf hxk
      go_wp2_with (fail)
      exact ⟨⟨k + 1, _, by omega, by go_num, rfl, HB2.out _⟩, by simp [intOf]; omega⟩
    · obtain rfl : k = n := by omega
      by_cases h2 : (200 : Int) < (k : Int)
      · go_wp2_with (fail)
        go_ret
        exact ⟨_, rfl, HB.out⟩
      · by_cases h5 : (5000 : Int) < z
        · go_wp2_with (fail)
          go_ret
          exact ⟨_, rfl, HB.out⟩
        · go_wp2_with (fail)
          go_ret
          exact ⟨_, rfl, HB.out⟩
end Go.Proofs.Ytecmadodpkfnnaa
