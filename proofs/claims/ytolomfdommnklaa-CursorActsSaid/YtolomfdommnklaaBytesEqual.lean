/- bytes.Equal, walked. -/
import Derived.Test.YtolomfdommnklaaLater
namespace Go.Proofs.Ytolomfdommnklaa
open Go.RowKit

theorem Bs.str1 {w : World} {A : Option Addr} {n c : Nat} {l : List UInt8} (h : Bs w A n c l) : (convert 22 9 (.slice A n c)).run Try.prog w = .ok (.string (txt l)) w :=
  h.str _ _ _ Try.underlying22 Try.underlying5 Try.underlying9
theorem txt_toList (l : List UInt8) : (txt l).data.toList = l := rfl

set_option maxRecDepth 100000 in
theorem bytesEqual (A : Option Addr) (n c : Nat) (l : List UInt8) (B : Option Addr) (m d : Nat) (k : List UInt8) (w : World) (hA : Bs w A n c l) (hB : Bs w B m d k) :
    Calls Try.prog 53 #[.slice A n c, .slice B m d] w fun e w' => e = .returned (.bool (l == k)) ∧ w = w' := by
  have h1 := hA.str1
  have h2 := hB.str1
  clear hA hB
  go_enter Try.func53, Try.ntmps53
  go_wp2_with (fail)
  go_ret
  exact ⟨rfl, rfl⟩
end Go.Proofs.Ytolomfdommnklaa
