/- Layer 2: the law's call of Append, walked. -/
import Derived.Test.YtolomfdommnklaaDk9
namespace Go.Proofs.Ytolomfdommnklaa
open Go.RowKit Go.MapKept

abbrev actV (kd n k : Int) (a b : ByteArray) (A : Option Addr) (m c : Nat) : Value := .agg #[.int .i64 kd, .int .i64 n, .int .i64 k, .string a, .string b, .slice A m c]
section
variable {w : World} {B D M : Nat} {d : Dk} {F : List Ent}
theorem DkCh.boxes {F' : List Ent} {w1 w2 w3 : World} {s : Nat} (c : DkCh D M F F' w1 w2) (hs : ∀ k, DFoot D M F k → k < s) (hs2 : s + 4 ≤ w1.heap.size) {d' : Dk} (h2 : DkAt w2 B D M d' F') (c3 : Ch (BxS s) w2 w3) : DkAt w3 B D M d' F' :=
  h2.ch c3 (fun k hk hb => by
    have hb1 := hb.1
    have hb2 := hb.2
    rcases hk with hk | hk | hk
    · have := hs k (.inl hk); omega
    · have := hs k (.inr (.inl hk)); omega
    · rcases c.foot k hk with h5 | h5
      · have := hs k (.inr (.inr h5)); omega
      · omega)
/-- an append's error -/
def appE (d : Dk) (m : Nat) : Int := if appN d m < m then 4 else 0
/-- call's answer -/
abbrev retC (n e : Int) (gone : Bool) (op : Int) : Ending := .returned (.tuple #[.int .i64 n, .int .i64 e, .bool gone, .int .i64 op])

end
end Go.Proofs.Ytolomfdommnklaa
