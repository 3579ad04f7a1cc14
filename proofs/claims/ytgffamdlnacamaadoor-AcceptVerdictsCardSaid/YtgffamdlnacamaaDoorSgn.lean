/- Signs: five bytes, a struct's or an array's. -/
import Derived.Test.YtgffamdlnacamaaDoorBase
import Derived.OpenShut
namespace Go.Proofs.YtgffamdlnacamaaDoor
open Go.RowKit

/-- signs as a value, a struct's or an array's -/
abbrev dlm (a b c d e : Int) : Value := .agg #[.int .u8 a, .int .u8 b, .int .u8 c, .int .u8 d, .int .u8 e]
/-- signs -/
structure Sgn where
  a : UInt8
  b : UInt8
  c : UInt8
  d : UInt8
  e : UInt8
def Sgn.l (s : Sgn) : List UInt8 := [s.a, s.b, s.c, s.d, s.e]
abbrev Sgn.v (s : Sgn) : Value := dlm (s.a.toNat : Int) (s.b.toNat : Int) (s.c.toNat : Int) (s.d.toNat : Int) (s.e.toNat : Int)

theorem u8_of (a : Int) (h : (Lit.int .u8 a).wf = true) : ∃ x : UInt8, a = (x.toNat : Int) := by
  have := bounds_u8 h
  exact ⟨a.toNat.toUInt8, by simp; omega⟩
end Go.Proofs.YtgffamdlnacamaaDoor
