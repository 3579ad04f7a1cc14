/- EscapeDecodes, walked. -/
import Derived.Test.YtecmadodpkfnnaaRef07c
import Derived.Test.YtecmadodpkfnnaaRefRight
namespace Go.Proofs.Ytecmadodpkfnnaa
open Go.RowKit Go.MapKept

set_option maxHeartbeats 4000000 in
set_option maxRecDepth 100000 in
theorem escapeDecodes_walk (x : ByteArray) (s : Sgn) (w : World) (_h0 : x.size ≤ maxLen) : Calls Try.prog 4 #[.string x, s.v] w (True_ w) := by
  have hxl : x.size ≤ 9223372036854775807 := Nat.le_trans _h0 (by decide)
  have HX := Lib.hid (Box5.new s w)
  have HB0 : Hid (Below w.heap.size w (w.alloc (dobj7 s))) := Lib.hid ((Below.refl _ _).alloc (Nat.le_refl _) _)
  clear _h0
  go_enter Try.func4, Try.ntmps4
  by_cases hx8 : (2000 : Int) < (x.size : Int)
  · go_wp2_with (fail)
    refine (escAlive _).mono ?_
    rintro e w1 ⟨rfl, hb1⟩
    have HB1 : Hid (Below w.heap.size w w1) := Lib.hid (HB0.out.trans (hb1.mono HB0.out.size))
    clear hb1
    go_wp2_with (fail)
    go_ret
    exact ⟨rfl, HB1.out⟩
  have hxm : Hid (x.size ≤ 2000) := Lib.hid (by omega)
  have hxn : Hid (x.size ≤ 1000000) := Lib.hid (by omega)
  clear hxl
  cases hg : s.good
  · skip
    have HG := Lib.hid hg
    clear hg
    go_wp2_with (fail)
    refine (escDecode_no x s HG.out _).mono ?_
    rintro e w1 ⟨rfl, hb1⟩
    have HX1 := Lib.hid (HX.out.below hb1)
    have HB1 : Hid (Below w.heap.size w w1) := Lib.hid (HB0.out.trans (hb1.mono HB0.out.size))
    obtain ⟨x0, x1, x2, x3, x4⟩ := HX1.out.cells
    clear hb1
    go_wp2_with (fail)
    refine (refRight s _).mono ?_
    rintro e w2 ⟨rfl, hb2⟩
    rw [HG.out]
    have HB2 : Hid (Below w.heap.size w w2) := Lib.hid (HB1.out.trans (hb2.mono HB1.out.size))
    clear hb2 x0 x1 x2 x3 x4
    go_wp2_with (fail)
    refine (escAlive _).mono ?_
    rintro e w3 ⟨rfl, hb3⟩
    have HB3 : Hid (Below w.heap.size w w3) := Lib.hid (HB2.out.trans (hb3.mono HB2.out.size))
    clear hb3
    go_wp2_with (fail)
    go_ret
    exact ⟨rfl, HB3.out⟩
  · skip
    have HG := Lib.hid hg
    clear hg
    go_wp2_with (fail)
    refine (escDecode x hxn.out s HG.out _).mono ?_
    rintro e w1 ⟨rfl, hb1⟩
    have HX1 := Lib.hid (HX.out.below hb1)
    have HB1 : Hid (Below w.heap.size w w1) := Lib.hid (HB0.out.trans (hb1.mono HB0.out.size))
    obtain ⟨x0, x1, x2, x3, x4⟩ := HX1.out.cells
    clear hb1
    obtain ⟨T, hT⟩ : ∃ T, T = decText (decD s x.data.toList) := ⟨_, rfl⟩
    obtain ⟨p, hp⟩ : ∃ p, p = decPos (decD s x.data.toList) x.data.toList.length := ⟨_, rfl⟩
    obtain ⟨E, hE⟩ : ∃ E, E = decErr (decD s x.data.toList) := ⟨_, rfl⟩
    have HRD := Lib.hid (fun W => refDecode x hxn.out s W)
    rw [← hT, ← hp, ← hE] at HRD ⊢
    clear hT hp hE
    go_wp2_with (fail)
    refine (refRight s _).mono ?_
    rintro e w2 ⟨rfl, hb2⟩
    rw [HG.out]
    have HX2 := Lib.hid (HX1.out.below hb2)
    have HB2 : Hid (Below w.heap.size w w2) := Lib.hid (HB1.out.trans (hb2.mono HB1.out.size))
    clear hb2 x0 x1 x2 x3 x4
    obtain ⟨x0, x1, x2, x3, x4⟩ := HX2.out.cells
    go_wp2_with (fail)
    refine (HRD.out _).mono ?_
    rintro e w3 ⟨rfl, hb3⟩
    have HB3 : Hid (Below w.heap.size w w3) := Lib.hid (HB2.out.trans (hb3.mono HB2.out.size))
    clear hb3
    go_wp2_with (fail)
    refine (escAlive _).mono ?_
    rintro e w4 ⟨rfl, hb4⟩
    have HB4 : Hid (Below w.heap.size w w4) := Lib.hid (HB3.out.trans (hb4.mono HB3.out.size))
    clear hb4
    go_wp2_with (fail)
    go_ret
    exact ⟨rfl, HB4.out⟩
end Go.Proofs.Ytecmadodpkfnnaa
