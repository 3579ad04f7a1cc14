/- Layer 6: what tells signs, walked. -/
import Derived.Test.YtkniednjchnncabDelim4
import Derived.Test.YtkniednjchnncabDelimMath
import Derived.Test.YtkniednjchnncabConv
namespace Go.Proofs.Ytkniednjchnncab
open Go.RowKit

theorem slice5all (G : Nat) (w : World) : (Instr.sliceAt 39 (.pointer (some ⟨G, 0, none⟩)) none none none).run Try.prog w = .ok (.slice (some ⟨G, 0, none⟩) 5 5) w := by
  rw [run_sliceAt_array_all w 39 ⟨G, 0, none⟩ (by kernel_rfl), size5]
  simp [slicedAt, len5, Result.andThen, Addr.add]

/-- what tells signs, and the error -/
def writeD (s : Sgn) : List UInt8 × Int := if s.good = true then ([77, 83, 72] ++ s.l, 0) else ([], 11)

set_option maxRecDepth 100000 in
theorem delimWrite (s : Sgn) (w : World) : Calls Try.prog 9 #[s.v] w fun x w' => x = .returned (.tuple #[.string (txt (writeD s).1), .int .i64 (writeD s).2]) ∧ Below w.heap.size w w' := by
  go_enter Try.func9, Try.ntmps9
  go_wp2_with (fail)
  refine (delimRight s _).mono ?_
  rintro e w1 ⟨rfl, hb1⟩
  have hn1 := heap_alloc_new w (.cells #[.int .u8 (s.a.toNat : Int), .int .u8 (s.b.toNat : Int), .int .u8 (s.c.toNat : Int), .int .u8 (s.d.toNat : Int), .int .u8 (s.e.toNat : Int)] 24)
  have HR1 : Hid (w1.heap[w.heap.size]? = some (.cells #[.int .u8 (s.a.toNat : Int), .int .u8 (s.b.toNat : Int), .int .u8 (s.c.toNat : Int), .int .u8 (s.d.toNat : Int), .int .u8 (s.e.toNat : Int)] 24)) := Lib.hid (by rw [hb1.block _ (by simp)]; exact hn1)
  have HB1 : Hid (Below w.heap.size w w1) := Lib.hid (((Below.refl _ w).alloc (Nat.le_refl _) _).trans (hb1.mono (by simp)))
  clear hb1 hn1
  obtain ⟨G0, hG⟩ : ∃ G, G = w.heap.size := ⟨_, rfl⟩
  have HB1' : Hid (Below w.heap.size w w1) := Lib.hid HB1.out
  clear HB1
  rw [← hG] at HR1 ⊢
  clear hG
  cases hgd : s.good
  · go_wp2_with (fail)
    go_ret2
    exact ⟨by simp [writeD, hgd], HB1'.out⟩
  · have q0 := cell_of_row w1 G0 0 _ _ _ HR1.out
    have q1 := cell_of_row w1 G0 1 _ _ _ HR1.out
    have q2 := cell_of_row w1 G0 2 _ _ _ HR1.out
    have q3 := cell_of_row w1 G0 3 _ _ _ HR1.out
    have q4 := cell_of_row w1 G0 4 _ _ _ HR1.out
    simp only [List.getElem?_toArray, List.getElem?_cons_zero, List.getElem?_cons_succ] at q0 q1 q2 q3 q4
    go_wp2_with (fail)
    refine (delimRow _ _ _ _ _ w1).mono ?_
    rintro e w2 ⟨rfl, hb2⟩
    clear q0 q1 q2 q3 q4
    have HB2 : Hid (Below w.heap.size w w2) := Lib.hid (HB1'.out.trans (hb2.mono HB1'.out.size))
    clear hb2 HB1' HR1
    have HBs : Hid (Bs (w2.alloc (.cells #[.int .u8 (s.a.toNat : Int), .int .u8 (s.b.toNat : Int), .int .u8 (s.c.toNat : Int), .int .u8 (s.d.toNat : Int), .int .u8 (s.e.toNat : Int)] 39)) (some ⟨w2.heap.size, 0, none⟩) 5 5 s.l) := Lib.hid (Bs.lit w2 s.l 39 _ _ rfl rfl rfl (by simp [maxLen, Sgn.l]))
    have hcv := HBs.out.str (P := Try.prog) 22 5 9 Try.underlying22 Try.underlying5 Try.underlying9
    have hsl := slice5all
    go_wp2_with (fail)
    go_ret2
    exact ⟨by rw [show (ByteArray.mk #[77, 83, 72]) = txt [77, 83, 72] from rfl, txt_app]; simp [writeD, hgd], HB2.out.alloc HB2.out.size _⟩
end Go.Proofs.Ytkniednjchnncab
