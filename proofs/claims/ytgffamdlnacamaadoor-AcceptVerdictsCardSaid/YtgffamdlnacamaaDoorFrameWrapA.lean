/- Layer 4: Wrap, where the frame lies. -/
import Derived.Test.YtgffamdlnacamaaDoorFrame2
namespace Go.Proofs.YtgffamdlnacamaaDoor
open Go.RowKit

/-- bytes in memory of their own -/
def RetNew (err : Int) (l : List UInt8) (w : World) (e : Ending) (w' : World) : Prop :=
  ∃ A c, e = .returned (.tuple #[.slice A l.length c, .int .i64 err]) ∧ Bs w' A l.length c l ∧ (∀ b, A = some b → w.heap.size ≤ b.block) ∧ Below w.heap.size w w'
set_option maxRecDepth 100000 in
theorem frameWrap_new (A : Option Addr) (n c : Nat) (l : List UInt8) (w : World) (hS : Signs w) (hB : Bs w A n c l) (hg : good l = true) (hn : n ≤ 140737488351232) :
    Calls Tryd.prog 29 #[.slice A n c] w (RetNew 0 (11 :: (l ++ [28, 13])) w) := by
  have hgo := Lib.hid (frameGood_b A n c l w hS hB true hg)
  have hmk : ∀ W : World, (Instr.makeSlice 22 (.int .i64 0) (.int .i64 ((n : Int) + 3))).run Tryd.prog W = .ok (.slice (some ⟨W.heap.size, 0, none⟩) 0 (n + 3)) (W.alloc (.cells (Array.replicate (n + 3) (.int .u8 0)) 5)) := by
    intro W
    rw [show ((n : Int) + 3) = ((n + 3 : Nat) : Int) from by omega]
    exact run_mk _ _ Tryd.underlying22 byteInfoF 0 (n + 3) (by omega) (by omega) W
  have HS := Lib.hid hS
  have HB := Lib.hid hB
  have HL : l.length ≤ n := by have := hB.len; omega
  have tok1 : True := trivial
  have tok2 : True := trivial
  have tok3 : True := trivial
  clear hS hB hg
  go_enter Tryd.func29, Tryd.ntmps29
  go_wp2_with (first
    | (go_at_call 27; refine (hgo.out).mono ?_; rintro e w1 ⟨rfl, hb1⟩
       have S1 := Lib.hid (HS.out.below hb1)
       have B1 := Lib.hid (HB.out.below hb1)
       obtain ⟨s0, s1, s2⟩ := HS.out.below hb1
       have hsz1 : 0 < w1.heap.size := World.block_lt_of_cell? w1 _ s0)
    | (go_at_call 54; refine (frameCount _ (by omega) (by omega) _).mono ?_; rintro e w' ⟨rfl, rfl⟩)
    | (at_builtin; have _t := tok1
       go_loud (refine wpList_app rfl (.tmp 12) (.tmp 15) 22 rfl w1.heap.size 5 Tryd.underlying22 byteInfoF _ [] rfl ((Own.made 5 w1 (Array.replicate (n + 3) (.int .u8 0)) (n + 3) (Nat.le_refl _) (by simp only [maxLen]; omega) (by simp)).alloc _) _ 1 1 [11] rfl (Bs.lit _ [11] 5 _ _ (by simp) rfl rfl (by simp [maxLen])) (by simp) (by simp; omega) ?_)
       intro v2 w2 hown2 hb2 hg2
       have b12 : Below w1.heap.size w1 w2 := (((Below.refl _ _).alloc (Nat.le_refl _) _).alloc (by simp) _).trans hb2
       clear tok1 hb2 hg2 _t)
    | (at_builtin; have _t := tok2
       go_loud (refine wpList_app rfl (.tmp 17) (.tmp 18) 22 rfl w1.heap.size 5 Tryd.underlying22 byteInfoF _ _ rfl hown2 _ n c l rfl (B1.out.below b12) (by simp; omega) b12.size ?_)
       intro v3 w3 hown3 hb3 hg3
       have b13 := b12.trans hb3
       clear tok2 hb3 hg3 _t
       obtain ⟨s03, s13, s23⟩ := S1.out.below b13)
    | (at_builtin; have _t := tok3
       go_loud (refine wpList_app rfl (.tmp 20) (.tmp 25) 22 rfl w1.heap.size 5 Tryd.underlying22 byteInfoF _ _ rfl (hown3.alloc _) _ 2 2 [28, 13] rfl (Bs.lit _ [28, 13] 5 _ _ (by simp) rfl rfl (by simp [maxLen])) (by simp; omega) (by have := b13.size; simp; omega) ?_)
       intro v4 w4 hown4 hb4 hg4
       have b14 : Below w1.heap.size w1 w4 := (b13.alloc b13.size _).trans hb4
       clear tok3 hb4 hg4 _t))
  go_ret2
  obtain ⟨A4, c4, rfl, hB4, hlo4⟩ := hown4.bs
  have hl4 : ([] ++ [11] ++ l ++ [28, 13] : List UInt8) = 11 :: (l ++ [28, 13]) := by simp
  rw [hl4] at hB4 ⊢
  exact ⟨A4, c4, rfl, hB4, fun b hb => Nat.le_trans hb1.size (hlo4 b hb), hb1.trans (b14.mono hb1.size)⟩
end Go.Proofs.YtgffamdlnacamaaDoor
