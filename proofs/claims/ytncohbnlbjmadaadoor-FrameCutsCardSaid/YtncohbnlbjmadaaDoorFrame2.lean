/- Layer 4: Wrap, Unwrap, Count. -/
import Derived.Test.YtncohbnlbjmadaaDoorFrame
namespace Go.Proofs.YtncohbnlbjmadaaDoor
open Go.RowKit

theorem byteInfoF : (Tryd.prog.info? 5).map (fun i => (i.zero, i.size, i.bytes)) = some (some (.int .u8 0), 1, 1) := by kernel_rfl

theorem frameGood (A : Option Addr) (n c : Nat) (l : List UInt8) (w : World) (hS : Signs w) (hB : Bs w A n c l) :
    Calls Tryd.prog 19 #[.slice A n c] w fun e w' => e = .returned (.bool (good l)) ∧ ∃ q, w' = w.drewN q := by
  cases hg : good l with
  | true => exact frameGood_yes A n c l w hS hB hg
  | false => exact frameGood_no A n c l w hS hB hg

theorem frameGood_b (A : Option Addr) (n c : Nat) (l : List UInt8) (w : World) (hS : Signs w) (hB : Bs w A n c l) (r : Bool) (hr : good l = r) :
    Calls Tryd.prog 19 #[.slice A n c] w fun e w' => e = .returned (.bool r) ∧ Below w.heap.size w w' := by
  subst hr
  exact (frameGood A n c l w hS hB).mono fun e w' ⟨he, q, hq⟩ => ⟨he, by rw [hq]; exact drawN_below (Below.refl _ _) q⟩

theorem frameCount (k : Int) (h0 : 0 ≤ k) (h1 : k ≤ 4611686018427387904) (w : World) :
    Calls Tryd.prog 20 #[.int .i64 k] w fun e w' => e = .returned (.int .i64 (k + 3)) ∧ w = w' := by
  go_enter Tryd.func20, Tryd.ntmps20
  go_wp2
  go_ret
  exact ⟨rfl, rfl⟩
theorem frameCount_neg (k : Int) (h0 : k < 0) (w : World) :
    Calls Tryd.prog 20 #[.int .i64 k] w fun e w' => e = .returned (.int .i64 0) ∧ w = w' := by
  go_enter Tryd.func20, Tryd.ntmps20
  go_wp2
  go_ret
  exact ⟨rfl, rfl⟩

set_option maxRecDepth 100000 in
theorem frameWrap_no (A : Option Addr) (n c : Nat) (l : List UInt8) (w : World) (hS : Signs w) (hB : Bs w A n c l) (hg : good l = false) :
    Calls Tryd.prog 6 #[.slice A n c] w (RetBs 10 [] w) := by
  have hgo := Lib.hid (frameGood_b A n c l w hS hB false hg)
  go_enter Tryd.func6, Tryd.ntmps6
  go_wp2_with (go_at_call 19; refine (hgo.out).mono ?_; rintro e w1 ⟨rfl, hb1⟩)
  go_ret2
  exact ⟨none, 0, rfl, Bs.none_ _, hb1⟩

set_option maxRecDepth 100000 in
theorem frameWrap_yes (A : Option Addr) (n c : Nat) (l : List UInt8) (w : World) (hS : Signs w) (hB : Bs w A n c l) (hg : good l = true) (hn : n ≤ 140737488351232) :
    Calls Tryd.prog 6 #[.slice A n c] w (RetBs 0 (11 :: (l ++ [28, 13])) w) := by
  have hgo := Lib.hid (frameGood_b A n c l w hS hB true hg)
  have hmk : ∀ W : World, (Instr.makeSlice 22 (.int .i64 0) (.int .i64 ((n : Int) + 3))).run Tryd.prog W = .ok (.slice (some ⟨W.heap.size, 0, none⟩) 0 (n + 3)) (W.alloc (.cells (Array.replicate (n + 3) (.int .u8 0)) 5)) := by
    intro W
    rw [show ((n : Int) + 3) = ((n + 3 : Nat) : Int) from by omega]
    exact run_mk _ _ Tryd.underlying22 byteInfoF 0 (n + 3) (by omega) (by omega) W
  have HS := Lib.hid hS
  have HB := Lib.hid hB
  have HL : l.length ≤ n := by have := hB.len; omega
  have tok1 : True := trivial
  have tok2 : True := trivial
  have tok3 : True := trivial
  clear hS hB hg
  go_enter Tryd.func6, Tryd.ntmps6
  go_wp2_with (first
    | (go_at_call 19; refine (hgo.out).mono ?_; rintro e w1 ⟨rfl, hb1⟩
       have S1 := Lib.hid (HS.out.below hb1)
       have B1 := Lib.hid (HB.out.below hb1)
       obtain ⟨s0, s1, s2⟩ := HS.out.below hb1
       have hsz1 : 0 < w1.heap.size := World.block_lt_of_cell? w1 _ s0)
    | (go_at_call 20; refine (frameCount _ (by omega) (by omega) _).mono ?_; rintro e w' ⟨rfl, rfl⟩)
    | (at_builtin; have _t := tok1
       go_loud (refine wpList_app rfl (.tmp 12) (.tmp 15) 22 rfl w1.heap.size 5 Tryd.underlying22 byteInfoF _ [] rfl ((Own.made 5 w1 (Array.replicate (n + 3) (.int .u8 0)) (n + 3) (Nat.le_refl _) (by simp only [maxLen]; omega) (by simp)).alloc _) _ 1 1 [11] rfl (Bs.lit _ [11] 5 _ _ (by simp) rfl rfl (by simp [maxLen])) (by simp) (by simp; omega) ?_)
       intro v2 w2 hown2 hb2 hg2
       have b12 : Below w1.heap.size w1 w2 := (((Below.refl _ _).alloc (Nat.le_refl _) _).alloc (by simp) _).trans hb2
       clear tok1 hb2 hg2 _t)
    | (at_builtin; have _t := tok2
       go_loud (refine wpList_app rfl (.tmp 17) (.tmp 18) 22 rfl w1.heap.size 5 Tryd.underlying22 byteInfoF _ _ rfl hown2 _ n c l rfl (B1.out.below b12) (by simp; omega) b12.size ?_)
       intro v3 w3 hown3 hb3 hg3
       have b13 := b12.trans hb3
       clear tok2 hb3 hg3 _t
       obtain ⟨s03, s13, s23⟩ := S1.out.below b13)
    | (at_builtin; have _t := tok3
       go_loud (refine wpList_app rfl (.tmp 20) (.tmp 25) 22 rfl w1.heap.size 5 Tryd.underlying22 byteInfoF _ _ rfl (hown3.alloc _) _ 2 2 [28, 13] rfl (Bs.lit _ [28, 13] 5 _ _ (by simp) rfl rfl (by simp [maxLen])) (by simp; omega) (by have := b13.size; simp; omega) ?_)
       intro v4 w4 hown4 hb4 hg4
       have b14 : Below w1.heap.size w1 w4 := (b13.alloc b13.size _).trans hb4
       clear tok3 hb4 hg4 _t))
  go_ret2
  obtain ⟨A4, c4, rfl, hB4, _⟩ := hown4.bs
  have hl4 : ([] ++ [11] ++ l ++ [28, 13] : List UInt8) = 11 :: (l ++ [28, 13]) := by simp
  rw [hl4] at hB4 ⊢
  exact ⟨A4, c4, rfl, hB4, hb1.trans (b14.mono hb1.size)⟩
end Go.Proofs.YtncohbnlbjmadaaDoor
