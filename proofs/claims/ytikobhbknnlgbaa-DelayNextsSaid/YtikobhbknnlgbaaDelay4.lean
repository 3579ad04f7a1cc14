/- Layer 12: the document's examples. -/
import Derived.Test.YtikobhbknnlgbaaDelay3
import Derived.Test.YtikobhbknnlgbaaDelayTicks
namespace Go.Proofs.Ytikobhbknnlgbaa
open Go.RowKit

theorem ex_a : nextD 3 20 4611686018427387904 2 = 12 := by decide +kernel
def facA (j : Nat) : Nat := [4611686018427387904, 9221120237041090561, 13830554455654793216, 0].getD j 0
def wantA (j k : Nat) : Int := ([[3, 6, 12], [3, 20, 20], [3, 0, 3], [3, 0, 0]].getD j []).getD k 0
theorem ex_b : ∀ j < 4, ∀ k < 3, nextD 3 20 (facA j) k = wantA j k := by decide +kernel


theorem int3_0 (a b c : Value) (w : World) : (Instr.index 63 (.agg #[a, b, c]) (.int .i64 0)).run Try.prog w = .ok a w := by
  simp [Instr.index, asIntOf, run_underlying Try.underlying63, go_sem]
theorem int3_1 (a b c : Value) (w : World) : (Instr.index 63 (.agg #[a, b, c]) (.int .i64 1)).run Try.prog w = .ok b w := by
  simp [Instr.index, asIntOf, run_underlying Try.underlying63, go_sem]
theorem int3_2 (a b c : Value) (w : World) : (Instr.index 63 (.agg #[a, b, c]) (.int .i64 2)).run Try.prog w = .ok c w := by
  simp [Instr.index, asIntOf, run_underlying Try.underlying63, go_sem]

/-- the four examples' cells -/
abbrev rowsA : Array Value := #[.float .f64 4611686018427387904, .int .i64 3, .int .i64 6, .int .i64 12, .float .f64 9221120237041090561, .int .i64 3, .int .i64 20, .int .i64 20,
  .float .f64 13830554455654793216, .int .i64 3, .int .i64 0, .int .i64 3, .float .f64 0, .int .i64 3, .int .i64 0, .int .i64 0]
def Alive (w : World) (e : Ending) (w' : World) : Prop := e = .returned (.bool true) ∧ Below w.heap.size w w'

set_option maxRecDepth 100000 in
set_option maxHeartbeats 1000000 in
theorem alive_any (w : World) : Calls Try.prog 40 #[] w (Alive w) := by
  go_enter Try.func40, Try.ntmps40
  go_wp2_with (fail)
  refine (delayNext_yes 0 3 20 0 2 4611686018427387904 _ (by decide) (by decide) (by decide) (by decide) (by decide) (by decide)).mono ?_
  rintro e w1 ⟨rfl, hb1⟩
  rw [show nextD 3 20 4611686018427387904 (2 : Int).toNat = 12 from ex_a]
  go_wp2_with (fail)
  refine (mathNaN _).mono ?_
  rintro e w2 ⟨rfl, rfl⟩
  go_wp2_with (fail)
  have hrow0 := row_alloc w1 (.cells rowsA 64)
  have hB0 : Below w1.heap.size w1 (w1.alloc (.cells rowsA 64)) := (Below.refl _ _).alloc (Nat.le_refl _) _
  have hs0 : w1.heap.size < (w1.alloc (.cells rowsA 64)).heap.size := by simp
  revert hrow0 hB0 hs0
  generalize w1.alloc (.cells rowsA 64) = W0
  intro hrow0 hB0 hs0
  have H0 := Lib.hid (And.intro hrow0 (And.intro hb1 (And.intro hB0 hs0)))
  clear hrow0 hb1 hB0 hs0
  go_loopw [31] (fun i wr => ∃ (j : Nat), j ≤ 4 ∧ i = .int .i64 j ∧ Below W0.heap.size W0 wr) (fun i _ => 4 - (intOf i).toNat)
  case atStart => exact ⟨0, by omega, rfl, Below.refl _ _⟩
  case round =>
    obtain ⟨j, hj, rfl, hB⟩ := hrel
    have HB := Lib.hid hB
    clear hB
    by_cases hlt : j < 4
    · obtain ⟨f, a, b, c, hf, ha, hb, hc, n0, n1, n2⟩ : ∃ (f : Nat) (a b c : Int), rowsA[j * 4]? = some (.float .f64 f) ∧ rowsA[j * 4 + 1]? = some (.int .i64 a) ∧ rowsA[j * 4 + 2]? = some (.int .i64 b) ∧ rowsA[j * 4 + 3]? = some (.int .i64 c) ∧ nextD 3 20 f 0 = a ∧ nextD 3 20 f 1 = b ∧ nextD 3 20 f 2 = c := by
        have h4 : j = 0 ∨ j = 1 ∨ j = 2 ∨ j = 3 := by omega
        rcases h4 with rfl | rfl | rfl | rfl
        · exact ⟨_, _, _, _, rfl, rfl, rfl, rfl, ex_b 0 (by omega) 0 (by omega), ex_b 0 (by omega) 1 (by omega), ex_b 0 (by omega) 2 (by omega)⟩
        · exact ⟨_, _, _, _, rfl, rfl, rfl, rfl, ex_b 1 (by omega) 0 (by omega), ex_b 1 (by omega) 1 (by omega), ex_b 1 (by omega) 2 (by omega)⟩
        · exact ⟨_, _, _, _, rfl, rfl, rfl, rfl, ex_b 2 (by omega) 0 (by omega), ex_b 2 (by omega) 1 (by omega), ex_b 2 (by omega) 2 (by omega)⟩
        · exact ⟨_, _, _, _, rfl, rfl, rfl, rfl, ex_b 3 (by omega) 0 (by omega), ex_b 3 (by omega) 1 (by omega), ex_b 3 (by omega) 2 (by omega)⟩
      have hrow : wr.heap[w1.heap.size]? = some (.cells rowsA 64) := by
        rw [HB.out.block _ H0.out.2.2.2]
        exact H0.out.1
      have hc0 : wr.cell? ⟨w1.heap.size, j * 4, none⟩ = some (.float .f64 f) := by rw [cell_of_row wr _ _ _ _ _ hrow]; exact hf
      have hc1 : wr.cell? ⟨w1.heap.size, j * 4 + 1, none⟩ = some (.int .i64 a) := by rw [cell_of_row wr _ _ _ _ _ hrow]; exact ha
      have hc2 : wr.cell? ⟨w1.heap.size, j * 4 + 2, none⟩ = some (.int .i64 b) := by rw [cell_of_row wr _ _ _ _ _ hrow]; exact hb
      have hc3 : wr.cell? ⟨w1.heap.size, j * 4 + 3, none⟩ = some (.int .i64 c) := by rw [cell_of_row wr _ _ _ _ _ hrow]; exact hc
      clear hrow hf ha hb hc
      have N := Lib.hid (And.intro n0 (And.intro n1 n2))
      clear n0 n1 n2
      have hsf := fun (A : Addr) (m : Mode) (W : World) => run_store Try.prog W A (.float .f64 f) m rfl
      go_wp2_with (fail)
      clear hsf
      generalize hg : wr.heap.size = g
      have hB1 : Below W0.heap.size W0 (wr.alloc (.cells #[.float .f64 f, .int .i64 a, .int .i64 b, .int .i64 c] 64)) := HB.out.alloc HB.out.size _
      have hrow1 : (wr.alloc (.cells #[.float .f64 f, .int .i64 a, .int .i64 b, .int .i64 c] 64)).heap[g]? = some (.cells #[.float .f64 f, .int .i64 a, .int .i64 b, .int .i64 c] 64) := by rw [← hg]; exact row_alloc _ _
      have hg1 : g < (wr.alloc (.cells #[.float .f64 f, .int .i64 a, .int .i64 b, .int .i64 c] 64)).heap.size := by simp; omega
      clear hc0 hc1 hc2 hc3 hg
      revert hB1 hrow1 hg1
      generalize wr.alloc (.cells #[.float .f64 f, .int .i64 a, .int .i64 b, .int .i64 c] 64) = W1
      intro hB1 hrow1 hg1
      have H1 := Lib.hid (And.intro hB1 (And.intro hrow1 hg1))
      clear hB1 hrow1 hg1
      rw [show decide ((j : Int) < 4) = true by simp; omega]
      have HLT := Lib.hid hlt
      clear hlt
      go_loopw [37] (fun i wr => ∃ (k : Nat), k ≤ 3 ∧ i = .int .i64 k ∧ Below W1.heap.size W1 wr) (fun i _ => 3 - (intOf i).toNat)
      case atStart => exact ⟨0, by omega, rfl, Below.refl _ _⟩
      case round =>
        obtain ⟨k, hk, rfl, hB⟩ := hrel
        have HB1 := Lib.hid hB
        clear hB
        by_cases hlt2 : k < 3
        · have hcf : wr.cell? ⟨g, 0, none⟩ = some (.float .f64 f) := by
            rw [cell_of_row wr _ _ _ _ _ ((HB1.out.block _ H1.out.2.2).trans H1.out.2.1)]
            rfl
          have h3 : k = 0 ∨ k = 1 ∨ k = 2 := by omega
          clear hk hlt2
          rcases h3 with rfl | rfl | rfl
          · have hn := N.out.1
            have HN := Lib.hid hn
            clear hn
            have hix := fun W : World => int3_0 (.int .i64 a) (.int .i64 b) (.int .i64 c) W
            go_wp2_with (fail)
            refine (delayNext_yes 0 3 20 0 0 f _ (by decide) (by decide) (by decide) (by decide) (by decide) (by decide)).mono ?_
            rintro e w2 ⟨rfl, hb2⟩
            rw [show nextD 3 20 f (0 : Int).toNat = a from HN.out]
            have HB2 := Lib.hid (HB1.out.trans (hb2.mono HB1.out.size))
            clear HB1 hb2 hcf
            go_wp2_with (fail)
            go_roundw
            case rel => exact ⟨1, by omega, rfl, HB2.out⟩
            case measure => simp [intOf]
          · have hn := N.out.2.1
            have HN := Lib.hid hn
            clear hn
            have hix := fun W : World => int3_1 (.int .i64 a) (.int .i64 b) (.int .i64 c) W
            go_wp2_with (fail)
            refine (delayNext_yes 0 3 20 0 1 f _ (by decide) (by decide) (by decide) (by decide) (by decide) (by decide)).mono ?_
            rintro e w2 ⟨rfl, hb2⟩
            rw [show nextD 3 20 f (1 : Int).toNat = b from HN.out]
            have HB2 := Lib.hid (HB1.out.trans (hb2.mono HB1.out.size))
            clear HB1 hb2 hcf
            go_wp2_with (fail)
            go_roundw
            case rel => exact ⟨2, by omega, rfl, HB2.out⟩
            case measure => simp [intOf]
          · have hn := N.out.2.2
            have HN := Lib.hid hn
            clear hn
            have hix := fun W : World => int3_2 (.int .i64 a) (.int .i64 b) (.int .i64 c) W
            go_wp2_with (fail)
            refine (delayNext_yes 0 3 20 0 2 f _ (by decide) (by decide) (by decide) (by decide) (by decide) (by decide)).mono ?_
            rintro e w2 ⟨rfl, hb2⟩
            rw [show nextD 3 20 f (2 : Int).toNat = c from HN.out]
            have HB2 := Lib.hid (HB1.out.trans (hb2.mono HB1.out.size))
            clear HB1 hb2 hcf
            go_wp2_with (fail)
            go_roundw
            case rel => exact ⟨3, by omega, rfl, HB2.out⟩
            case measure => simp [intOf]
        · have hk3 : k = 3 := by omega
          subst hk3
          clear hk hlt2
          go_wp2_with (fail)
          go_roundw
          case rel => exact ⟨j + 1, HLT.out, by go_num, H1.out.1.trans (HB1.out.mono H1.out.1.size)⟩
          case measure => have := HLT.out; simp [intOf]; omega
    · have hj4 : j = 4 := by omega
      subst hj4
      go_wp2_with (fail)
      go_ret
      have h := H0.out.2.2.1.trans (HB.out.mono H0.out.2.2.1.size)
      exact ⟨rfl, H0.out.2.1.trans (h.mono H0.out.2.1.size)⟩
end Go.Proofs.Ytikobhbknnlgbaa
