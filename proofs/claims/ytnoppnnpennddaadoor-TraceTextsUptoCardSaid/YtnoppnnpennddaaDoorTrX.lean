/- Layer 19's answers: rows of steps compared: the same steps are the same. -/
import Derived.Test.YtnoppnnpennddaaDoorTrG
import Derived.Test.YtnoppnnpennddaaDoorTr9
import Derived.BigQuiet
namespace Go.Proofs.YtnoppnnpennddaaDoor
open Go.RowKit

set_option maxHeartbeats 8000000 in
set_option maxRecDepth 100000 in
theorem sameL (A1 A2 : Option Addr) (n ca cb : Nat) (L : List TStep) (w : World) (hS1 : Sts w A1 n ca L) (hS2 : Sts w A2 n cb L) (hn : n ≤ 100000000) (ho : ∀ x ∈ L, x.outs.length ≤ 100000000) :
    Calls Tryd.prog 15 #[.slice A1 n ca, .slice A2 n cb] w fun e w' => e = .returned (.bool true) ∧ Below w.heap.size w w' := by
  have HS1 := Lib.hid hS1
  have HS2 := Lib.hid hS2
  have HN := Lib.hid hn
  have HO := Lib.hid ho
  have HL : Hid (L.length = n) := Lib.hid hS1.1
  clear hS1 hS2 hn ho
  go_enter Tryd.func15, Tryd.ntmps15
  go_wp2_with (fail)
  go_loopw [5, 6, 7, 8] (fun i _ _ _ wr => ∃ k : Nat, k ≤ n ∧ i = .int .i64 k ∧ Below w.heap.size w wr) (fun i _ _ _ _ => n - (intOf i).toNat)
  case atStart => exact ⟨0, by omega, rfl, Below.refl _ _⟩
  case round =>
    obtain ⟨wo, rfl⟩ : ∃ wo : World, wo = wr := ⟨_, rfl⟩
    obtain ⟨k, hk, rfl, hb⟩ := hrel
    have HB := Lib.hid hb
    by_cases hlt : k < n
    · have hkl : k < L.length := by have := HL.out; omega
      obtain ⟨x, hx⟩ : ∃ x, x = L[k] := ⟨_, rfl⟩
      have HXO : Hid (x.outs.length ≤ 100000000) := Lib.hid (hx ▸ HO.out _ (List.getElem_mem hkl))
      obtain ⟨b1, o1, rfl, hc1⟩ := HS1.out.2.2.2 (by omega)
      obtain ⟨b2, o2, rfl, hc2⟩ := HS2.out.2.2.2 (by omega)
      obtain ⟨a0, a1, a2, ⟨A3, m3, c3, a3, hB3⟩, ⟨A4, m4, c4, a4, hB4⟩, a5⟩ := (hx ▸ hc1 k _ (List.getElem?_eq_getElem hkl) : StepAt w b1 o1 k x).below hb
      obtain ⟨d0, d1, d2, ⟨A5, m5, c5, d3, hB5⟩, ⟨A6, m6, c6, d4, hB6⟩, d5⟩ := (hx ▸ hc2 k _ (List.getElem?_eq_getElem hkl) : StepAt w b2 o2 k x).below hb
      have hk1 : (n : Int) ≤ (ca : Int) := by have := HS1.out.2.1; omega
      have hk2 : (n : Int) ≤ (cb : Int) := by have := HS2.out.2.1; omega
      have hm1 : ca ≤ 9223372036854775807 := by have := HS1.out.2.2.1; simpa only [maxLen] using this
      have hm2 : cb ≤ 9223372036854775807 := by have := HS2.out.2.2.1; simpa only [maxLen] using this
      have hb1 : Below wo.heap.size wo (wo.alloc (.cells #[.int .i64 x.k, .int .i64 x.n, .int .i64 x.kp, .slice A3 m3 c3, .slice A4 m4 c4, .bool x.cr] TS)) := (Below.refl _ wo).alloc (Nat.le_refl _) _
      have hb2 : Below wo.heap.size wo ((wo.alloc (.cells #[.int .i64 x.k, .int .i64 x.n, .int .i64 x.kp, .slice A3 m3 c3, .slice A4 m4 c4, .bool x.cr] TS)).alloc (.cells #[.int .i64 x.k, .int .i64 x.n, .int .i64 x.kp, .slice A5 m5 c5, .slice A6 m6 c6, .bool x.cr] TS)) := hb1.alloc hb1.size _
      have p0 : (wo.alloc (.cells #[.int .i64 x.k, .int .i64 x.n, .int .i64 x.kp, .slice A3 m3 c3, .slice A4 m4 c4, .bool x.cr] TS)).cell? ⟨b2, o2 + k * 6, none⟩ = some (.int .i64 x.k) := (hb1.cell (p := ⟨b2, o2 + k * 6, none⟩) (World.block_lt_of_cell? wo _ d0)).trans d0
      have p1 : (wo.alloc (.cells #[.int .i64 x.k, .int .i64 x.n, .int .i64 x.kp, .slice A3 m3 c3, .slice A4 m4 c4, .bool x.cr] TS)).cell? ⟨b2, o2 + k * 6 + 1, none⟩ = some (.int .i64 x.n) := (hb1.cell (p := ⟨b2, o2 + k * 6 + 1, none⟩) (World.block_lt_of_cell? wo _ d1)).trans d1
      have p2 : (wo.alloc (.cells #[.int .i64 x.k, .int .i64 x.n, .int .i64 x.kp, .slice A3 m3 c3, .slice A4 m4 c4, .bool x.cr] TS)).cell? ⟨b2, o2 + k * 6 + 2, none⟩ = some (.int .i64 x.kp) := (hb1.cell (p := ⟨b2, o2 + k * 6 + 2, none⟩) (World.block_lt_of_cell? wo _ d2)).trans d2
      have p3 : (wo.alloc (.cells #[.int .i64 x.k, .int .i64 x.n, .int .i64 x.kp, .slice A3 m3 c3, .slice A4 m4 c4, .bool x.cr] TS)).cell? ⟨b2, o2 + k * 6 + 3, none⟩ = some (.slice A5 m5 c5) := (hb1.cell (p := ⟨b2, o2 + k * 6 + 3, none⟩) (World.block_lt_of_cell? wo _ d3)).trans d3
      have p4 : (wo.alloc (.cells #[.int .i64 x.k, .int .i64 x.n, .int .i64 x.kp, .slice A3 m3 c3, .slice A4 m4 c4, .bool x.cr] TS)).cell? ⟨b2, o2 + k * 6 + 4, none⟩ = some (.slice A6 m6 c6) := (hb1.cell (p := ⟨b2, o2 + k * 6 + 4, none⟩) (World.block_lt_of_cell? wo _ d4)).trans d4
      have p5 : (wo.alloc (.cells #[.int .i64 x.k, .int .i64 x.n, .int .i64 x.kp, .slice A3 m3 c3, .slice A4 m4 c4, .bool x.cr] TS)).cell? ⟨b2, o2 + k * 6 + 5, none⟩ = some (.bool x.cr) := (hb1.cell (p := ⟨b2, o2 + k * 6 + 5, none⟩) (World.block_lt_of_cell? wo _ d5)).trans d5
      have Z4 : ((wo.alloc (.cells #[.int .i64 x.k, .int .i64 x.n, .int .i64 x.kp, .slice A3 m3 c3, .slice A4 m4 c4, .bool x.cr] TS)).alloc (.cells #[.int .i64 x.k, .int .i64 x.n, .int .i64 x.kp, .slice A5 m5 c5, .slice A6 m6 c6, .bool x.cr] TS)).heap[wo.heap.size]? = some (.cells #[.int .i64 x.k, .int .i64 x.n, .int .i64 x.kp, .slice A3 m3 c3, .slice A4 m4 c4, .bool x.cr] TS) := heap_keep (heap_alloc_new wo (.cells #[.int .i64 x.k, .int .i64 x.n, .int .i64 x.kp, .slice A3 m3 c3, .slice A4 m4 c4, .bool x.cr] TS)) (.cells #[.int .i64 x.k, .int .i64 x.n, .int .i64 x.kp, .slice A5 m5 c5, .slice A6 m6 c6, .bool x.cr] TS)
      have Z5 : ((wo.alloc (.cells #[.int .i64 x.k, .int .i64 x.n, .int .i64 x.kp, .slice A3 m3 c3, .slice A4 m4 c4, .bool x.cr] TS)).alloc (.cells #[.int .i64 x.k, .int .i64 x.n, .int .i64 x.kp, .slice A5 m5 c5, .slice A6 m6 c6, .bool x.cr] TS)).heap[wo.heap.size + 1]? = some (.cells #[.int .i64 x.k, .int .i64 x.n, .int .i64 x.kp, .slice A5 m5 c5, .slice A6 m6 c6, .bool x.cr] TS) := by have := heap_alloc_new (wo.alloc (.cells #[.int .i64 x.k, .int .i64 x.n, .int .i64 x.kp, .slice A3 m3 c3, .slice A4 m4 c4, .bool x.cr] TS)) (.cells #[.int .i64 x.k, .int .i64 x.n, .int .i64 x.kp, .slice A5 m5 c5, .slice A6 m6 c6, .bool x.cr] TS); rwa [World.size_alloc] at this
      have q0 : ((wo.alloc (.cells #[.int .i64 x.k, .int .i64 x.n, .int .i64 x.kp, .slice A3 m3 c3, .slice A4 m4 c4, .bool x.cr] TS)).alloc (.cells #[.int .i64 x.k, .int .i64 x.n, .int .i64 x.kp, .slice A5 m5 c5, .slice A6 m6 c6, .bool x.cr] TS)).cell? ⟨wo.heap.size, 0, none⟩ = some (.int .i64 x.k) := cell_of_row _ (wo.heap.size) 0 _ _ _ Z4
      have q1 : ((wo.alloc (.cells #[.int .i64 x.k, .int .i64 x.n, .int .i64 x.kp, .slice A3 m3 c3, .slice A4 m4 c4, .bool x.cr] TS)).alloc (.cells #[.int .i64 x.k, .int .i64 x.n, .int .i64 x.kp, .slice A5 m5 c5, .slice A6 m6 c6, .bool x.cr] TS)).cell? ⟨wo.heap.size, 1, none⟩ = some (.int .i64 x.n) := cell_of_row _ (wo.heap.size) 1 _ _ _ Z4
      have q2 : ((wo.alloc (.cells #[.int .i64 x.k, .int .i64 x.n, .int .i64 x.kp, .slice A3 m3 c3, .slice A4 m4 c4, .bool x.cr] TS)).alloc (.cells #[.int .i64 x.k, .int .i64 x.n, .int .i64 x.kp, .slice A5 m5 c5, .slice A6 m6 c6, .bool x.cr] TS)).cell? ⟨wo.heap.size, 2, none⟩ = some (.int .i64 x.kp) := cell_of_row _ (wo.heap.size) 2 _ _ _ Z4
      have q3 : ((wo.alloc (.cells #[.int .i64 x.k, .int .i64 x.n, .int .i64 x.kp, .slice A3 m3 c3, .slice A4 m4 c4, .bool x.cr] TS)).alloc (.cells #[.int .i64 x.k, .int .i64 x.n, .int .i64 x.kp, .slice A5 m5 c5, .slice A6 m6 c6, .bool x.cr] TS)).cell? ⟨wo.heap.size, 3, none⟩ = some (.slice A3 m3 c3) := cell_of_row _ (wo.heap.size) 3 _ _ _ Z4
      have q4 : ((wo.alloc (.cells #[.int .i64 x.k, .int .i64 x.n, .int .i64 x.kp, .slice A3 m3 c3, .slice A4 m4 c4, .bool x.cr] TS)).alloc (.cells #[.int .i64 x.k, .int .i64 x.n, .int .i64 x.kp, .slice A5 m5 c5, .slice A6 m6 c6, .bool x.cr] TS)).cell? ⟨wo.heap.size, 4, none⟩ = some (.slice A4 m4 c4) := cell_of_row _ (wo.heap.size) 4 _ _ _ Z4
      have q5 : ((wo.alloc (.cells #[.int .i64 x.k, .int .i64 x.n, .int .i64 x.kp, .slice A3 m3 c3, .slice A4 m4 c4, .bool x.cr] TS)).alloc (.cells #[.int .i64 x.k, .int .i64 x.n, .int .i64 x.kp, .slice A5 m5 c5, .slice A6 m6 c6, .bool x.cr] TS)).cell? ⟨wo.heap.size, 5, none⟩ = some (.bool x.cr) := cell_of_row _ (wo.heap.size) 5 _ _ _ Z4
      have r0 : ((wo.alloc (.cells #[.int .i64 x.k, .int .i64 x.n, .int .i64 x.kp, .slice A3 m3 c3, .slice A4 m4 c4, .bool x.cr] TS)).alloc (.cells #[.int .i64 x.k, .int .i64 x.n, .int .i64 x.kp, .slice A5 m5 c5, .slice A6 m6 c6, .bool x.cr] TS)).cell? ⟨wo.heap.size + 1, 0, none⟩ = some (.int .i64 x.k) := cell_of_row _ (wo.heap.size + 1) 0 _ _ _ Z5
      have r1 : ((wo.alloc (.cells #[.int .i64 x.k, .int .i64 x.n, .int .i64 x.kp, .slice A3 m3 c3, .slice A4 m4 c4, .bool x.cr] TS)).alloc (.cells #[.int .i64 x.k, .int .i64 x.n, .int .i64 x.kp, .slice A5 m5 c5, .slice A6 m6 c6, .bool x.cr] TS)).cell? ⟨wo.heap.size + 1, 1, none⟩ = some (.int .i64 x.n) := cell_of_row _ (wo.heap.size + 1) 1 _ _ _ Z5
      have r2 : ((wo.alloc (.cells #[.int .i64 x.k, .int .i64 x.n, .int .i64 x.kp, .slice A3 m3 c3, .slice A4 m4 c4, .bool x.cr] TS)).alloc (.cells #[.int .i64 x.k, .int .i64 x.n, .int .i64 x.kp, .slice A5 m5 c5, .slice A6 m6 c6, .bool x.cr] TS)).cell? ⟨wo.heap.size + 1, 2, none⟩ = some (.int .i64 x.kp) := cell_of_row _ (wo.heap.size + 1) 2 _ _ _ Z5
      have r3 : ((wo.alloc (.cells #[.int .i64 x.k, .int .i64 x.n, .int .i64 x.kp, .slice A3 m3 c3, .slice A4 m4 c4, .bool x.cr] TS)).alloc (.cells #[.int .i64 x.k, .int .i64 x.n, .int .i64 x.kp, .slice A5 m5 c5, .slice A6 m6 c6, .bool x.cr] TS)).cell? ⟨wo.heap.size + 1, 3, none⟩ = some (.slice A5 m5 c5) := cell_of_row _ (wo.heap.size + 1) 3 _ _ _ Z5
      have r4 : ((wo.alloc (.cells #[.int .i64 x.k, .int .i64 x.n, .int .i64 x.kp, .slice A3 m3 c3, .slice A4 m4 c4, .bool x.cr] TS)).alloc (.cells #[.int .i64 x.k, .int .i64 x.n, .int .i64 x.kp, .slice A5 m5 c5, .slice A6 m6 c6, .bool x.cr] TS)).cell? ⟨wo.heap.size + 1, 4, none⟩ = some (.slice A6 m6 c6) := cell_of_row _ (wo.heap.size + 1) 4 _ _ _ Z5
      have r5 : ((wo.alloc (.cells #[.int .i64 x.k, .int .i64 x.n, .int .i64 x.kp, .slice A3 m3 c3, .slice A4 m4 c4, .bool x.cr] TS)).alloc (.cells #[.int .i64 x.k, .int .i64 x.n, .int .i64 x.kp, .slice A5 m5 c5, .slice A6 m6 c6, .bool x.cr] TS)).cell? ⟨wo.heap.size + 1, 5, none⟩ = some (.bool x.cr) := cell_of_row _ (wo.heap.size + 1) 5 _ _ _ Z5
      have hcv1 := (hB3.below hb2).str (P := Tryd.prog) 22 5 9 Tryd.underlying22 Tryd.underlying5 Tryd.underlying9
      have hcv2 := (hB5.below hb2).str (P := Tryd.prog) 22 5 9 Tryd.underlying22 Tryd.underlying5 Tryd.underlying9
      have hm46 : m4 = x.outs.length := hB4.1.symm
      have hm66 : m6 = x.outs.length := hB6.1.symm
      subst hm46 hm66
      have HB4 := Lib.hid (hB4.below hb2)
      have HB6 := Lib.hid (hB6.below hb2)
      have HBF := Lib.hid (HB.out.trans (hb2.mono HB.out.size))
      clear hx hkl hc1 hc2 hb hb1 hb2 hB3 hB4 hB5 hB6 Z4 Z5
      go_wp2_with (fail)
      have HQ4 := Lib.hid q4
      have HR4 := Lib.hid r4
      obtain ⟨g1, hg1⟩ : ∃ g, g = wo.heap.size := ⟨_, rfl⟩
      rw [← hg1] at HQ4 HR4 ⊢
      clear hg1 a0 a1 a2 a3 a4 a5 d0 d1 d2 d3 d4 d5 p0 p1 p2 p3 p4 p5 q0 q1 q2 q3 q4 q5 r0 r1 r2 r3 r4 r5 hcv1 hcv2
      generalize ((wo.alloc (.cells #[.int .i64 x.k, .int .i64 x.n, .int .i64 x.kp, .slice A3 m3 c3, .slice A4 x.outs.length c4, .bool x.cr] TS)).alloc (.cells #[.int .i64 x.k, .int .i64 x.n, .int .i64 x.kp, .slice A5 m5 c5, .slice A6 x.outs.length c6, .bool x.cr] TS)) = wb at *
      go_loopw [8] (fun i wi => ∃ j : Nat, j ≤ x.outs.length ∧ i = .int .i64 j ∧ Below wb.heap.size wb wi) (fun i _ => x.outs.length - (intOf i).toNat)
      case atStart => exact ⟨0, by omega, rfl, Below.refl _ _⟩
      case round =>
        obtain ⟨wi, rfl⟩ : ∃ wi : World, wi = wr := ⟨_, rfl⟩
        obtain ⟨j, hj, rfl, hbi⟩ := hrel
        have HBI := Lib.hid hbi
        have q4 := (hbi.cell (p := ⟨g1, 4, none⟩) (World.block_lt_of_cell? wb _ HQ4.out)).trans HQ4.out
        have r4 := (hbi.cell (p := ⟨g1 + 1, 4, none⟩) (World.block_lt_of_cell? wb _ HR4.out)).trans HR4.out
        by_cases hjt : j < x.outs.length
        · obtain ⟨y, hy⟩ : ∃ y, y = x.outs[j] := ⟨_, rfl⟩
          obtain ⟨b4, o4, rfl, hc4⟩ := HB4.out.2.2.2 (by omega)
          obtain ⟨b6, o6, rfl, hc6⟩ := HB6.out.2.2.2 (by omega)
          obtain ⟨y0, A7, m7, c7, y1, hB7⟩ := (hy ▸ hc4 j _ (List.getElem?_eq_getElem hjt) : OutAt wb b4 o4 j y).below hbi
          obtain ⟨z0, A8, m8, c8, z1, hB8⟩ := (hy ▸ hc6 j _ (List.getElem?_eq_getElem hjt) : OutAt wb b6 o6 j y).below hbi
          have hcv7 := fun m => (hB7.drewN m).str (P := Tryd.prog) 22 5 9 Tryd.underlying22 Tryd.underlying5 Tryd.underlying9
          have hcv8 := fun m => (hB8.drewN m).str (P := Tryd.prog) 22 5 9 Tryd.underlying22 Tryd.underlying5 Tryd.underlying9
          have hk4 : (x.outs.length : Int) ≤ (c4 : Int) := by have := HB4.out.2.1; omega
          have hk6 : (x.outs.length : Int) ≤ (c6 : Int) := by have := HB6.out.2.1; omega
          have hm4 : c4 ≤ 9223372036854775807 := by have := HB4.out.2.2.1; simpa only [maxLen] using this
          have hm6 : c6 ≤ 9223372036854775807 := by have := HB6.out.2.2.1; simpa only [maxLen] using this
          have hw5 : IntKind.i64.wrap ((j : Int) + 1) = (j : Int) + 1 := IntWalk.i64_in _ (by have := HXO.out; omega)
          clear hy hc4 hc6 hB7 hB8 hbi
          cases hyb : y.back
          · rw [hyb] at y0 z0
            go_wp2_with (fail)
            go_quiet (fail)
            go_wp2_with (fail)
            exact ⟨⟨j + 1, by omega, rfl, drawN_below HBI.out nq⟩, by simp [intOf]; omega⟩
          · rw [hyb] at y0 z0
            go_wp2_with (fail)
            go_quiet (fail)
            go_wp2_with (fail)
            exact ⟨⟨j + 1, by omega, rfl, drawN_below HBI.out nq⟩, by simp [intOf]; omega⟩
        · have hje : j = x.outs.length := by omega
          subst hje
          have hw5 : IntKind.i64.wrap ((k : Int) + 1) = (k : Int) + 1 := IntWalk.i64_in _ (by have := HN.out; omega)
          go_wp2_with (fail)
          exact ⟨⟨k + 1, by omega, rfl, HBF.out.trans (HBI.out.mono HBF.out.size)⟩, by simp [intOf]; omega⟩
    · as_aux_lemma =>
      clear hb
      go_wp2_with (fail)
      go_ret
      exact ⟨rfl, HB.out⟩
end Go.Proofs.YtnoppnnpennddaaDoor
