/- Layer 19: how much is looked at, walked. -/
import Derived.Test.YtnoppnnpennddaaDoorTrS
namespace Go.Proofs.YtnoppnnpennddaaDoor
open Go.RowKit

theorem box_cells (w : World) (l : List Value) (t : TypeId) (j : Nat) (v : Value) (h : l[j]? = some v) : (w.alloc (.cells l.toArray t)).cell? ⟨w.heap.size, j, none⟩ = some v := by
  rw [cell_of_row _ _ _ _ _ _ (heap_alloc_new w _)]
  simpa using h
set_option maxHeartbeats 8000000 in
set_option maxRecDepth 100000 in
theorem great_ (A : Option Addr) (n c : Nat) (L : List TStep) (w : World) (hS : Sts w A n c L) (hn : n ≤ 1048576) (hf : ∀ x ∈ L, x.Fits) :
    Calls Tryd.prog 20 #[.slice A n c] w fun e w' => e = .returned (.bool (decide ((1500 : Int) < (sumG L : Int)))) ∧ Below w.heap.size w w' := by
  have HS := Lib.hid hS
  have HN := Lib.hid hn
  have HL : Hid (L.length = n) := Lib.hid hS.1
  have HF := Lib.hid hf
  have HSB : Hid (∀ k, sumG (L.take k) ≤ 1200000000000000000) := Lib.hid (fun k => by
    have h1 := sumG_take_le L k
    have h2 := sumG_bd hf
    have h3 := Nat.mul_le_mul_right 1099514773505 (show L.length ≤ 1048576 by rw [hS.1]; exact hn)
    omega)
  clear hS hn hf
  go_enter Tryd.func20, Tryd.ntmps20
  go_wp2_with (fail)
  go_loopw [10, 3, 5, 7] (fun i z _ _ wr => ∃ k : Nat, k ≤ n ∧ i = .int .i64 k ∧ z = .int .i64 (sumG (L.take k) : Nat) ∧ Below w.heap.size w wr) (fun i _ _ _ _ => n - (intOf i).toNat)
  case atStart => exact ⟨0, by omega, rfl, rfl, Below.refl _ _⟩
  case round =>
    obtain ⟨wo, rfl⟩ : ∃ wo : World, wo = wr := ⟨_, rfl⟩
    obtain ⟨k, hk, rfl, rfl, hb⟩ := hrel
    have HB := Lib.hid hb
    by_cases hlt : k < n
    · as_aux_lemma =>
      have hkl : k < L.length := by have := HL.out; omega
      obtain ⟨x, hx⟩ : ∃ x, x = L[k] := ⟨_, rfl⟩
      have HT : Hid (sumG (L.take (k + 1)) = sumG (L.take k) + (1 + x.l.length + sumO x.outs)) := Lib.hid (hx ▸ sumG_take hkl)
      have HFX : Hid x.Fits := Lib.hid (hx ▸ HF.out _ (List.getElem_mem hkl))
      obtain ⟨b, o, rfl, hc⟩ := HS.out.2.2.2 (by omega)
      obtain ⟨a0, a1, a2, ⟨A3, m3, c3, a3, hB3⟩, ⟨A4, m4, c4, a4, hB4⟩, a5⟩ := (hx ▸ hc k _ (List.getElem?_eq_getElem hkl) : StepAt w b o k x).below hb
      have HB3 := Lib.hid hB3
      have HB4 := Lib.hid hB4
      have HSK := Lib.hid (HSB.out k)
      have hkc : (n : Int) ≤ (c : Int) := by have := HS.out.2.1; omega
      have hmx : c ≤ 9223372036854775807 := by have := HS.out.2.2.1; simpa only [maxLen] using this
      have HW1 : Hid (∀ W, W = wo.alloc (.cells #[.int .i64 x.k, .int .i64 x.n, .int .i64 x.kp, .slice A3 m3 c3, .slice A4 m4 c4, .bool x.cr] TS) → W.cell? ⟨wo.heap.size, 3, none⟩ = some (.slice A3 m3 c3) ∧ W.cell? ⟨wo.heap.size, 4, none⟩ = some (.slice A4 m4 c4) ∧ Below wo.heap.size wo W) := Lib.hid (by
        rintro W rfl
        exact ⟨box_cells wo [.int .i64 x.k, .int .i64 x.n, .int .i64 x.kp, .slice A3 m3 c3, .slice A4 m4 c4, .bool x.cr] TS 3 _ rfl, box_cells wo [.int .i64 x.k, .int .i64 x.n, .int .i64 x.kp, .slice A3 m3 c3, .slice A4 m4 c4, .bool x.cr] TS 4 _ rfl, (Below.refl _ wo).alloc (Nat.le_refl _) _⟩)
      obtain ⟨p3, p4, hb1⟩ := HW1.out _ rfl
      have HB1 := Lib.hid (HB.out.trans (hb1.mono HB.out.size))
      have hw3 : IntKind.i64.wrap (1 + (m3 : Int)) = 1 + (m3 : Int) := IntWalk.i64_in _ (by have := HFX.out.l; have := hB3.len; omega)
      have hw4 : IntKind.i64.wrap ((sumG (L.take k) : Int) + (1 + (m3 : Int))) = (sumG (L.take k) : Int) + (1 + (m3 : Int)) := IntWalk.i64_in _ (by have := HFX.out.l; have := hB3.len; have := HSK.out; omega)
      have HB4 := Lib.hid (HB4.out.below hb1)
      have HSO : Hid (∀ j, sumO (x.outs.take j) ≤ 1099512676352) := Lib.hid (fun j => by
        have h1 := sumO_take_le x.outs j
        have h2 := sumO_bd HFX.out.out
        have h3 := Nat.mul_le_mul_right 1048577 HFX.out.outs
        omega)
      have HM3 : Hid (m3 = x.l.length ∧ m3 ≤ 1048576) := Lib.hid (by have := HFX.out.l; have := hB3.len; omega)
      clear hx hkl hc hb hB3 hB4 hb1 HB3 HS HW1
      go_wp2_with (fail)
      clear p3 p4 hw3 hw4 a0 a1 a2 a3 a4 a5
      generalize wo.alloc (.cells #[.int .i64 x.k, .int .i64 x.n, .int .i64 x.kp, .slice A3 m3 c3, .slice A4 m4 c4, .bool x.cr] TS) = wb at *
      go_loopw [24, 3, 7] (fun i z _ wr => ∃ j : Nat, j ≤ m4 ∧ i = .int .i64 j ∧ z = .int .i64 (sumG (L.take k) + (1 + m3) + sumO (x.outs.take j) : Nat) ∧ Below wb.heap.size wb wr) (fun i _ _ _ => m4 - (intOf i).toNat)
      case atStart => exact ⟨0, by omega, rfl, by simp [sumO], Below.refl _ _⟩
      case round =>
        obtain ⟨wi, rfl⟩ : ∃ wi : World, wi = wr := ⟨_, rfl⟩
        obtain ⟨j, hj, rfl, rfl, hbi⟩ := hrel
        have HBI := Lib.hid hbi
        have HBW := Lib.hid (HB1.out.trans (hbi.mono HB1.out.size))
        by_cases hjt : j < m4
        · as_aux_lemma =>
          have hjl : j < x.outs.length := by have := HB4.out.1; omega
          obtain ⟨y, hy⟩ : ∃ y, y = x.outs[j] := ⟨_, rfl⟩
          have HTO : Hid (sumO (x.outs.take (j + 1)) = sumO (x.outs.take j) + (1 + y.l.length)) := Lib.hid (hy ▸ sumO_take hjl)
          have HYL : Hid (y.l.length ≤ 1048576) := Lib.hid (hy ▸ HFX.out.out _ (List.getElem_mem hjl))
          obtain ⟨b', o', rfl, hc'⟩ := HB4.out.2.2.2 (by omega)
          obtain ⟨y0, A5, m5, c5, y1, hB5⟩ := (hy ▸ hc' j _ (List.getElem?_eq_getElem hjl) : OutAt wb b' o' j y).below hbi
          have h5 := hB5.len
          have hmc : (m4 : Int) ≤ (c4 : Int) := by have := HB4.out.2.1; omega
          have q1 : (wi.alloc (.cells #[.bool y.back, .slice A5 m5 c5] TO)).cell? ⟨wi.heap.size, 1, none⟩ = some (.slice A5 m5 c5) := box_cells wi [.bool y.back, .slice A5 m5 c5] TO 1 _ rfl
          have HBE : Hid (Below wb.heap.size wb (wi.alloc (.cells #[.bool y.back, .slice A5 m5 c5] TO))) := Lib.hid (HBI.out.alloc HBI.out.size _)
          have hw3 : IntKind.i64.wrap (1 + (m5 : Int)) = 1 + (m5 : Int) := IntWalk.i64_in _ (by have := HYL.out; omega)
          have hw4 : IntKind.i64.wrap (((sumG (L.take k) + (1 + m3) + sumO (x.outs.take j) : Nat) : Int) + (1 + (m5 : Int))) = ((sumG (L.take k) + (1 + m3) + sumO (x.outs.take j) : Nat) : Int) + (1 + (m5 : Int)) := IntWalk.i64_in _ (by have := HYL.out; have := HSK.out; have := HSO.out j; have := HM3.out; omega)
          have hw5 : IntKind.i64.wrap ((j : Int) + 1) = (j : Int) + 1 := IntWalk.i64_in _ (by have := HFX.out.outs; omega)
          obtain ⟨zz, hzz⟩ : ∃ zz : Nat, zz = sumG (L.take k) + (1 + m3) + sumO (x.outs.take j) := ⟨_, rfl⟩
          have HZZ : Hid (sumG (L.take k) + (1 + m3) + sumO (x.outs.take (j + 1)) = zz + (1 + m5)) := Lib.hid (by have := HTO.out; omega)
          rw [← hzz] at hw4 ⊢
          clear hy hjl hc' hbi hB5 h5 hzz
          go_wp2_with (fail)
          exact ⟨⟨j + 1, by omega, rfl, by rw [HZZ.out]; rfl, HBE.out⟩, by simp [intOf]; omega⟩
        · as_aux_lemma =>
          obtain rfl : j = m4 := by omega
          have HTO : Hid (sumG (L.take k) + (1 + m3) + sumO (x.outs.take j) = sumG (L.take (k + 1))) := Lib.hid (by rw [List.take_of_length_le (l := x.outs) (by have := HB4.out.1; omega), HT.out]; have := HM3.out; omega)
          rw [HTO.out]
          have hw5 : IntKind.i64.wrap ((k : Int) + 1) = (k : Int) + 1 := IntWalk.i64_in _ (by have := HN.out; omega)
          clear hbi hjt
          go_wp2_with (fail)
          exact ⟨⟨k + 1, by omega, rfl, rfl, HBW.out⟩, by simp [intOf]; omega⟩
    · as_aux_lemma =>
      obtain rfl : k = n := by omega
      have HT : Hid (L.take k = L) := Lib.hid (List.take_of_length_le (by have := HL.out; omega))
      rw [HT.out]
      clear hb hlt
      go_wp2_with (fail)
      go_ret
      exact ⟨rfl, HB.out⟩
end Go.Proofs.YtnoppnnpennddaaDoor
