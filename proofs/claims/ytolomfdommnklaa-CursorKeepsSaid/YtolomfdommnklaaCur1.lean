/- Layer 15: a number's bytes, walked. -/
import Derived.Test.YtolomfdommnklaaCrcSeal
import Derived.Test.YtolomfdommnklaaCrcOpen
namespace Go.Proofs.Ytolomfdommnklaa
open Go.RowKit

/-- a number's eight bytes -/
def be8 (n : Nat) : List UInt8 := [UInt8.ofNat (n / 72057594037927936), UInt8.ofNat (n / 281474976710656), UInt8.ofNat (n / 1099511627776), UInt8.ofNat (n / 4294967296), UInt8.ofNat (n / 16777216), UInt8.ofNat (n / 65536), UInt8.ofNat (n / 256), UInt8.ofNat n]
def row8 (n k : Nat) : List UInt8 := (be8 n).take k ++ List.replicate (8 - k) 0
/-- .. with their sum -/
def bytesD (n : Nat) : List UInt8 := be8 n ++ be4 (Crc.sum 0 (be8 n))
theorem u8_cast (n : Nat) : ((UInt8.ofNat n).toNat : Int) = (n : Int) % 256 := by
  simp
/-- a block of bytes of the call's own -/
def Fresh12 (w : World) (l : List UInt8) (e : Ending) (w' : World) : Prop := ∃ g, e = .returned (.tuple #[.slice (some ⟨g, 0, none⟩) 12 12, .int .i64 0]) ∧ w.heap.size ≤ g ∧ w'.heap[g]? = some (.cells (u8s l).toArray 5) ∧ Below w.heap.size w w'
set_option maxHeartbeats 1000000 in
set_option maxRecDepth 100000 in
theorem curBytes_no (n : Int) (hn : ¬ (0 ≤ n ∧ n ≤ 1099511627776)) (w : World) : Calls Try.prog 9 #[.int .i64 n] w fun e w' => e = .returned (.tuple #[.slice none 0 0, .int .i64 3]) ∧ w = w' := by
  by_cases h0 : n < 0
  · have d0 : decide (n < 0) = true := by simpa using h0
    clear hn h0
    go_enter Try.func9, Try.ntmps9
    go_wp2_with (fail)
    go_ret2
    exact ⟨rfl, rfl⟩
  · have d0 : decide (n < 0) = false := by simpa using h0
    have d1 : decide (1099511627776 < n) = true := by simp; omega
    have d2 : 1099511627776 < n := by omega
    clear hn
    go_enter Try.func9, Try.ntmps9
    go_wp2_with (fail)
    go_ret2
    exact ⟨rfl, rfl⟩
set_option maxHeartbeats 4000000 in
set_option maxRecDepth 100000 in
theorem curBytes (n : Nat) (hn : n ≤ 1099511627776) (w : World) : Calls Try.prog 9 #[.int .i64 (n : Int)] w (Fresh12 w (bytesD n)) := by
  have d0 : decide ((n : Int) < 0) = false := by simp
  have d1 : decide ((1099511627776 : Int) < (n : Int)) = false := by simp; omega
  have d2 : ¬ ((1099511627776 : Int) < (n : Int)) := by omega
  have d3 : ¬ ((n : Int) < 0) := by omega
  have HN := Lib.hid hn
  clear hn
  go_enter Try.func9, Try.ntmps9
  have hmk : ∀ W : World, (Instr.makeSlice 22 (.int .i64 8) (.int .i64 8)).run Try.prog W = .ok (.slice (some ⟨W.heap.size, 0, none⟩) 8 8) (W.alloc (.cells (Array.replicate 8 (.int .u8 0)) 5)) := fun W => run_mk (P := Try.prog) 22 5 Try.underlying22 byteInfo 8 8 (by decide) (by decide) W
  have H0 : Hid ((w.alloc (.cells (Array.replicate 8 (.int .u8 0)) 5)).heap[w.heap.size]? = some (.cells (u8s (row8 n 0)).toArray 5)) := Lib.hid (by rw [heap_alloc_new]; rfl)
  have HB0 : Hid (Below w.heap.size w (w.alloc (.cells (Array.replicate 8 (.int .u8 0)) 5))) := Lib.hid ((Below.refl _ w).alloc (Nat.le_refl _) _)
  go_wp2_with (fail)
  first
  | (clear hmk d0 d1 d2 d3)
  | skip
  generalize w.alloc (.cells (Array.replicate 8 (.int .u8 0)) 5) = w0 at *
  go_loopw [15] (fun i wr => ∃ k : Nat, k ≤ 8 ∧ i = .int .i64 k ∧ wr.heap[w.heap.size]? = some (.cells (u8s (row8 n k)).toArray 5) ∧ Below w.heap.size w wr) (fun i _ => 8 - (intOf i).toNat)
  case atStart => exact ⟨0, by omega, rfl, H0.out, HB0.out⟩
  case round =>
    clear H0 HB0
    obtain ⟨wo, rfl⟩ : ∃ wo : World, wo = wr := ⟨_, rfl⟩
    obtain ⟨k, hk, rfl, hr, hb⟩ := hrel
    have HR := Lib.hid hr
    have HB := Lib.hid hb
    clear hb
    have hsz := (Array.getElem?_eq_some_iff.1 hr).1
    have hf : ∀ j, wo.frozen? ⟨w.heap.size, j, none⟩ = false := fun j => by simp [World.frozen?, hr]
    have hc : ∀ j, j < 8 → (wo.cell? ⟨w.heap.size, j, none⟩).isSome = true := fun j hj => by
      rw [cell_of_row _ _ j _ _ _ hr]
      have : (u8s (row8 n k)).toArray.size = 8 := by simp [row8, be8]; omega
      rw [Array.getElem?_eq_getElem (by omega)]; rfl
    clear hr
    by_cases h8 : k < 8
    · have hcase : k = 0 ∨ k = 1 ∨ k = 2 ∨ k = 3 ∨ k = 4 ∨ k = 5 ∨ k = 6 ∨ k = 7 := by omega
      have HNB := HN.out
      rcases hcase with rfl | rfl | rfl | rfl | rfl | rfl | rfl | rfl

      · have f := hf 0
        obtain ⟨cv, hcv⟩ : ∃ v, wo.cell? ⟨w.heap.size, 0, none⟩ = some v := Option.isSome_iff_exists.1 (hc 0 (by decide))
        clear hf hc
        go_wp2_with (fail)
        refine ⟨⟨1, by omega, by first | rfl | go_num, ?_, HB.out.setCell (p := ⟨w.heap.size, 0, none⟩) (Nat.le_refl _) _⟩, by simp [intOf]⟩
        have t := heap_setCell_same wo w.heap.size 0 _ _ (.int .u8 (((be8 n).getD 0 0).toNat : Int)) HR.out
        rw [u8s_set] at t
        rw [show (row8 n 0).set 0 ((be8 n).getD 0 0) = row8 n 1 from rfl] at t
        rw [← t]
        all_goals (congr 3)
        all_goals (simp only [be8, List.getD_cons_zero, u8_cast])
        all_goals (first | rfl | omega | (congr 1; omega))
      · have f := hf 1
        obtain ⟨cv, hcv⟩ : ∃ v, wo.cell? ⟨w.heap.size, 1, none⟩ = some v := Option.isSome_iff_exists.1 (hc 1 (by decide))
        clear hf hc
        go_wp2_with (fail)
        refine ⟨⟨2, by omega, by first | rfl | go_num, ?_, HB.out.setCell (p := ⟨w.heap.size, 1, none⟩) (Nat.le_refl _) _⟩, by simp [intOf]⟩
        have t := heap_setCell_same wo w.heap.size 1 _ _ (.int .u8 (((be8 n).getD 1 0).toNat : Int)) HR.out
        rw [u8s_set] at t
        rw [show (row8 n 1).set 1 ((be8 n).getD 1 0) = row8 n 2 from rfl] at t
        rw [← t]
        all_goals (congr 3)
        all_goals (simp only [be8, List.getD_cons_zero, List.getD_cons_succ, u8_cast])
        all_goals (first | rfl | omega | (congr 1; omega))
      · have f := hf 2
        obtain ⟨cv, hcv⟩ : ∃ v, wo.cell? ⟨w.heap.size, 2, none⟩ = some v := Option.isSome_iff_exists.1 (hc 2 (by decide))
        clear hf hc
        go_wp2_with (fail)
        refine ⟨⟨3, by omega, by first | rfl | go_num, ?_, HB.out.setCell (p := ⟨w.heap.size, 2, none⟩) (Nat.le_refl _) _⟩, by simp [intOf]⟩
        have t := heap_setCell_same wo w.heap.size 2 _ _ (.int .u8 (((be8 n).getD 2 0).toNat : Int)) HR.out
        rw [u8s_set] at t
        rw [show (row8 n 2).set 2 ((be8 n).getD 2 0) = row8 n 3 from rfl] at t
        rw [← t]
        all_goals (congr 3)
        all_goals (simp only [be8, List.getD_cons_zero, List.getD_cons_succ, u8_cast])
        all_goals (first | rfl | omega | (congr 1; omega))
      · have f := hf 3
        obtain ⟨cv, hcv⟩ : ∃ v, wo.cell? ⟨w.heap.size, 3, none⟩ = some v := Option.isSome_iff_exists.1 (hc 3 (by decide))
        clear hf hc
        go_wp2_with (fail)
        refine ⟨⟨4, by omega, by first | rfl | go_num, ?_, HB.out.setCell (p := ⟨w.heap.size, 3, none⟩) (Nat.le_refl _) _⟩, by simp [intOf]⟩
        have t := heap_setCell_same wo w.heap.size 3 _ _ (.int .u8 (((be8 n).getD 3 0).toNat : Int)) HR.out
        rw [u8s_set] at t
        rw [show (row8 n 3).set 3 ((be8 n).getD 3 0) = row8 n 4 from rfl] at t
        rw [← t]
        all_goals (congr 3)
        all_goals (simp only [be8, List.getD_cons_zero, List.getD_cons_succ, u8_cast])
        all_goals (first | rfl | omega | (congr 1; omega))
      · have f := hf 4
        obtain ⟨cv, hcv⟩ : ∃ v, wo.cell? ⟨w.heap.size, 4, none⟩ = some v := Option.isSome_iff_exists.1 (hc 4 (by decide))
        clear hf hc
        go_wp2_with (fail)
        refine ⟨⟨5, by omega, by first | rfl | go_num, ?_, HB.out.setCell (p := ⟨w.heap.size, 4, none⟩) (Nat.le_refl _) _⟩, by simp [intOf]⟩
        have t := heap_setCell_same wo w.heap.size 4 _ _ (.int .u8 (((be8 n).getD 4 0).toNat : Int)) HR.out
        rw [u8s_set] at t
        rw [show (row8 n 4).set 4 ((be8 n).getD 4 0) = row8 n 5 from rfl] at t
        rw [← t]
        all_goals (congr 3)
        all_goals (simp only [be8, List.getD_cons_zero, List.getD_cons_succ, u8_cast])
        all_goals (first | rfl | omega | (congr 1; omega))
      · have f := hf 5
        obtain ⟨cv, hcv⟩ : ∃ v, wo.cell? ⟨w.heap.size, 5, none⟩ = some v := Option.isSome_iff_exists.1 (hc 5 (by decide))
        clear hf hc
        go_wp2_with (fail)
        refine ⟨⟨6, by omega, by first | rfl | go_num, ?_, HB.out.setCell (p := ⟨w.heap.size, 5, none⟩) (Nat.le_refl _) _⟩, by simp [intOf]⟩
        have t := heap_setCell_same wo w.heap.size 5 _ _ (.int .u8 (((be8 n).getD 5 0).toNat : Int)) HR.out
        rw [u8s_set] at t
        rw [show (row8 n 5).set 5 ((be8 n).getD 5 0) = row8 n 6 from rfl] at t
        rw [← t]
        all_goals (congr 3)
        all_goals (simp only [be8, List.getD_cons_zero, List.getD_cons_succ, u8_cast])
        all_goals (first | rfl | omega | (congr 1; omega))
      · have f := hf 6
        obtain ⟨cv, hcv⟩ : ∃ v, wo.cell? ⟨w.heap.size, 6, none⟩ = some v := Option.isSome_iff_exists.1 (hc 6 (by decide))
        clear hf hc
        go_wp2_with (fail)
        refine ⟨⟨7, by omega, by first | rfl | go_num, ?_, HB.out.setCell (p := ⟨w.heap.size, 6, none⟩) (Nat.le_refl _) _⟩, by simp [intOf]⟩
        have t := heap_setCell_same wo w.heap.size 6 _ _ (.int .u8 (((be8 n).getD 6 0).toNat : Int)) HR.out
        rw [u8s_set] at t
        rw [show (row8 n 6).set 6 ((be8 n).getD 6 0) = row8 n 7 from rfl] at t
        rw [← t]
        all_goals (congr 3)
        all_goals (simp only [be8, List.getD_cons_zero, List.getD_cons_succ, u8_cast])
        all_goals (first | rfl | omega | (congr 1; omega))
      · have f := hf 7
        obtain ⟨cv, hcv⟩ : ∃ v, wo.cell? ⟨w.heap.size, 7, none⟩ = some v := Option.isSome_iff_exists.1 (hc 7 (by decide))
        clear hf hc
        go_wp2_with (fail)
        refine ⟨⟨8, by omega, by first | rfl | go_num, ?_, HB.out.setCell (p := ⟨w.heap.size, 7, none⟩) (Nat.le_refl _) _⟩, by simp [intOf]⟩
        have t := heap_setCell_same wo w.heap.size 7 _ _ (.int .u8 (((be8 n).getD 7 0).toNat : Int)) HR.out
        rw [u8s_set] at t
        rw [show (row8 n 7).set 7 ((be8 n).getD 7 0) = row8 n 8 from rfl] at t
        rw [← t]
        all_goals (congr 3)
        all_goals (simp only [be8, List.getD_cons_zero, List.getD_cons_succ, u8_cast])
        all_goals (first | rfl | omega | (congr 1; omega))
    · obtain rfl : k = 8 := by omega
      have HBS : Hid (Bs wo (some ⟨w.heap.size, 0, none⟩) 8 8 (be8 n)) := Lib.hid (Bs.block (by have := HR.out; rw [show row8 n 8 = be8 n from rfl] at this; exact this) rfl (by decide))
      clear hf hc h8
      go_wp2_with (fail)
      refine (crcSeal _ 8 8 (be8 n) wo HBS.out (by decide)).mono ?_
      rintro e w5 ⟨g, rfl, hg, hge, hb5⟩
      have HP : Hid (Fresh12 w (bytesD n) (.returned (.tuple #[.slice (some ⟨g, 0, none⟩) 12 12, .int .i64 0])) w5) := Lib.hid ⟨g, rfl, Nat.le_trans HB.out.size hge, hg, HB.out.trans (hb5.mono HB.out.size)⟩
      clear hg hge hb5
      go_wp2_with (fail)
      go_ret2
      exact HP.out
end Go.Proofs.Ytolomfdommnklaa
