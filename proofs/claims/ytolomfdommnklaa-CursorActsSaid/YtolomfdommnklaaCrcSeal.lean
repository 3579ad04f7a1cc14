/- Layer 1: Seal and Open, walked. -/
import Derived.Test.YtolomfdommnklaaCrcAlive
import Derived.RegionTactic
import Derived.BigRegion
import Derived.Deep.RegionWith
import Derived.Deep.RegionLaw
namespace Go.Proofs.Ytolomfdommnklaa
open Go.RowKit

/-- a number's bytes, the highest first -/
def be4 (x : Nat) : List UInt8 := [UInt8.ofNat (x / 16777216), UInt8.ofNat (x / 65536), UInt8.ofNat (x / 256), UInt8.ofNat x]
theorem be4_length (x : Nat) : (be4 x).length = 4 := rfl
theorem be4_cells (x : Nat) (hx : x < 4294967296) : #[Value.int .u8 ((x : Int) / 16777216), .int .u8 ((x : Int) / 65536 % 256), .int .u8 ((x : Int) / 256 % 256), .int .u8 ((x : Int) % 256)] = (u8s (be4 x)).toArray := by
  simp [be4, u8s]
  omega

theorem four {l : List UInt8} (h : l.length = 4) : ∃ p q r s, l = [p, q, r, s] := by
  match l, h with
  | [p, q, r, s], _ => exact ⟨p, q, r, s, rfl⟩

set_option maxRecDepth 100000 in
theorem crcSumBytes (A : Option Addr) (n c : Nat) (l : List UInt8) (w : World) (hB : Bs w A n c l) :
    Calls Try.prog 52 #[.slice A n c] w fun e w' => e = .returned (.agg (u8s (be4 (Crc.sum 0 l))).toArray) ∧ Below w.heap.size w w' := by
  have HB := Lib.hid hB; clear hB
  go_enter Try.func52, Try.ntmps52
  go_wp2_with (fail)
  refine (crcSum A n c l _ (HB.out.alloc _)).mono ?_
  rintro e w1 ⟨rfl, rfl⟩
  have hs := Crc.sum_lt (s := 0) l (by omega)
  obtain ⟨x, hx⟩ : ∃ x, x = Crc.sum 0 l := ⟨_, rfl⟩
  rw [← hx] at hs ⊢
  have HE := Lib.hid (be4_cells _ hs)
  have HX := Lib.hid hx
  clear hx
  go_wp2
  exact bodyPost_ret (v := .agg #[Value.int .u8 ((x : Int) / 16777216), .int .u8 ((x : Int) / 65536 % 256), .int .u8 ((x : Int) / 256 % 256), .int .u8 ((x : Int) % 256)]) (by simp [results, Try.results52, go_sem]) rfl ⟨by rw [HE.out, HX.out], (Below.refl _ _).alloc (Nat.le_refl _) _⟩

set_option maxRecDepth 100000 in
set_option maxHeartbeats 1000000 in
theorem crcSeal (A : Option Addr) (n c : Nat) (l : List UInt8) (w : World) (hB : Bs w A n c l) (hn : n ≤ 140737488351232) :
    Calls Try.prog 35 #[.slice A n c] w fun e w' => ∃ g, e = .returned (.slice (some ⟨g, 0, none⟩) (n + 4) (n + 4)) ∧ w'.heap[g]? = some (.cells (u8s (l ++ be4 (Crc.sum 0 l))).toArray 5) ∧ w.heap.size ≤ g ∧ Below w.heap.size w w' := by
  have HB := Lib.hid hB; clear hB
  have HL : l.length = n := HB.out.len
  obtain ⟨Z, HZ, hzl, hmk⟩ := mk_zeros ((n : Int) + 4) (n + 4) (by omega) (by omega)
  have HZL := Lib.hid hzl
  clear hzl
  go_enter Try.func35, Try.ntmps35
  go_wp2_with (with_reducible show wpList _ _ _ _ _ _; refine wpList_cpyTo rfl (.tmp 10) (.tmp 11) 22 22 rfl 5 Try.underlying22 byteInfo w.heap.size 0 _ _ _ rfl Z 5 (heap_alloc_new w _) A n n c l rfl (HB.out.alloc _) (fun _ => rfl) (by omega) (by rw [HZL.out]; omega) ?_; intro w1 hw1 hb1)
  have B1 : Below w.heap.size w w1 := ((Below.refl _ _).alloc (Nat.le_refl _) _).trans hb1
  have HBW1 := Lib.hid B1
  have hsz : w.heap.size < w1.heap.size := (Array.getElem?_eq_some_iff.1 hw1.out).1
  clear hb1 B1 hmk
  refine (crcSumBytes A n c l w1 (HB.out.below HBW1.out)).mono ?_
  rintro e w2 ⟨rfl, hb2⟩
  have HB2 := Lib.hid hb2
  have hsz2 := hb2.size
  clear hb2
  generalize hbe : be4 (Crc.sum 0 l) = be
  have hbl : be.length = 4 := by rw [← hbe]; rfl
  have HBE := Lib.hid hbe
  clear hbe
  obtain ⟨p, q, r, s, rfl⟩ := four hbl
  clear hbl
  rw [show (u8s [p, q, r, s]).toArray = #[.int .u8 (p.toNat : Int), .int .u8 (q.toNat : Int), .int .u8 (r.toNat : Int), .int .u8 (s.toNat : Int)] from rfl]
  have e1 : (n : Int) ≤ (n : Int) + 4 := by omega
  have e2 : ((n : Int) + 4).toNat = n + 4 := by omega
  go_wp2_with (fail)
  have h1' : w2.heap[w.heap.size]? = _ := (HB2.out.block w.heap.size hsz).trans hw1.out
  have HR := Lib.hid h1'
  clear h1'
  have tok : True := trivial
  go_region_law (refine step_cpyTo rfl (.tmp 17) (.tmp 18) 22 22 rfl 5 Try.underlying22 byteInfo w.heap.size n 4 4 (some ⟨w.heap.size, n, none⟩) rfl _ 5 ((((Below.refl w2.heap.size w2).alloc (Nat.le_refl _) _).drew.block w.heap.size (by omega)).trans HR.out) (some ⟨w2.heap.size, 0, none⟩) 4 4 4 [p, q, r, s] rfl (Bs.drew (Bs.lit w2 [p, q, r, s] _ _ _ rfl rfl rfl (by simp [maxLen]))) (fun _ => rfl) (by omega) (by simp [HZL.out, HL]) ?_; intro w3 hw3 hb3)
  have HW3 := Lib.hid hw3.out
  have HB3 := Lib.hid hb3
  have hz2 : w.heap.size < w2.heap.size := by omega
  clear hw3 hb3
  go_wp2_with (fail)
  go_ret
  refine ⟨w.heap.size, rfl, ?_, Nat.le_refl _, ?_⟩
  · have e : List.take n (List.take 0 Z ++ (l ++ List.drop (0 + n) Z)) ++ ([p, q, r, s] ++ List.drop (n + 4) (List.take 0 Z ++ (l ++ List.drop (0 + n) Z))) = l ++ be4 (Crc.sum 0 l) := by
      rw [HBE.out]
      have hd : (List.drop (0 + n) Z).length = 4 := by rw [List.length_drop, HZL.out]; omega
      rw [List.take_zero, List.nil_append, List.take_append_of_le_length (by omega), List.take_of_length_le (by omega), List.drop_of_length_le (by rw [List.length_append, hd]; omega), List.append_nil]
    rw [← e]
    exact HW3.out
  · exact HBW1.out.trans ((HB2.out.mono (by omega)).trans ((((Below.refl _ w2).alloc (by omega) _).drew).trans (HB3.out)))
end Go.Proofs.Ytolomfdommnklaa
