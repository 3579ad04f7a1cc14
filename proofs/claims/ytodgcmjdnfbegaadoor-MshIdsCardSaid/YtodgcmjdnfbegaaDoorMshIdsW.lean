/- MshIds, walked. -/
import Derived.Test.YtodgcmjdnfbegaaDoorMsh5
namespace Go.Proofs.YtodgcmjdnfbegaaDoor
open Go.RowKit

def hI (kind : ByteArray) (k : Nat) : Hd := ⟨⟨124, 94, 126, 92, 38⟩, ⟨#[]⟩, ⟨#[]⟩, ⟨#[]⟩, ⟨#[]⟩, ⟨#[]⟩, ⟨#[]⟩, kind, txt (List.replicate k 55), ⟨#[80]⟩, ⟨#[50, 46, 53]⟩⟩
theorem known25 : knownD (txt (firstD ⟨#[50, 46, 53]⟩ ⟨124, 94, 126, 92, 38⟩)) = true := by decide +kernel
theorem procP : procD (txt (firstD ⟨#[80]⟩ ⟨124, 94, 126, 92, 38⟩)) = true := by decide +kernel
theorem checkI (kind : ByteArray) (k : Nat) : checkD (hI kind k) = if kind.toList.isEmpty || decide (k = 0) || decide (50 < k) then 14 else 0 := by
  have h1 : (txt (List.replicate k (55 : UInt8))).toList.isEmpty = decide (k = 0) := by
    rw [Go.ByteArray.toList_eq]
    cases k <;> simp
  have h2 : (txt (List.replicate k (55 : UInt8))).size = k := by rw [txt_size', List.length_replicate]
  unfold checkD hI
  simp only [known25, procP, h1, h2]
  rfl
theorem hI_succ (kind : ByteArray) (k : Nat) : { hI kind k with a7 := txt (List.replicate k 55) ++ ⟨#[55]⟩ } = hI kind (k + 1) := by
  have : txt (List.replicate k (55 : UInt8)) ++ ⟨#[55]⟩ = txt (List.replicate (k + 1) 55) := by
    rw [List.replicate_succ', txt_append]
  unfold hI
  rw [this]

set_option maxHeartbeats 8000000 in
set_option maxRecDepth 100000 in
theorem mshIds_walk (x : UInt8) (kind : ByteArray) (w : World) (hv : Vers w) (_hk : kind.size ≤ maxLen) : Calls Tryd.prog 9 #[u8 x, .string kind] w (True_ w) := by
  have HV := Lib.hid hv
  clear hv _hk
  obtain ⟨K, hK⟩ : ∃ K : Nat, (x.toNat : Int) % 80 = (K : Int) := ⟨x.toNat % 80, by omega⟩
  have HK : Hid (K < 80) := Lib.hid (by omega)
  have HX0 : Hid (BoxH (hI kind 0) w.heap.size (w.alloc (.cells #[.int .u8 124, .int .u8 94, .int .u8 126, .int .u8 92, .int .u8 38, .string ⟨#[]⟩, .string ⟨#[]⟩, .string ⟨#[]⟩, .string ⟨#[]⟩, .string ⟨#[]⟩, .string ⟨#[]⟩, .string kind, .string ⟨#[]⟩, .string ⟨#[80]⟩, .string ⟨#[50, 46, 53]⟩] TH))) := Lib.hid (heap_alloc_new w _)
  have HB0 : Hid (Below w.heap.size w (w.alloc (.cells #[.int .u8 124, .int .u8 94, .int .u8 126, .int .u8 92, .int .u8 38, .string ⟨#[]⟩, .string ⟨#[]⟩, .string ⟨#[]⟩, .string ⟨#[]⟩, .string ⟨#[]⟩, .string ⟨#[]⟩, .string kind, .string ⟨#[]⟩, .string ⟨#[80]⟩, .string ⟨#[50, 46, 53]⟩] TH))) := Lib.hid ((Below.refl _ w).alloc (Nat.le_refl _) _)
  go_enter Tryd.func9, Tryd.ntmps9
  go_wp2_with (fail)
  generalize w.alloc (.cells #[.int .u8 124, .int .u8 94, .int .u8 126, .int .u8 92, .int .u8 38, .string ⟨#[]⟩, .string ⟨#[]⟩, .string ⟨#[]⟩, .string ⟨#[]⟩, .string ⟨#[]⟩, .string ⟨#[]⟩, .string kind, .string ⟨#[]⟩, .string ⟨#[80]⟩, .string ⟨#[50, 46, 53]⟩] TH) = w0 at *
  go_loopw [13] (fun i wr => ∃ k : Nat, k ≤ K ∧ i = .int .u8 k ∧ BoxH (hI kind k) w.heap.size wr ∧ Below w.heap.size w wr) (fun i _ => K - (intOf i).toNat)
  case atStart => exact ⟨0, Nat.zero_le _, rfl, HX0.out, HB0.out⟩
  case round =>
    clear HX0 HB0
    obtain ⟨k, hk, rfl, hx, hb⟩ := hrel
    have HX := Lib.hid hx
    have HB := Lib.hid hb
    clear hx hb
    obtain ⟨c0, c1, c2, c3, c4, c5, c6, c7, c8, c9, c10, c11, c12, c13, c14⟩ := HX.out.cells
    obtain ⟨f0, f1, f2, f3, f4, f5, f6, f7, f8, f9, f10, f11, f12, f13, f14⟩ := HX.out.frz
    by_cases hlt : k < K
    · have e1 : (k : Int) < (K : Int) := by omega
      have ew : IntKind.u8.wrap ((k : Int) + 1) = ((k + 1 : Nat) : Int) := by rw [IntKind.wrap_u8]; have := HK.out; omega
      have c12' : wr.cell? ⟨w.heap.size, 12, none⟩ = some (.string (txt (List.replicate k 55))) := c12
      have hl : ¬ 9223372036854775807 < k + 1 := by have := HK.out; omega
      have hl2 : ¬ 9223372036854775807 < (List.replicate k (55 : UInt8)).length + 1 := by rw [List.length_replicate]; exact hl
      have HS := Lib.hid (HX.out.set7 (txt (List.replicate k 55) ++ ⟨#[55]⟩))
      rw [hI_succ] at HS
      have HBS : Hid (Below w.heap.size w (wr.setCell ⟨w.heap.size, 12, none⟩ (.string (txt (List.replicate k 55) ++ ⟨#[55]⟩)))) := Lib.hid (HB.out.setCell (p := ⟨w.heap.size, 12, none⟩) (Nat.le_refl _) _)
      have HLT := Lib.hid hlt
      clear c12 hlt hk
      go_wp2_with (fail)
      exact ⟨⟨k + 1, HLT.out, by go_num, HS.out, HBS.out⟩, by have := HLT.out; simp [intOf]; omega⟩
    · obtain rfl : k = K := by omega
      have e1 : ¬ (k : Int) < (k : Int) := by omega
      clear hlt hk
      go_wp2_with (fail)
      refine (check_ (hI kind k) wr (HV.out.below HB.out) (by show (1 : Nat) ≤ 1000000000; omega) (by show (3 : Nat) ≤ 1000000000; omega)).mono ?_
      rintro e w1 ⟨rfl, hb1⟩
      rw [checkI]
      have HB1 := Lib.hid (HB.out.trans (hb1.mono HB.out.size))
      clear hb1 c0 c1 c2 c3 c4 c5 c6 c7 c8 c9 c10 c11 c12 c13 c14 f0 f1 f2 f3 f4 f5 f6 f7 f8 f9 f10 f11 f12 f13 f14
      cases dk : kind.toList.isEmpty
      · by_cases h0 : k = 0
        · subst h0
          go_wp2_with (fail)
          refine (alive09 w1 (HV.out.below HB1.out)).mono ?_
          rintro e w2 ⟨rfl, hb2⟩
          have HB2 := Lib.hid (HB1.out.trans (hb2.mono HB1.out.size))
          clear hb2
          go_wp2_with (fail)
          go_ret
          exact ⟨rfl, HB2.out⟩
        · have d0 : decide (k = 0) = false := by simpa using h0
          have d1 : decide ((1 : Int) ≤ (k : Int)) = true := by simp; omega
          have d1n : 1 ≤ k := by omega
          rw [d0]
          by_cases h5 : 50 < k
          · have d5 : decide (50 < k) = true := by simpa using h5
            have d6 : decide ((k : Int) ≤ 50) = false := by simp; omega
            have d6n : ¬ k ≤ 50 := by omega
            rw [d5]
            go_wp2_with (fail)
            refine (alive09 w1 (HV.out.below HB1.out)).mono ?_
            rintro e w2 ⟨rfl, hb2⟩
            have HB2 := Lib.hid (HB1.out.trans (hb2.mono HB1.out.size))
            clear hb2
            go_wp2_with (fail)
            go_ret
            exact ⟨rfl, HB2.out⟩
          · have d5 : decide (50 < k) = false := by simpa using h5
            have d6 : decide ((k : Int) ≤ 50) = true := by simp; omega
            have d6n : k ≤ 50 := by omega
            rw [d5]
            go_wp2_with (fail)
            refine (alive09 w1 (HV.out.below HB1.out)).mono ?_
            rintro e w2 ⟨rfl, hb2⟩
            have HB2 := Lib.hid (HB1.out.trans (hb2.mono HB1.out.size))
            clear hb2
            go_wp2_with (fail)
            go_ret
            exact ⟨rfl, HB2.out⟩
      ·
        go_wp2_with (fail)
        refine (alive09 w1 (HV.out.below HB1.out)).mono ?_
        rintro e w2 ⟨rfl, hb2⟩
        have HB2 := Lib.hid (HB1.out.trans (hb2.mono HB1.out.size))
        clear hb2
        go_wp2_with (fail)
        go_ret
        exact ⟨rfl, HB2.out⟩
end Go.Proofs.YtodgcmjdnfbegaaDoor
