/- CursorNone, walked. -/
import Derived.Test.YtolomfdommnklaaCur6
import Derived.Test.YtolomfdommnklaaRefName
namespace Go.Proofs.Ytolomfdommnklaa
open Go.RowKit Go.MapKept

theorem curLoad_nil (nm : ByteArray) (w : World) : Calls Try.prog 29 #[.pointer none, .string nm] w fun e w' => e = .returned (.tuple #[.int .i64 0, .int .i64 1]) ∧ w = w' := by
  go_enter Try.func29, Try.ntmps29
  go_wp2_with (fail)
  go_ret2
  exact ⟨rfl, rfl⟩
theorem curSave_nil (nm : ByteArray) (n : Int) (w : World) : Calls Try.prog 19 #[.pointer none, .string nm, .int .i64 n] w fun e w' => e = .returned (.int .i64 1) ∧ w = w' := by
  go_enter Try.func19, Try.ntmps19
  go_wp2_with (fail)
  go_ret
  exact ⟨rfl, rfl⟩
abbrev d100 : Dk := ⟨100, 0, 0, 0, 0, 0⟩
theorem lens_nil : FileLens [] := fun e he => by cases he
theorem lens_of12 {F : List Ent} {nm : ByteArray} {l : List UInt8} {s : Nat} (h : fsOf F = [(nm, ⟨l, s⟩)]) (hl : l.length ≤ 1073741824) : FileLens F := fun e he => by
  have h1 : (e.nm, e.f) ∈ fsOf F := List.mem_map.2 ⟨e, he, rfl⟩
  rw [h] at h1
  have h2 := List.mem_singleton.1 h1
  injection h2 with _ h2
  rw [h2]
  exact hl
set_option maxHeartbeats 8000000 in
set_option maxRecDepth 100000 in
theorem cursorNone_walk (nm : ByteArray) (n : Int) (w : World) (_hs : nm.size ≤ maxLen) (_wn : (Lit.int .i64 n).wf = true) : Calls Try.prog 5 #[.string nm, .int .i64 n] w (True_ w) := by
  go_enter Try.func5, Try.ntmps5
  go_wp2_with (fail)
  refine (curLoad_nil nm w).mono ?_
  rintro e w1 ⟨rfl, rfl⟩
  go_wp2_with (fail)
  refine (curSave_nil nm n w).mono ?_
  rintro e w1 ⟨rfl, rfl⟩
  go_wp2_with (fail)
  refine (dkNew 100 (by decide) w).mono ?_
  rintro e w1 ⟨D, M, rfl, h1, hb1⟩
  have H1 := Lib.hid h1
  have HB1 := Lib.hid hb1
  clear h1 hb1
  go_wp2_with (fail)
  refine (curAlive w1).mono ?_
  rintro e w2 ⟨rfl, hb2⟩
  have H2 := Lib.hid (H1.out.below hb2)
  have HB2 : Hid (Below w.heap.size w w2) := Lib.hid (HB1.out.trans (hb2.mono HB1.out.size))
  clear hb2
  by_cases hbig : 500 < nm.size
  · have d1 : decide ((500 : Int) < (nm.size : Int)) = true := by simp; omega
    go_wp2_with (fail)
    refine (curAlive w2).mono ?_
    rintro e w3 ⟨rfl, hb3⟩
    have HB3 : Hid (Below w.heap.size w w3) := Lib.hid (HB2.out.trans (hb3.mono HB2.out.size))
    clear hb3
    go_wp2_with (fail)
    go_ret
    exact ⟨rfl, HB3.out⟩
  have d1 : decide ((500 : Int) < (nm.size : Int)) = false := by simp; omega
  have HS : Hid (nm.size ≤ 500) := Lib.hid (by omega)
  clear hbig _hs
  go_wp2_with (fail)
  refine (curSave H2.out (newDk_ok 100 (by decide)) (by decide) nm (by have := HS.out; omega) n HB2.out.size).mono ?_
  rintro e w3 ⟨F3, he, h3, hc3, hf3⟩
  have h500 : ¬ 9223372036854775807 < nm.size + 4 := by have := HS.out; omega
  have htn : nm ++ ⟨#[46, 116, 109, 112]⟩ = tmpN nm := rfl
  have HB3 : Hid (Below w.heap.size w w3) := Lib.hid (HB2.out.trans (DkCh.below H2.out hc3 HB2.out.size))
  have HTS : Hid ((tmpN nm).size ≤ 504) := Lib.hid (by rw [tmpN_size]; have := HS.out; omega)
  by_cases hnm : nameD nm = false ∨ nameD (tmpN nm) = false
  · have hsv : saveD d100 (fsOf []) nm n = (.inl 16, d100, fsOf []) := by unfold saveD; rw [if_pos hnm]
    rw [hsv] at he h3 hf3
    obtain rfl : e = .returned (.int .i64 16) := he
    have H3 := Lib.hid h3
    have HF3 : Hid (fsOf F3 = []) := Lib.hid hf3
    have HL3 : Hid (FileLens F3) := Lib.hid (fun e he => by
      have h1 : (e.nm, e.f) ∈ fsOf F3 := List.mem_map.2 ⟨e, he, rfl⟩
      rw [hf3] at h1; cases h1)
    clear hsv h3 hc3 hf3
    go_wp2_with (fail)
    refine (curLoad H3.out HL3.out nm).mono ?_
    rw [show loadD (fsOf F3) nm = (0, 0) from by rw [HF3.out]; rfl]
    rintro e w4 ⟨rfl, hb4⟩
    have H4 := Lib.hid (H3.out.below hb4)
    have HB4 : Hid (Below w.heap.size w w4) := Lib.hid (HB3.out.trans (hb4.mono HB3.out.size))
    clear hb4
    go_wp2_with (fail)
    refine (refName nm w4 (by have := HS.out; omega)).mono ?_
    rintro e w5 ⟨rfl, rfl⟩
    cases h1 : nameD nm
    · go_wp2_with (fail)
      refine (dkOps H4.out).mono ?_
      rintro e w6 ⟨rfl, rfl⟩
      go_wp2_with (fail)
      go_ret
      exact ⟨rfl, HB4.out⟩
    · have h2 : nameD (tmpN nm) = false := hnm.resolve_left (by rw [h1]; decide)
      go_wp2_with (fail)
      try rw [htn]
      refine (refName (tmpN nm) w4 (by have := HTS.out; omega)).mono ?_
      rintro e w5 ⟨rfl, rfl⟩
      rw [h2]
      go_wp2_with (fail)
      refine (dkOps H4.out).mono ?_
      rintro e w6 ⟨rfl, rfl⟩
      go_wp2_with (fail)
      go_ret
      exact ⟨rfl, HB4.out⟩
  · have hn1 : nameD nm = true := by cases h : nameD nm; exact absurd (.inl h) hnm; rfl
    have hn2 : nameD (tmpN nm) = true := by cases h : nameD (tmpN nm); exact absurd (.inr h) hnm; rfl
    by_cases hr : 0 ≤ n ∧ n ≤ 1099511627776
    · obtain ⟨N, rfl⟩ : ∃ N : Nat, n = (N : Int) := ⟨n.toNat, by omega⟩
      have hsv : saveD d100 (fsOf []) nm (N : Int) = (.inl 0, ⟨100, 12, 3, 0, 0, 0⟩, [(nm, ⟨bytesD N, 12⟩)]) := saveD_good (by omega) hn1 hn2 rfl rfl (by decide) rfl
      have e0 : decide ((N : Int) < 0) = false := by simp
      have e1 : decide ((1099511627776 : Int) < (N : Int)) = false := by simp; omega
      have e2 : ¬ ((1099511627776 : Int) < (N : Int)) := by omega
      have HNN : Hid (N ≤ 1099511627776) := Lib.hid (by omega)
      rw [hsv] at he h3 hf3
      obtain rfl : e = .returned (.int .i64 0) := he
      have H3 := Lib.hid h3
      have HF3 : Hid (fsOf F3 = [(nm, ⟨bytesD N, 12⟩)]) := Lib.hid hf3
      have HL3 : Hid (FileLens F3) := Lib.hid (lens_of12 hf3 (by rw [show (bytesD N).length = 12 from rfl]; decide))
      clear hsv h3 hc3 hf3 hr hnm
      go_wp2_with (fail)
      refine (curLoad H3.out HL3.out nm).mono ?_
      rw [show loadD (fsOf F3) nm = ((N : Int), 0) from by rw [HF3.out]; unfold loadD; simp only [fget, if_true]; exact numD_bytes HNN.out]
      rintro e w4 ⟨rfl, hb4⟩
      have HB4 : Hid (Below w.heap.size w w4) := Lib.hid (HB3.out.trans (hb4.mono HB3.out.size))
      clear hb4
      go_wp2_with (fail)
      refine (refName nm w4 (by have := HS.out; omega)).mono ?_
      rintro e w5 ⟨rfl, rfl⟩
      rw [hn1]
      go_wp2_with (fail)
      try rw [htn]
      refine (refName (tmpN nm) w4 (by have := HTS.out; omega)).mono ?_
      rintro e w5 ⟨rfl, rfl⟩
      rw [hn2]
      go_wp2_with (fail)
      go_ret
      exact ⟨rfl, HB4.out⟩
    · have hsv : saveD d100 (fsOf []) nm n = (.inl 3, d100, fsOf []) := by unfold saveD; rw [if_neg hnm, if_neg hr]
      rw [hsv] at he h3 hf3
      obtain rfl : e = .returned (.int .i64 3) := he
      have H3 := Lib.hid h3
      have HF3 : Hid (fsOf F3 = []) := Lib.hid hf3
      have HL3 : Hid (FileLens F3) := Lib.hid (fun e he => by
        have h1 : (e.nm, e.f) ∈ fsOf F3 := List.mem_map.2 ⟨e, he, rfl⟩
        rw [hf3] at h1; cases h1)
      clear hsv h3 hc3 hf3 hnm
      go_wp2_with (fail)
      refine (curLoad H3.out HL3.out nm).mono ?_
      rw [show loadD (fsOf F3) nm = (0, 0) from by rw [HF3.out]; rfl]
      rintro e w4 ⟨rfl, hb4⟩
      have H4 := Lib.hid (H3.out.below hb4)
      have HB4 : Hid (Below w.heap.size w w4) := Lib.hid (HB3.out.trans (hb4.mono HB3.out.size))
      clear hb4
      go_wp2_with (fail)
      refine (refName nm w4 (by have := HS.out; omega)).mono ?_
      rintro e w5 ⟨rfl, rfl⟩
      rw [hn1]
      go_wp2_with (fail)
      try rw [htn]
      refine (refName (tmpN nm) w4 (by have := HTS.out; omega)).mono ?_
      rintro e w5 ⟨rfl, rfl⟩
      rw [hn2]
      by_cases h0 : n < 0
      · have e0 : decide (n < 0) = true := by simpa using h0
        clear hr h0
        go_wp2_with (fail)
        refine (dkOps H4.out).mono ?_
        rintro e w6 ⟨rfl, rfl⟩
        go_wp2_with (fail)
        go_ret
        exact ⟨rfl, HB4.out⟩
      · have e0 : decide (n < 0) = false := by simpa using h0
        have e1 : decide ((1099511627776 : Int) < n) = true := by simp; omega
        have e2 : (1099511627776 : Int) < n := by omega
        clear hr
        go_wp2_with (fail)
        refine (dkOps H4.out).mono ?_
        rintro e w6 ⟨rfl, rfl⟩
        go_wp2_with (fail)
        go_ret
        exact ⟨rfl, HB4.out⟩
end Go.Proofs.Ytolomfdommnklaa
