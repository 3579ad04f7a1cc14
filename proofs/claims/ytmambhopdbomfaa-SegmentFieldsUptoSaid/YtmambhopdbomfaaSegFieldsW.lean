/- SegmentFields, walked. -/
import Derived.Test.YtmambhopdbomfaaSeg11
namespace Go.Proofs.Ytmambhopdbomfaa
open Go.RowKit

set_option maxHeartbeats 8000000 in
set_option maxRecDepth 100000 in
theorem segmentFields_walk (s : ByteArray) (d : Sgn) (A' : Option Addr) (n' cp' : Nat) (T : List (List UInt8)) (w : World) (_hs0 : s.size ≤ maxLen) (hS : Ss w A' n' cp' T) (_hs : s.size ≤ 1048576) (ht : Lib.lens T + T.length ≤ 1048576) :
    Calls Try.prog 4 #[.string s, d.v, .slice A' n' cp'] w (True_ w) := by
  have HB0 : Hid (Below w.heap.size w (boxSgn d w)) := Lib.hid (boxSgn_below d w)
  have HX0 : Hid (BoxS d w.heap.size (boxSgn d w)) := Lib.hid (heap_alloc_new w _)
  have HS0 : Hid (Ss w A' n' cp' T) := Lib.hid hS
  have HT := Lib.hid ht
  have hmax := hS.nmax
  obtain ⟨N, hN⟩ : ∃ N, N = Lib.lens T + T.length := ⟨_, rfl⟩
  have HN := Lib.hid hN
  clear hS ht hN _hs _hs0
  go_enter Try.func4, Try.ntmps4
  by_cases hbig : 1000 < s.size
  · have d1 : decide ((1000 : Int) < (s.size : Int)) = true := by simp; omega
    clear hbig
    go_wp2_with (fail)
    refine (alive_ _).mono ?_
    rintro e w3 ⟨rfl, hb3⟩
    have HB3 : Hid (Below w.heap.size w w3) := Lib.hid (HB0.out.trans (hb3.mono HB0.out.size))
    clear hb3
    go_wp2_with (fail)
    go_ret
    exact ⟨rfl, HB3.out⟩
  have d1 : decide ((1000 : Int) < (s.size : Int)) = false := by simp; omega
  have HF : Hid (s.size ≤ 1000) := Lib.hid (by omega)
  obtain ⟨c0, c1, c2, c3, c4⟩ := HX0.out.cells
  clear hbig
  by_cases hbig2 : 1000 < N
  · have d2 : decide ((1000 : Int) < (N : Int)) = true := by simp; omega
    clear hbig2
    go_wp2_with (fail)
    refine (bytes08 A' n' cp' T _ (HS0.out.below HB0.out) HT.out N HN.out).mono ?_
    rintro e w2 ⟨rfl, rfl⟩
    go_wp2_with (fail)
    refine (alive_ _).mono ?_
    rintro e w3 ⟨rfl, hb3⟩
    have HB3 : Hid (Below w.heap.size w w3) := Lib.hid (HB0.out.trans (hb3.mono HB0.out.size))
    clear hb3
    go_wp2_with (fail)
    go_ret
    exact ⟨rfl, HB3.out⟩
  have d2 : decide ((1000 : Int) < (N : Int)) = false := by simp; omega
  clear hbig2
  go_wp2_with (fail)
  refine (bytes08 A' n' cp' T _ (HS0.out.below HB0.out) HT.out N HN.out).mono ?_
  rintro e w2 ⟨rfl, rfl⟩
  go_wp2_with (fail)
  clear c0 c1 c2 c3 c4
  refine (refFields s d _ (by have := HF.out; omega)).mono ?_
  rintro e w2 ⟨A, c, rfl, _, hb2⟩
  have HX2 := Lib.hid (HX0.out.below hb2)
  have HB2 := Lib.hid (HB0.out.trans (hb2.mono HB0.out.size))
  obtain ⟨F, hF⟩ : ∃ n : Nat, n = (fieldsD s d.a).length := ⟨_, rfl⟩
  have HFF := Lib.hid hF
  rw [← hF]
  have HNL : Hid (F ≤ 1001) := Lib.hid (by rw [hF]; have := fieldsD_len s d.a; have := HF.out; omega)
  clear hb2 hF HX0 HB0
  go_wp2_with (fail)
  refine (alive_ _).mono ?_
  rintro e w3 ⟨rfl, hb3⟩
  have HX3 := Lib.hid (HX2.out.below hb3)
  have HB3 := Lib.hid (HB2.out.trans (hb3.mono HB2.out.size))
  clear hb3 HX2 HB2
  obtain ⟨c0, c1, c2, c3, c4⟩ := HX3.out.cells
  go_wp2_with (fail)
  refine (count_ s d _ (by have := HF.out; omega)).mono ?_
  rintro e w4 ⟨rfl, hb4⟩
  rw [← HFF.out]
  have HX4 := Lib.hid (HX3.out.below hb4)
  have HB4 := Lib.hid (HB3.out.trans (hb4.mono HB3.out.size))
  clear hb4 HX3 HB3 c0 c1 c2 c3 c4
  obtain ⟨N1, hN1⟩ : ∃ N1 : Nat, (F : Int) + 2 = (N1 : Int) := ⟨F + 2, by omega⟩
  have HN1 : Hid (N1 = F + 2 ∧ N1 ≤ 1003) := Lib.hid (by have := HNL.out; omega)
  have eN2 : IntKind.i64.wrap (N1 : Int) = (N1 : Int) := by rw [IntKind.wrap_i64]; have := HN1.out; omega
  go_wp2_with (fail)
  go_loopw [8] (fun t wr => ∃ q : Nat, q ≤ N1 + 2 ∧ t = .int .i64 ((q : Int) - 1) ∧ BoxS d w.heap.size wr ∧ Below w.heap.size w wr) (fun t _ => N1 + 2 - ((intOf t) + 1).toNat)
  case atStart => exact ⟨0, by omega, by simp, HX4.out, HB4.out⟩
  case round =>
    obtain ⟨q, hq, rfl, hX, hB⟩ := hrel
    have HX := Lib.hid hX
    have HB := Lib.hid hB
    clear hX hB HX4 HB4
    obtain ⟨iv, hiv⟩ : ∃ iv : Int, iv = (q : Int) - 1 := ⟨_, rfl⟩
    have HIV := Lib.hid (And.intro hq hiv)
    rw [← hiv]
    clear hiv hq
    by_cases hle : iv ≤ (N1 : Int)
    · have dq : decide (iv ≤ (N1 : Int)) = true := by simpa using hle
      have HLE := Lib.hid hle
      have ewi : IntKind.i64.wrap (iv + 1) = ((q + 1 : Nat) : Int) - 1 := by rw [IntKind.wrap_i64]; have := HIV.out; have := HN1.out; omega
      obtain ⟨c0, c1, c2, c3, c4⟩ := HX.out.cells
      go_wp2_with (fail)
      refine (field_ s iv d _ (by have := HF.out; omega) (by have h1 := HIV.out; have h2 := HN1.out; omega) (by have h1 := HIV.out; omega)).mono ?_
      rintro e w5 ⟨rfl, hb5⟩
      have HX5 := Lib.hid (HX.out.below hb5)
      have HB5 := Lib.hid (HB.out.trans (hb5.mono HB.out.size))
      clear hb5 c0 c1 c2 c3 c4 HX HB
      obtain ⟨c0, c1, c2, c3, c4⟩ := HX5.out.cells
      obtain ⟨o, ho⟩ : ∃ o, o = nthD (fieldsD s d.a) iv := ⟨_, rfl⟩
      have HO := Lib.hid ho
      rw [← ho]
      clear ho
      obtain ⟨x, b, hxb⟩ : ∃ x b, toldV o = .tuple #[str x, .bool b] := ⟨_, _, rfl⟩
      have HXB := Lib.hid hxb
      rw [hxb]
      have hst : ((txt x).toList == (txt x).toList) = true := by simp
      have hst2 : (b == b) = true := by simp
      clear hxb
      go_wp2_with (fail)
      refine (refField s iv d _ (by have := HF.out; omega) (by have h1 := HIV.out; have h2 := HN1.out; omega)).mono ?_
      rintro e w6 ⟨rfl, hb6⟩
      rw [← HO.out, HXB.out]
      have HX6 := Lib.hid (HX5.out.below hb6)
      have HB6 := Lib.hid (HB5.out.trans (hb6.mono HB5.out.size))
      clear hb6 c0 c1 c2 c3 c4 HX5 HB5
      go_wp2_with (fail)
      exact ⟨⟨q + 1, by have := HIV.out; have := HLE.out; omega, by rw [Int.natCast_add]; simp, HX6.out, HB6.out⟩, by have := HIV.out; have := HLE.out; simp [intOf]; omega⟩
    · have dq : decide (iv ≤ (N1 : Int)) = false := by simpa using hle
      obtain ⟨c0, c1, c2, c3, c4⟩ := HX.out.cells
      go_wp2_with (fail)
      refine (nameS_ s _).mono ?_
      rintro e w5 ⟨rfl, rfl⟩
      have HNS := Lib.hid (size_nameS s)
      generalize nameS s = nm at *
      clear c0 c1 c2 c3 c4
      have tA : Hid True := Lib.hid trivial
      have tB : Hid True := Lib.hid trivial
      obtain ⟨k0, k1, k2, k3, k4⟩ := HX.out.cells
      have HSX : Hid (Ss w5 A' n' cp' T) := Lib.hid (HS0.out.below HB.out)
      have hst : ((txt (makeD nm d.a T)).toList == (txt (makeD nm d.a T)).toList) = true := by simp
      go_wp2_with (fail)
      go_region_with (first
        | (go_at_call 23; go_loud ((refine (segMake d nm A' n' cp' T _ (by first | exact HSB.out | exact HSX.out.below (Below.refl _ _).drew | exact HSX.out) (by have := HNS.out; omega) HT.out).mono ?_; rintro e wA ⟨rfl, hbA⟩; have HBA : Hid (Below w.heap.size w wA) := Lib.hid (by first | exact HBB.out.trans (hbA.mono HBB.out.size) | exact HB.out.trans (((Below.refl _ _).drew.trans hbA).mono HB.out.size) | exact HB.out.trans (hbA.mono HB.out.size)); have HSA : Hid (Ss wA A' n' cp' T) := Lib.hid (HS0.out.below HBA.out); have HXA : Hid (BoxS d w.heap.size wA) := Lib.hid (by first | exact HXB.out.below hbA | exact HX.out.below ((Below.refl _ _).drew.trans hbA) | exact HX.out.below hbA); obtain ⟨j0, j1, j2, j3, j4⟩ := HXA.out.cells; clear hbA)))
        | (go_at_call 24; go_loud ((refine (refMake d nm A' n' cp' T _ (by first | exact HSA.out | exact HSX.out.below (Below.refl _ _).drew | exact HSX.out) (by have := HNS.out; omega) HT.out).mono ?_; rintro e wB ⟨rfl, hbB⟩; have HBB : Hid (Below w.heap.size w wB) := Lib.hid (by first | exact HBA.out.trans (hbB.mono HBA.out.size) | exact HB.out.trans (((Below.refl _ _).drew.trans hbB).mono HB.out.size) | exact HB.out.trans (hbB.mono HB.out.size)); have HSB : Hid (Ss wB A' n' cp' T) := Lib.hid (HS0.out.below HBB.out); have HXB : Hid (BoxS d w.heap.size wB) := Lib.hid (by first | exact HXA.out.below hbB | exact HX.out.below ((Below.refl _ _).drew.trans hbB) | exact HX.out.below hbB); obtain ⟨l0, l1, l2, l3, l4⟩ := HXB.out.cells; clear hbB))))
      all_goals
        go_wp2_with (fail)
        go_ret
        first | exact ⟨rfl, HBB.out⟩ | exact ⟨rfl, HBA.out⟩
end Go.Proofs.Ytmambhopdbomfaa
