/- SegmentSplits, walked. -/
import Derived.Test.YtmambhopdbomfaaSeg8
namespace Go.Proofs.Ytmambhopdbomfaa
open Go.RowKit

set_option maxHeartbeats 8000000 in
set_option maxRecDepth 100000 in
theorem segmentSplits_walk (A : Option Addr) (n cp : Nat) (l : List UInt8) (A' : Option Addr) (n' cp' : Nat) (T : List (List UInt8)) (w : World) (hB : Bs w A n cp l) (_hcp : cp ≤ 140737488351232) (hS : Ss w A' n' cp' T) (ht : Lib.lens T + T.length ≤ 1048576) :
    Calls Try.prog 3 #[.slice A n cp, .slice A' n' cp'] w (True_ w) := by
  have hnm := hB.nmax
  have hmax := hS.nmax
  have HS := Lib.hid hS
  have HT := Lib.hid ht
  have HBL := Lib.hid hB
  obtain ⟨N, hN⟩ : ∃ N, N = Lib.lens T + T.length := ⟨_, rfl⟩
  have HN := Lib.hid hN
  clear hS ht hB hN
  go_enter Try.func3, Try.ntmps3
  by_cases hbig : 3000 < n
  · have d1 : decide ((3000 : Int) < (n : Int)) = true := by simp; omega
    clear hbig
    go_wp2_with (fail)
    refine (alive_ _).mono ?_
    rintro e w3 ⟨rfl, hb3⟩
    have HB3 := Lib.hid hb3
    clear hb3
    go_wp2_with (fail)
    go_ret
    exact ⟨rfl, HB3.out⟩
  have d1 : decide ((3000 : Int) < (n : Int)) = false := by simp; omega
  have HNL : Hid (n ≤ 3000) := Lib.hid (by omega)
  clear hbig
  by_cases hbig2 : 3000 < N
  · have d2 : decide ((3000 : Int) < (N : Int)) = true := by simp; omega
    clear hbig2
    go_wp2_with (fail)
    refine (bytes08 A' n' cp' T _ HS.out HT.out N HN.out).mono ?_
    rintro e w2 ⟨rfl, rfl⟩
    go_wp2_with (fail)
    refine (alive_ _).mono ?_
    rintro e w3 ⟨rfl, hb3⟩
    have HB3 := Lib.hid hb3
    clear hb3
    go_wp2_with (fail)
    go_ret
    exact ⟨rfl, HB3.out⟩
  have d2 : decide ((3000 : Int) < (N : Int)) = false := by simp; omega
  clear hbig2
  go_wp2_with (fail)
  refine (bytes08 A' n' cp' T _ HS.out HT.out N HN.out).mono ?_
  rintro e w2 ⟨rfl, rfl⟩
  go_wp2_with (fail)
  go_loopw [18, 6] (fun i _ wr => ∃ k : Nat, k ≤ n' ∧ i = .int .i64 k ∧ wr = w2) (fun i _ _ => n' - (intOf i).toNat)
  case atStart => exact ⟨0, Nat.zero_le _, rfl, rfl⟩
  case round =>
    obtain ⟨k, hk, rfl, rfl⟩ := hrel
    by_cases hlt : k < n'
    · obtain ⟨b, o, rfl, _, hc⟩ := HS.out.read hlt
      have e1 : (k : Int) < (n' : Int) := by omega
      generalize T.getD k [] = y at *
      have hst : ((nameS (txt y)).toList == (nameS (txt y)).toList) = true := by simp
      have HLT := Lib.hid hlt
      clear hlt
      go_wp2_with (fail)
      refine (nameS_ (txt y) _).mono ?_
      rintro e w3 ⟨rfl, rfl⟩
      go_wp2_with (fail)
      refine (refName (txt y) _).mono ?_
      rintro e w3 ⟨rfl, rfl⟩
      go_wp2_with (fail)
      exact ⟨⟨k + 1, HLT.out, by go_num, trivial⟩, by have := HLT.out; simp [intOf]; omega⟩
    · obtain rfl : k = n' := by omega
      clear hlt hk
      have tA : Hid True := Lib.hid trivial
      have tB : Hid True := Lib.hid trivial
      have tC : Hid True := Lib.hid trivial
      have tD : Hid True := Lib.hid trivial
      have tE : Hid True := Lib.hid trivial
      have tF : Hid True := Lib.hid trivial
      go_wp2_with (fail)
      go_region_with ((first
        | (go_at_call 11; go_loud ((refine (alive_ _).mono ?_; rintro e wA ⟨rfl, hbA⟩; have HBA : Hid (Below wr.heap.size wr wA) := Lib.hid ((Below.refl _ _).drew.trans hbA); clear hbA)))
        | (go_at_call 15; go_loud ((refine (split_ A n cp l wA (HBL.out.below HBA.out) (by have := HNL.out; omega)).mono ?_; rintro e wB ⟨A1, c1, rfl, hS1, hbB⟩; have HS1 := Lib.hid hS1; have HBB : Hid (Below wr.heap.size wr wB) := Lib.hid (HBA.out.trans (hbB.mono HBA.out.size)); clear hS1 hbB)))
        | (go_at_call 16; go_loud ((refine (refSplit A n cp l wB (HBL.out.below HBB.out) (by have := HNL.out; omega)).mono ?_; rintro e wC ⟨A2, c2, rfl, hS2, hbC⟩; have HS2 := Lib.hid hS2; have HS1C := Lib.hid (HS1.out.below hbC); have HBC : Hid (Below wr.heap.size wr wC) := Lib.hid (HBB.out.trans (hbC.mono HBB.out.size)); clear hS2 hbC)))
        | (go_at_call 14; go_loud ((refine (same08 A1 A2 (splitD l).length c1 c2 (splitD l) wC HS1C.out HS2.out).mono ?_; rintro e wD ⟨rfl, hbD⟩; have HBD : Hid (Below wr.heap.size wr wD) := Lib.hid (HBC.out.trans (hbD.mono HBC.out.size)); clear hbD)))
        | (go_at_call 17; go_loud ((refine (segJoin A' k cp' T wD (HS.out.below HBD.out) HT.out).mono ?_; rintro e wE ⟨A3, c3, rfl, hBE, hbE⟩; have HBE : Hid (Below wr.heap.size wr wE) := Lib.hid (HBD.out.trans (hbE.mono HBD.out.size)); have HJE := Lib.hid hBE; have hcE := hBE.str (P := Try.prog) 22 5 9 Try.underlying22 Try.underlying5 Try.underlying9; clear hbE hBE)))
        | (go_at_call 18; go_loud ((refine (refJoin A' k cp' T wE (HS.out.below HBE.out) HT.out).mono ?_; rintro e wF ⟨rfl, hbF⟩; have HBF : Hid (Below wr.heap.size wr wF) := Lib.hid (HBE.out.trans (hbF.mono HBE.out.size)); have hcF := (HJE.out.below hbF).str (P := Try.prog) 22 5 9 Try.underlying22 Try.underlying5 Try.underlying9; clear hbF)))))
      all_goals
        go_wp2_with (fail)
        go_ret
        exact ⟨rfl, HBF.out⟩
end Go.Proofs.Ytmambhopdbomfaa
