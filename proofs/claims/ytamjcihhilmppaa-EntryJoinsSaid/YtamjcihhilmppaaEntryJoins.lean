/- EntryJoins, walked. -/
import Derived.Test.YtamjcihhilmppaaScan
import Derived.Test.YtamjcihhilmppaaScanJoin
import Derived.Test.YtamjcihhilmppaaWants
import Derived.Test.YtamjcihhilmppaaSame13
import Derived.Test.YtamjcihhilmppaaEntryAlive
namespace Go.Proofs.Ytamjcihhilmppaa
open Go.RowKit

set_option maxHeartbeats 4000000 in
set_option maxRecDepth 100000 in
theorem entryJoins_walk (A : Option Addr) (n c : Nat) (l : List UInt8) (B : Option Addr) (n2 c2 : Nat) (l2 : List UInt8) (w : World) (hA : Bs w A n c l) (_hR : c ≤ 140737488351232) (hB : Bs w B n2 c2 l2) (_hR2 : c2 ≤ 140737488351232) :
    Calls Try.prog 12 #[.slice A n c, .slice B n2 c2] w (True_ w) := by
  have HA := Lib.hid hA
  have HB := Lib.hid hB
  have hmax := hA.nmax
  have hmax2 := hB.nmax
  have HL := Lib.hid hA.len
  have HL2 := Lib.hid hB.len
  clear hA hB _hR _hR2
  by_cases hlong : 1000 < n ∨ 1000 < n2
  · have key : Calls Try.prog 20 #[] w (True_ w) := entryAlive w
    have HKEY := Lib.hid key
    clear key
    by_cases h1 : 1000 < n
    · clear hlong
      go_enter Try.func12, Try.ntmps12
      go_wp2_with (fail)
      refine (HKEY.out).mono ?_
      rintro e w1 ⟨rfl, hb1⟩
      have HB1 := Lib.hid hb1
      clear hb1
      go_wp2_with (fail)
      go_ret
      exact ⟨rfl, HB1.out⟩
    · have h2 : 1000 < n2 := by omega
      clear hlong
      go_enter Try.func12, Try.ntmps12
      go_wp2_with (fail)
      refine (HKEY.out).mono ?_
      rintro e w1 ⟨rfl, hb1⟩
      have HB1 := Lib.hid hb1
      clear hb1
      go_wp2_with (fail)
      go_ret
      exact ⟨rfl, HB1.out⟩
  have hn : n ≤ 1000 := by omega
  have hn2 : n2 ≤ 1000 := by omega
  clear hlong
  go_enter Try.func12, Try.ntmps12
  go_wp2_with (fail)
  refine (entryScan A n c l w HA.out (by omega)).mono ?_
  rintro e w1 ⟨A1, c1, rfl, hr1, hb1⟩
  have HR1 := Lib.hid hr1
  have HB1 := Lib.hid hb1
  clear hr1 hb1
  by_cases he : (scan l).2.2 = 0
  · rw [he]
    have HD := Lib.hid (scan_done l he)
    have HAP := Lib.hid (scan_append l2 l he)
    have HC := Lib.hid (scan_count l)
    have HC2 := Lib.hid (scan_count l2)
    have hs1 := scan_len l
    have hs2 := scan_len l2
    rw [HL.out] at hs1
    rw [HL2.out] at hs2
    clear he
    generalize (scan l).2.1 = k1 at *
    generalize (scan l).1 = L1 at *
    go_wp2_with (fail)
    refine (entryScan B n2 c2 l2 w1 (HB.out.below HB1.out) (by omega)).mono ?_
    rintro e w2 ⟨A2, cc2, rfl, hr2, hb2⟩
    have HR2 := Lib.hid hr2
    have HB2 : Hid (Below w.heap.size w w2) := Lib.hid (HB1.out.trans (hb2.mono HB1.out.size))
    have HR12 := Lib.hid (HR1.out.below hb2)
    clear hr2 hb2 HR1 HB1
    generalize (scan l2).2.1 = k2 at *
    generalize (scan l2).1 = L2 at *
    generalize (scan l2).2.2 = f2 at *
    have HAA := Lib.hid (HA.out.below HB2.out)
    have HBB := Lib.hid (HB.out.below HB2.out)
    have HLT : Hid ((l ++ l2).length = n + n2) := Lib.hid (by rw [List.length_append, HL.out, HL2.out])
    have tok1 : True := trivial
    have tok2 : True := trivial
    go_wp2_with (first
      | (at_builtin; have _t := tok1; go_loud ((refine wpList_app rfl (.tmp 49) (.tmp 50) 22 rfl w2.heap.size 5 Try.underlying22 byteInfo _ [] rfl (Own.lit 5 w2 [] (Nat.le_refl _) (by simp [maxLen])) _ n c l rfl (HAA.out.alloc _) (by simp; omega) (by simp) ?_; intro v2 w3 hown2 hb2 hg2; have b2 := (((Below.refl _ w2).alloc (Nat.le_refl _) _)).trans hb2; clear tok1 hb2 hg2 _t)))
      | (at_builtin; have _t := tok2; go_loud ((refine wpList_app rfl (.tmp 51) (.tmp 52) 22 rfl w2.heap.size 5 Try.underlying22 byteInfo _ ([] ++ l) rfl hown2 _ n2 c2 l2 rfl (HBB.out.below b2) (by simp [HL.out]; omega) b2.size ?_; intro v3 w4 hown3 hb3 hg3; have b3 := b2.trans hb3; clear tok2 hb3 hg3 _t))))
    generalize hY : [] ++ l ++ l2 = Y at hown3
    obtain rfl : l ++ l2 = Y := by rw [← hY]; rfl
    clear hY
    obtain ⟨A3, c3, rfl, hB3, _⟩ := hown3.bs
    rw [HLT.out] at hB3 ⊢
    have HX3 := Lib.hid hB3
    have HB4 : Hid (Below w.heap.size w w4) := Lib.hid (HB2.out.trans (b3.mono HB2.out.size))
    have HR14 := Lib.hid (HR12.out.below b3)
    have HR24 := Lib.hid (HR2.out.below b3)
    clear hB3 hown3 b3 b2 hown2
    refine (entryScan A3 (n + n2) c3 (l ++ l2) w4 HX3.out (by omega)).mono ?_
    rintro e w5 ⟨A5, c5, rfl, hr5, hb5⟩
    rw [HAP.out] at hr5 ⊢
    simp only at hr5 ⊢
    obtain ⟨Z, hZ⟩ : ∃ Z, L1 ++ L2 = Z := ⟨_, rfl⟩
    rw [hZ] at hr5 ⊢
    have HZ : Hid ([] ++ L1 ++ L2 = Z) := Lib.hid (by rw [List.nil_append]; exact hZ)
    clear hZ
    have HR5 := Lib.hid hr5
    have HR15 := Lib.hid (HR14.out.below hb5)
    have HR25 := Lib.hid (HR24.out.below hb5)
    have HB5 : Hid (Below w.heap.size w w5) := Lib.hid (HB4.out.trans (hb5.mono HB4.out.size))
    clear hr5 hb5
    rw [show ((k1 + k2 : Nat) : Int) = (k1 : Int) + (k2 : Int) from by omega]
    have hl12 : L1.length ≤ 1000 := by have := HC.out; have := HL.out; omega
    have hl22 : L2.length ≤ 1000 := by have := HC2.out; have := HL2.out; omega
    go_wp2_with (fail)
    refine (entryAlive w5).mono ?_
    rintro e w6 ⟨rfl, hb6⟩
    have HR6 := Lib.hid (HR5.out.below hb6)
    have HR16 := Lib.hid (HR15.out.below hb6)
    have HR26 := Lib.hid (HR25.out.below hb6)
    have HB6 : Hid (Below w.heap.size w w6) := Lib.hid (HB5.out.trans (hb6.mono HB5.out.size))
    have HW0 : Hid (Wants w6.heap.size (w6.alloc (.cells #[] 22)) (.slice (some ⟨w6.heap.size, 0, none⟩) 0 0) []) := Lib.hid (Wants.lit (Nat.le_refl _))
    have HBA : Hid (Below w6.heap.size w6 (w6.alloc (.cells #[] 22))) := Lib.hid ((Below.refl _ _).alloc (Nat.le_refl _) _)
    have HNL : Hid (([] ++ L1 : List (List UInt8)).length + L2.length ≤ 1099511627776) := Lib.hid (by simp; omega)
    have tok3 : True := trivial
    have tok4 : True := trivial
    clear hb6
    go_wp2_with (first
      | (at_builtin; have _t := tok3; go_loud ((refine wpList_wants (by rfl) (.tmp 73) (.tmp 74) rfl (.slice (some ⟨w6.heap.size, 0, none⟩) 0 0) [] L1 A1 L1.length c1 rfl rfl HW0.out HR16.out HBA.out (by simp; omega) ?_; intro v7 w7 hw7 hb7; have HW7 := Lib.hid hw7; have HB7 := Lib.hid (HBA.out.trans hb7); obtain ⟨A7, c7, rfl, _⟩ := hw7.rd; clear tok3 hw7 hb7 _t)))
      | (at_builtin; have _t := tok4; go_loud ((refine wpList_wants (by rfl) (.tmp 75) (.tmp 76) rfl _ ([] ++ L1) L2 A2 L2.length cc2 rfl rfl HW7.out HR26.out HB7.out HNL.out ?_; intro v8 w8 hw8 hb8; rw [HZ.out] at hw8; have HW8 := Lib.hid hw8; have HB8 := Lib.hid (HB7.out.trans hb8); obtain ⟨A8, c8, rfl, hr8⟩ := hw8.rd; have HR8 := Lib.hid hr8; clear tok4 hw8 hb8 hr8 _t))))
    have HB9 : Hid (Below w.heap.size w w8) := Lib.hid (HB6.out.trans (HB8.out.mono HB6.out.size))
    refine (same13 A5 A8 Z.length c5 c8 Z w8 (HR6.out.below HB8.out) HR8.out).mono ?_
    rintro e w9 ⟨rfl, hb9⟩
    have HB10 : Hid (Below w.heap.size w w9) := Lib.hid (HB9.out.trans (hb9.mono HB9.out.size))
    clear hb9
    go_wp2_with (fail)
    go_ret
    exact ⟨rfl, HB10.out⟩
  · have HS := Lib.hid (scan_stop l he)
    have hne : ((scan l).2.2 != 0) = true := by rw [bne_iff_ne]; exact he
    have hk1 : (scan l).2.1 < n := by have := HS.out; have := HL.out; omega
    clear he
    generalize (scan l).2.1 = k1 at *
    generalize (scan l).2.2 = f1 at *
    generalize (scan l).1 = L1 at *
    have d1 : decide ((k1 : Int) < (n : Int)) = true := by rw [decide_eq_true_iff]; omega
    have d2 : decide (k1 < n) = true := by rw [decide_eq_true_iff]; omega
    go_wp2_with (fail)
    refine (entryAlive w1).mono ?_
    rintro e w5 ⟨rfl, hb5⟩
    have HB5 : Hid (Below w.heap.size w w5) := Lib.hid (HB1.out.trans (hb5.mono HB1.out.size))
    clear hb5
    go_wp2_with (fail)
    go_ret
    exact ⟨rfl, HB5.out⟩
end Go.Proofs.Ytamjcihhilmppaa
