/- EntryFirst, walked. -/
import Derived.Test.YtamjcihhilmppaaScan
import Derived.Test.YtamjcihhilmppaaSame13
import Derived.Test.YtamjcihhilmppaaEntryAlive
namespace Go.Proofs.Ytamjcihhilmppaa
open Go.RowKit

set_option maxHeartbeats 4000000 in
set_option maxRecDepth 100000 in
theorem entryFirst_walk (A : Option Addr) (n c : Nat) (l : List UInt8) (w : World) (hB : Bs w A n c l) (_hR : c ≤ 140737488351232) :
    Calls Try.prog 13 #[.slice A n c] w (True_ w) := by
  have HB := Lib.hid hB
  have hmax := hB.nmax
  have hle := hB.le
  have HL := Lib.hid hB.len
  clear hB _hR
  by_cases hlong : 1500 < n
  · go_enter Try.func13, Try.ntmps13
    go_wp2_with (fail)
    refine (entryAlive w).mono ?_
    rintro e w1 ⟨rfl, hb1⟩
    have HB1 := Lib.hid hb1
    clear hb1
    go_wp2_with (fail)
    go_ret
    exact ⟨rfl, HB1.out⟩
  have hn : n ≤ 1500 := by omega
  clear hlong
  go_enter Try.func13, Try.ntmps13
  go_wp2_with (fail)
  refine (entryGet A n c l w HB.out (by omega)).mono ?_
  rintro e w1 ⟨A1, c1, rfl, hB1, hb1⟩
  have HX1 := Lib.hid hB1
  have HB1 := Lib.hid hb1
  clear hB1 hb1
  go_wp2_with (fail)
  refine (entryScan A n c l w1 (HB.out.below HB1.out) (by omega)).mono ?_
  rintro e w2 ⟨A2, c2, rfl, hr2, hb2⟩
  have HR2 := Lib.hid hr2
  have HB2 : Hid (Below w.heap.size w w2) := Lib.hid (HB1.out.trans (hb2.mono HB1.out.size))
  have HX2 := Lib.hid (HX1.out.below hb2)
  have HBB := Lib.hid (HB.out.below HB2.out)
  clear hr2 hb2 HX1 HB1
  by_cases he : getErr l = 0
  · have HG := Lib.hid (getErr_len he)
    have HS := Lib.hid (scan_ok he)
    rw [HS.out] at HR2 ⊢
    rw [he]
    simp only at HR2 ⊢
    have hg9 : ¬ ((getLen l : Int) < 9) := by have := HG.out.1; omega
    have hgn : ¬ ((n : Int) < (getLen l : Int)) := by have := HG.out.2.1; have := HL.out; omega
    have HGN : Hid (getLen l ≤ n) := Lib.hid (by have := HG.out.2.1; have := HL.out; omega)
    have HOK := Lib.hid HG.out.2.2.2
    have HGX := Lib.hid HG.out.2.2.1
    clear he HG HS
    generalize getLen l = g at *
    obtain ⟨x, hx⟩ : ∃ x, getGet l = x := ⟨_, rfl⟩
    rw [hx] at HX2 HOK HGX HR2 ⊢
    clear hx
    generalize hrest : scan (l.drop g) = rest at *
    obtain ⟨L1, k1, f1⟩ := rest
    simp only at HR2 ⊢
    have HRE := Lib.hid hrest
    have hk1 : k1 ≤ n - g := by have := scan_len (l.drop g); rw [hrest] at this; rw [List.length_drop, HL.out] at this; exact this
    have hgn2 : g ≤ n := HGN.out
    clear hrest
    obtain ⟨b, o, rfl, _, _⟩ := HBB.out.at_ (by have := HGN.out; have := HGX.out; omega)
    obtain ⟨b2, o2, Ai, ci, rfl, _, hc0, hBi⟩ := HR2.out.read (i := 0) (by simp)
    simp only [List.getD_cons_zero, Nat.add_zero] at hc0 hBi
    have hcv := fun q => (hBi.drewN q).str (P := Try.prog) 22 5 9 Try.underlying22 Try.underlying5 Try.underlying9
    have hcx := fun q => (HX2.out.drewN q).str (P := Try.prog) 22 5 9 Try.underlying22 Try.underlying5 Try.underlying9
    have hd := HBB.out.drop (i := g) HGN.out
    rw [Option.map_some, Addr.add_lit] at hd
    obtain ⟨R, hR⟩ : ∃ R, (if c = g then some (⟨b, o, none⟩ : Addr) else some ⟨b, o + g, none⟩) = R := ⟨_, rfl⟩
    rw [hR] at hd
    have HD := Lib.hid hd
    have hcg : g ≤ c := by have := HGN.out; omega
    have hgi : (g : Int) ≤ (n : Int) := by have := HGN.out; omega
    have hr1 := HR2.out.drop (q := 1) (by simp)
    rw [Option.map_some, Addr.add_lit] at hr1
    obtain ⟨R2, hR2⟩ : ∃ R2, (if c2 = 1 then some (⟨b2, o2, none⟩ : Addr) else some ⟨b2, o2 + 1, none⟩) = R2 := ⟨_, rfl⟩
    rw [hR2, show (x :: L1).length - 1 = L1.length from rfl, show (x :: L1).drop 1 = L1 from rfl] at hr1
    have HR3 := Lib.hid hr1
    have hxl : (x :: L1).length = L1.length + 1 := rfl
    have hc2 : L1.length + 1 ≤ c2 := HR2.out.2.1
    have hcm2 := HR2.out.2.2.1
    simp only [maxLen] at hcm2
    have hcm := HB.out.max
    rw [hxl]
    have d1 : decide ((g : Int) < 9) = false := by rw [decide_eq_false_iff_not]; exact hg9
    have d2 : decide ((n : Int) < (g : Int)) = false := by rw [decide_eq_false_iff_not]; exact hgn
    have d2' : decide (n < g) = false := by rw [decide_eq_false_iff_not]; omega
    have d3 : (((L1.length + 1 : Nat) : Int) == 0) = false := by rw [beq_eq_false_iff_ne]; omega
    have d4 : ((L1.length : Int) + 1 == 0) = false := by rw [beq_eq_false_iff_ne]; omega
    clear hd hr1 hxl hBi hg9 hgn
    go_wp2_with (fail)
    go_quiet (fail)
    go_wp2_with (fail)
    have HBD : Hid (Below w2.heap.size w2 (w2.drewN nq)) := Lib.hid (drawN_below (Below.refl _ _) nq)
    have HB3 : Hid (Below w.heap.size w (w2.drewN nq)) := Lib.hid (drawN_below HB2.out nq)
    generalize w2.drewN nq = w3 at *
    refine (entryScan R (n - g) (c - g) (l.drop g) w3 (HD.out.below HBD.out) (by omega)).mono ?_
    rintro e w4 ⟨A4, c4, rfl, hr4, hb4⟩
    rw [HRE.out] at hr4 ⊢
    simp only at hr4 ⊢
    have HR4 := Lib.hid hr4
    have HR5 := Lib.hid ((HR3.out.below HBD.out).below hb4)
    have HB4 : Hid (Below w.heap.size w w4) := Lib.hid (HB3.out.trans (hb4.mono HB3.out.size))
    clear hr4 hb4
    go_wp2_with (fail)
    refine (entryAlive w4).mono ?_
    rintro e w5 ⟨rfl, hb5⟩
    have HR6 := Lib.hid (HR4.out.below hb5)
    have HR7 := Lib.hid (HR5.out.below hb5)
    have HB5 : Hid (Below w.heap.size w w5) := Lib.hid (HB4.out.trans (hb5.mono HB4.out.size))
    clear hb5
    go_wp2_with (fail)
    refine (same13 R2 A4 L1.length (c2 - 1) c4 L1 w5 HR7.out HR6.out).mono ?_
    rintro e w6 ⟨rfl, hb6⟩
    have HB6 : Hid (Below w.heap.size w w6) := Lib.hid (HB5.out.trans (hb6.mono HB5.out.size))
    clear hb6
    go_wp2_with (fail)
    refine (entrySize_yes x.length w6 HOK.out).mono ?_
    rintro e w' ⟨rfl, rfl⟩
    have hgx : ((g : Int) == 8 + (x.length : Int)) = true := by rw [beq_iff_eq]; have := HGX.out; omega
    go_wp2_with (fail)
    go_ret
    exact ⟨rfl, HB6.out⟩
  · have hge := get_err (l := l) rfl he
    rw [hge.1] at HX2 ⊢
    rw [hge.2]
    have HE := Lib.hid he
    by_cases h0 : l.length = 0
    · have hl : l = [] := List.eq_nil_of_length_eq_zero h0
      have hn0 : n = 0 := by rw [← HL.out, hl]; rfl
      subst hl hn0
      rw [scan_nil] at HR2 ⊢
      rw [show getErr [] = 7 from rfl]
      simp only [List.length_nil] at HR2 ⊢
      clear he HE h0 hge
      go_wp2_with (fail)
      refine (entryAlive w2).mono ?_
      rintro e w5 ⟨rfl, hb5⟩
      have HB5 : Hid (Below w.heap.size w w5) := Lib.hid (HB2.out.trans (hb5.mono HB2.out.size))
      clear hb5
      go_wp2_with (fail)
      go_ret
      exact ⟨rfl, HB5.out⟩
    · have hs := scan_err (by omega) he
      rw [hs] at HR2 ⊢
      simp only [List.length_nil] at HR2 ⊢
      have hne : (getErr l != 0) = true := by rw [bne_iff_ne]; exact he
      have hn0 : ((n : Int) == 0) = false := by rw [beq_eq_false_iff_ne]; have := HL.out; omega
      clear he hge hs h0
      generalize getErr l = er at *
      go_wp2_with (fail)
      refine (entryAlive w2).mono ?_
      rintro e w5 ⟨rfl, hb5⟩
      have HB5 : Hid (Below w.heap.size w w5) := Lib.hid (HB2.out.trans (hb5.mono HB2.out.size))
      clear hb5
      go_wp2_with (fail)
      go_ret
      exact ⟨rfl, HB5.out⟩
end Go.Proofs.Ytamjcihhilmppaa
