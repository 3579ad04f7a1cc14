/- EntryGets, walked; the document's Scan. -/
import Derived.Test.YtamjcihhilmppaaRef13
import Derived.Test.YtamjcihhilmppaaScan
import Derived.Test.YtamjcihhilmppaaSame13
import Derived.Test.YtamjcihhilmppaaEntryAlive
namespace Go.Proofs.Ytamjcihhilmppaa
open Go.RowKit

set_option maxHeartbeats 4000000 in
set_option maxRecDepth 100000 in
theorem refScan13 (A : Option Addr) (n c : Nat) (l : List UInt8) (w : World) (hB : Bs w A n c l) (hN : n ≤ 1000000000) :
    Calls Try.prog 24 #[.slice A n c] w (ScanPost l w) := by
  have hlen := Lib.hid hB.len
  have hmax := hB.nmax
  have hle := hB.le
  have hcm := hB.max
  have HB := Lib.hid hB
  clear hB
  go_enter Try.func24, Try.ntmps24
  go_wp2_with (fail)
  go_loopw [5, 6, 7, 8, 9] (fun v i _ _ _ wr => ∃ (p : Nat) (acc : List (List UInt8)), i = .int .i64 p ∧ Rw w.heap.size (fun _ => False) wr v acc ∧ ScanAt l p acc ∧ Below w.heap.size w wr) (fun _ i _ _ _ _ => n - (intOf i).toNat)
  case atStart => exact ⟨0, [], rfl, Rw.nil _ _ _, ScanAt.start l, Below.refl _ _⟩
  case round =>
    obtain ⟨wo, rfl⟩ : ∃ wo : World, wo = wr := ⟨_, rfl⟩
    obtain ⟨p, acc, rfl, hr, ha, hb⟩ := hrel
    obtain ⟨v, hv⟩ : ∃ v, v = u5 := ⟨_, rfl⟩
    subst hv
    have HR := Lib.hid hr
    have HA := Lib.hid ha
    have HBB := Lib.hid hb
    have hpn : p ≤ n := by have := ha.1; have := hlen.out; omega
    clear hr ha hb
    by_cases hlt : p < n
    · obtain ⟨b, o, rfl, hbl, _⟩ := HB.out.at_ (by omega)
      have e1 : (p : Int) < (n : Int) := by omega
      have e9 : ¬ c = p := by omega
      have hpi : (p : Int) ≤ (n : Int) := by omega
      have hpc : p ≤ c := by omega
      have hd := (HB.out.drop (i := p) (by omega)).below HBB.out
      rw [if_neg e9, Option.map_some, Addr.add_lit] at hd
      have HD := Lib.hid hd
      have HLT := Lib.hid hlt
      obtain ⟨Av, cv, hv⟩ := HR.out.form
      subst hv
      clear hd hlt hbl
      go_wp2_with (fail)
      refine (refGet13 _ (n - p) (c - p) (l.drop p) wo HD.out (by omega)).mono ?_
      rintro e w1 ⟨A1, c1, rfl, hB1, hfr, hb1⟩
      have HX := Lib.hid hB1
      have HFR := Lib.hid hfr
      have HR1 := Lib.hid (HR.out.below hb1)
      have HB1 : Hid (Below w.heap.size w w1) := Lib.hid (HBB.out.trans (hb1.mono HBB.out.size))
      have HZ1 := Lib.hid hb1.size
      clear hB1 hfr hb1
      by_cases he : getErr (l.drop p) = 0
      · have HA1 := Lib.hid (HA.out.more he)
        have hgl := getErr_len he
        have hdl := HD.out.len
        have hkp : getLen (l.drop p) ≤ n - p := by omega
        have hk9 : 9 ≤ getLen (l.drop p) := hgl.1
        have hacc : acc.length ≤ n := by have := HA.out.2.1; omega
        rw [he]
        clear he hgl hdl
        generalize getGet (l.drop p) = x at *
        generalize getLen (l.drop p) = k at *
        have HLT1 : Hid (0 < x.length → ∀ b, A1 = some b → ¬ (Value.slice Av acc.length cv).ownBlock = some b.block ∧ ¬ (fun _ : Nat => False) b.block) := Lib.hid (fun _ b hb => by
          have h1 := HFR.out b hb
          obtain ⟨vs, hv⟩ := HR.out
          exact ⟨fun e => by have := (World.ownsRow.lt hv.2.1 _ e).2; omega, fun h => h⟩)
        have HA2 := Lib.hid ((Below.refl w1.heap.size w1).alloc (Nat.le_refl _) (.cells #[.slice A1 x.length c1] 22))
        have HR2 := Lib.hid (HR1.out.below HA2.out)
        have HROW := Lib.hid (heap_alloc_new w1 (.cells #[.slice A1 x.length c1] 22))
        have HXA := Lib.hid (HX.out.below HA2.out)
        have HBZ : Hid (w.heap.size ≤ (w1.alloc (.cells #[.slice A1 x.length c1] 22)).heap.size) := Lib.hid (Nat.le_trans HB1.out.size HA2.out.size)
        obtain ⟨Z, hZ⟩ : ∃ Z, acc ++ [x] = Z := ⟨_, rfl⟩
        rw [hZ] at HA1
        have HZ := Lib.hid hZ
        clear hZ
        have tok1 : Hid True := Lib.hid trivial
        go_wp2_with (at_builtin; have _t := tok1; go_loud ((refine wpList_rw rfl (.tmp 27) (.tmp 29) rfl w.heap.size (fun _ => False) (.slice Av acc.length cv) acc x A1 c1 rfl HR2.out HXA.out HLT1.out (fun h => h) w1.heap.size rfl HROW.out (by omega) HBZ.out ?_; intro v2 w2 hw2 hgr2 hfr2; rw [HZ.out] at hw2; obtain ⟨A2, c2, rfl⟩ := hw2.form; have HR3 := Lib.hid hw2; have HCH : Hid (Below w.heap.size w w2) := Lib.hid ((HB1.out.trans (HA2.out.mono HB1.out.size)).trans ((Ch.of_grown (S := fun k => (Value.slice Av acc.length cv).ownBlock = some k) hgr2 (fun k hk => hk)).below (fun k hk => (by obtain ⟨vs, hv⟩ := HR2.out; exact (World.ownsRow.lt hv.2.1 k hk).1)) HBZ.out)); clear tok1 hw2 hgr2 hfr2 _t)))
        exact ⟨⟨p + k, Z, by go_num, HR3.out, HA1.out, HCH.out⟩, by have := HLT.out; simp [intOf]; omega⟩
      · have hst := HA.out.stop (by rw [hlen.out]; exact HLT.out) he
        have hne : (getErr (l.drop p) != 0) = true := by rw [bne_iff_ne]; exact he
        have hge := get_err (l := l.drop p) rfl he
        have HST := Lib.hid hst
        obtain ⟨Av', cv', hv, hrd⟩ := HR1.out.rd
        injection hv with hv1 hv2 hv3
        subst hv1 hv3
        have HRD := Lib.hid hrd
        rw [hge.1, hge.2]
        clear hst he hrd hge
        generalize getErr (l.drop p) = er at *
        go_wp2_with (fail)
        go_ret3
        refine ⟨Av, cv, ?_, ?_, HB1.out⟩
        · rw [HST.out]; rfl
        · rw [HST.out]; exact HRD.out
    · obtain rfl : p = n := by omega
      have hst := HA.out.all hlen.out.symm
      obtain ⟨Av, cv, hv, hrd⟩ := HR.out.rd
      subst hv
      have HST := Lib.hid hst
      have HRD := Lib.hid hrd
      clear hst hrd hlt
      go_wp2_with (fail)
      go_ret3
      refine ⟨Av, cv, ?_, ?_, HBB.out⟩
      · rw [HST.out]; rfl
      · rw [HST.out]; exact HRD.out

set_option maxHeartbeats 4000000 in
set_option maxRecDepth 100000 in
theorem entryGets_walk (A : Option Addr) (n c : Nat) (l : List UInt8) (w : World) (hB : Bs w A n c l) (_hR : c ≤ 140737488351232) :
    Calls Try.prog 8 #[.slice A n c] w (True_ w) := by
  have HB := Lib.hid hB
  have hmax := hB.nmax
  clear hB _hR
  by_cases hlong : 2000 < n
  · go_enter Try.func8, Try.ntmps8
    go_wp2_with (fail)
    refine (entryAlive w).mono ?_
    rintro e w1 ⟨rfl, hb1⟩
    have HB1 := Lib.hid hb1
    clear hb1
    go_wp2_with (fail)
    go_ret
    exact ⟨rfl, HB1.out⟩
  have hn : n ≤ 2000 := by omega
  clear hlong
  go_enter Try.func8, Try.ntmps8
  go_wp2_with (fail)
  refine (entryGet A n c l w HB.out (by omega)).mono ?_
  rintro e w1 ⟨A1, c1, rfl, hB1, hb1⟩
  have HX1 := Lib.hid hB1
  have HB1 := Lib.hid hb1
  clear hB1 hb1
  go_wp2_with (fail)
  refine (refGet13 A n c l w1 (HB.out.below HB1.out) (by omega)).mono ?_
  rintro e w2 ⟨A2, c2, rfl, hB2, _, hb2⟩
  have HX2 := Lib.hid hB2
  have HX12 := Lib.hid (HX1.out.below hb2)
  have HB2 : Hid (Below w.heap.size w w2) := Lib.hid (HB1.out.trans (hb2.mono HB1.out.size))
  clear hB2 hb2 HX1 HB1
  go_wp2_with (fail)
  refine (entryScan A n c l w2 (HB.out.below HB2.out) (by omega)).mono ?_
  rintro e w3 ⟨A3, c3, rfl, hr3, hb3⟩
  have HR3 := Lib.hid hr3
  have HX13 := Lib.hid (HX12.out.below hb3)
  have HX23 := Lib.hid (HX2.out.below hb3)
  have HB3 : Hid (Below w.heap.size w w3) := Lib.hid (HB2.out.trans (hb3.mono HB2.out.size))
  clear hr3 hb3 HX12 HX2 HB2
  go_wp2_with (fail)
  refine (refScan13 A n c l w3 (HB.out.below HB3.out) (by omega)).mono ?_
  rintro e w4 ⟨A4, c4, rfl, hr4, hb4⟩
  have HR4 := Lib.hid hr4
  have HR34 := Lib.hid (HR3.out.below hb4)
  have HX14 := Lib.hid (HX13.out.below hb4)
  have HX24 := Lib.hid (HX23.out.below hb4)
  have HB4 : Hid (Below w.heap.size w w4) := Lib.hid (HB3.out.trans (hb4.mono HB3.out.size))
  clear hr4 hb4 HX13 HX23 HB3 HR3
  generalize getGet l = x at *
  generalize getLen l = k at *
  generalize getErr l = er at *
  generalize (scan l).1 = L1 at *
  generalize (scan l).2.1 = k1 at *
  generalize (scan l).2.2 = e1 at *
  go_wp2_with (fail)
  refine (entryAlive w4).mono ?_
  rintro e w5 ⟨rfl, hb5⟩
  have HR5 := Lib.hid (HR4.out.below hb5)
  have HR35 := Lib.hid (HR34.out.below hb5)
  have hcv := (HX14.out.below hb5).str (P := Try.prog) 22 5 9 Try.underlying22 Try.underlying5 Try.underlying9
  have hcv2 := (HX24.out.below hb5).str (P := Try.prog) 22 5 9 Try.underlying22 Try.underlying5 Try.underlying9
  have HB5 : Hid (Below w.heap.size w w5) := Lib.hid (HB4.out.trans (hb5.mono HB4.out.size))
  clear hb5
  go_wp2_with (fail)
  refine (same13 A3 A4 L1.length c3 c4 L1 w5 HR35.out HR5.out).mono ?_
  rintro e w6 ⟨rfl, hb6⟩
  have HB6 : Hid (Below w.heap.size w w6) := Lib.hid (HB5.out.trans (hb6.mono HB5.out.size))
  clear hb6
  go_wp2_with (fail)
  go_ret
  exact ⟨rfl, HB6.out⟩
end Go.Proofs.Ytamjcihhilmppaa
