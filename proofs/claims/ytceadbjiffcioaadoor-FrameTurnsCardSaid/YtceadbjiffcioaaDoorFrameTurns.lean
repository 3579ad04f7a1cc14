/- The law FrameTurns, walked. -/
import Derived.Test.YtceadbjiffcioaaDoorFrameMath
namespace Go.Proofs.YtceadbjiffcioaaDoor
open Go.RowKit

theorem start_mem {l : List UInt8} {i : Nat} (hi : i < l.length) : good (l.set i 11) = false := not_good_start (List.mem_set hi 11)
theorem good_set {l : List UInt8} {i : Nat} {c : UInt8} (hg : good l = true) (h1 : c ≠ 11) (h2 : c ≠ 28) (h3 : c ≠ 13) : good (l.set i c) = true := by
  refine good_of (fun hm => ?_) (fun j hj => ?_)
  · rcases List.mem_or_eq_of_mem_set hm with h | h
    · exact good_no_start hg h
    · exact h1 h.symm
  · rw [List.length_set] at hj
    have hb := good_at hg hj
    unfold badAt at hb ⊢
    rw [List.length_set]
    by_cases e : i = j
    · subst e
      rw [List.getElem?_set_self hj]
      simp [h2]
    · rw [List.getElem?_set_ne e]
      by_cases e2 : i = j + 1
      · subst e2
        by_cases h4 : j + 1 < l.length
        · rw [List.getElem?_set_self h4]
          have : ¬ j + 1 = l.length := by omega
          simp [h3, this]
        · rw [List.set_eq_of_length_le (by omega)]
          exact hb
      · rw [List.getElem?_set_ne e2]
        exact hb

set_option maxRecDepth 100000 in
set_option maxHeartbeats 1000000 in
theorem frameTurns_not (A : Option Addr) (n c : Nat) (l : List UInt8) (at_ : Int) (cc : Int) (w : World) (hS : Signs w) (hB : Bs w A n c l) (hn : n = 0 ∨ 1000 < n ∨ good l = false) :
    Calls Tryd.prog 8 #[.slice A n c, .int .i64 at_, .int .u8 cc] w (Alive w) := by
  have hmax := hB.nmax
  by_cases h0 : n = 0
  · have hn0 : ((n : Int) == 0) = true := by simp [h0]
    have HS := Lib.hid hS
    clear hS hB hn h0
    go_enter Tryd.func8, Tryd.ntmps8
    go_wp2_with (fail)
    refine (alive_any w HS.out).mono ?_
    rintro e w1 ⟨rfl, hb1⟩
    go_wp2
    go_ret
    exact ⟨rfl, hb1⟩
  · have hn0 : ((n : Int) == 0) = false := by simp [h0]
    by_cases h1 : 1000 < n
    · have HS := Lib.hid hS
      clear hS hB hn h0
      go_enter Tryd.func8, Tryd.ntmps8
      go_wp2_with (fail)
      refine (alive_any w HS.out).mono ?_
      rintro e w1 ⟨rfl, hb1⟩
      go_wp2
      go_ret
      exact ⟨rfl, hb1⟩
    · have hg : good l = false := by
        rcases hn with h | h | h
        · omega
        · omega
        · exact h
      have HS := Lib.hid hS
      have HB := Lib.hid hB
      have HG := Lib.hid hg
      clear hS hB hn h0 hg
      go_enter Tryd.func8, Tryd.ntmps8
      go_wp2_with (fail)
      refine (frameGood_b A n c l w HS.out HB.out false HG.out).mono ?_
      rintro e w1 ⟨rfl, hb1⟩
      go_wp2_with (fail)
      refine (alive_any w1 (HS.out.below hb1)).mono ?_
      rintro e w2 ⟨rfl, hb2⟩
      go_wp2
      go_ret
      exact ⟨rfl, hb1.trans (hb2.mono hb1.size)⟩

theorem turn_index (at_ : Int) (n : Nat) (h0 : 0 < n) (h1 : n ≤ 1000) : ∃ i : Nat, i < n ∧ wrap64 ((IntKind.u64.wrap at_).tmod (n : Int)) = (i : Int) := by
  have h2 : 0 ≤ IntKind.u64.wrap at_ := by simp [IntKind.wrap, IntKind.signed]; omega
  generalize IntKind.u64.wrap at_ = u at *
  have h3 : 0 ≤ u.tmod (n : Int) := Int.tmod_nonneg _ h2
  have h4 : u.tmod (n : Int) < (n : Int) := Int.tmod_lt_of_pos _ (by omega)
  refine ⟨(u.tmod (n : Int)).toNat, by omega, ?_⟩
  rw [IntWalk.wrap64_in _ (by omega)]
  omega

theorem Own.lit2 (E : TypeId) (w : World) (l : List UInt8) (C : Array Value) (g n base : Nat) (hg : g = w.heap.size) (hC : C = (u8s l).toArray) (hn : n = l.length) (hb : base ≤ w.heap.size) (hm : l.length ≤ maxLen) :
    Own E (w.alloc (.cells C E)) base (.slice (some ⟨g, 0, none⟩) n n) l := by
  subst hg hC hn
  exact Own.lit E w l hb hm
theorem Own.bsv {E : TypeId} {w : World} {base : Nat} {A : Option Addr} {m n c : Nat} {l : List UInt8} (h : Own E w base (.slice A m c) l) (hn : n = l.length) : Bs w A n c l := by
  subst hn
  obtain ⟨A', c', e, hb, _⟩ := h.bs
  injection e with e1 e2 e3
  subst e1 e3
  exact hb
theorem size_set (w : World) (a : Addr) (u : Value) : (w.setCell a u).heap.size = w.heap.size := by simp [World.setCell]

set_option maxRecDepth 100000 in
set_option maxHeartbeats 2000000 in
theorem frameTurns_main (A : Option Addr) (n c : Nat) (l : List UInt8) (at_ : Int) (cu : UInt8) (w : World) (hS : Signs w) (hB : Bs w A n c l) (h0 : 0 < n) (h1 : n ≤ 1000) (hg : good l = true) (hc : cu ≠ 11 ∧ cu ≠ 28 ∧ cu ≠ 13) :
    Calls Tryd.prog 8 #[.slice A n c, .int .i64 at_, .int .u8 (cu.toNat : Int)] w (Alive w) := by
  have hn0 : ((n : Int) == 0) = false := by simp; omega
  obtain ⟨i, hin, hi⟩ := turn_index at_ n h0 h1
  have hil : i < l.length := by rw [hB.len]; exact hin
  have hx := List.getElem?_eq_getElem hil
  have m1 := u8_bne (x := cu) (k := 11) 11 rfl hc.1
  have m2 := u8_bne (x := cu) (k := 28) 28 rfl hc.2.1
  have m3 := u8_bne (x := cu) (k := 13) 13 rfl hc.2.2
  have HS := Lib.hid hS
  have HB := Lib.hid hB
  have HG := Lib.hid hg
  have HL := Lib.hid hB.len
  have HX := Lib.hid hx
  have HC := Lib.hid hc
  have tok1 : True := trivial
  have tok2 : True := trivial
  clear hS hB hg hx hc
  go_enter Tryd.func8, Tryd.ntmps8
  go_wp2_with (fail)
  refine (frameGood_b A n c l w HS.out HB.out true HG.out).mono ?_
  rintro e w1 ⟨rfl, hb1⟩
  have B1 := Lib.hid (HB.out.below hb1)
  go_wp2_with (first
    | (at_builtin; have _t := tok1
       refine wpList_app rfl (.tmp 31) (.tmp 32) 22 rfl w1.heap.size 5 Tryd.underlying22 byteInfo _ [] rfl (Own.lit 5 w1 [] (Nat.le_refl _) (by simp [maxLen])) _ n c l rfl (B1.out.alloc _) (by simp; omega) (by simp) ?_
       intro v2 w2 hown2 hb2 hg2
       have b2 := Lib.hid ((((Below.refl _ w1).alloc (Nat.le_refl _) _)).trans hb2)
       clear hb2 hg2 tok1 _t
       rw [List.nil_append] at hown2
       obtain ⟨g, c2, hv, hgb, hgs⟩ := hown2.form (by omega)
       rw [hv] at hown2
       have hcell2 := hown2.cell HX.out
       have hfro2 := hown2.frozen i
       rw [HL.out] at hv
       have HO2 := Lib.hid hown2
       clear hown2)
    | (at_builtin; have _t := tok2
       have b2s := Lib.hid (b2.out.setCell (p := ⟨g, i, none⟩) hgb (.int .u8 11))
       have O2s := Lib.hid (HO2.out.store i 11)
       refine wpList_app rfl (.tmp 37) (.tmp 38) 22 rfl w2.heap.size 5 Tryd.underlying22 byteInfo _ [] rfl (Own.lit2 5 (w2.setCell ⟨g, i, none⟩ (.int .u8 11)) [] _ _ _ _ (size_set _ _ _).symm rfl rfl (by simp) (by simp [maxLen])) _ n c l rfl ((B1.out.below b2s.out).alloc _) (by simp; omega) (by simp) ?_
       intro v3 w3 hown3 hb3 hg3
       have b3 := Lib.hid ((((Below.refl _ (w2.setCell ⟨g, i, none⟩ (.int .u8 11))).alloc (Nat.le_refl _) _)).trans (hb3.mono (by simp)))
       clear hb3 hg3 tok2 _t
       rw [List.nil_append] at hown3
       obtain ⟨g3, c3, hv3, hgb3, hgs3⟩ := hown3.form (by omega)
       rw [hv3] at hown3
       have hcell3 := hown3.cell HX.out
       have hfro3 := hown3.frozen i
       rw [HL.out] at hv3
       have HO3 := Lib.hid hown3
       clear hown3))
  have b4 := Lib.hid (b3.out.setCell (p := ⟨g3, i, none⟩) (by rw [size_set]; exact hgb3) (u8 cu))
  have b14 := Lib.hid (b2s.out.trans (b4.out.mono (by rw [size_set]; exact b2.out.size)))
  have X4 := Lib.hid ((O2s.out.below b4.out).bsv (n := n) (by rw [List.length_set]; exact HL.out.symm))
  have Y4 := Lib.hid ((HO3.out.store i cu).bsv (n := n) (by rw [List.length_set]; exact HL.out.symm))
  have bw := Lib.hid (hb1.trans (b14.out.mono hb1.size))
  clear hcell2 hfro2 hcell3 hfro3 hv hv3
  refine (alive_any _ (HS.out.below bw.out)).mono ?_
  rintro e w5 ⟨rfl, hb5⟩
  have b5 := Lib.hid (bw.out.trans (hb5.mono bw.out.size))
  go_wp2_with (fail)
  refine (frameGood_b _ n c2 (l.set i 11) w5 (HS.out.below b5.out) (X4.out.below hb5) false (start_mem (by rw [HL.out]; exact hin))).mono ?_
  rintro e w6 ⟨rfl, hb6⟩
  have b6 := Lib.hid (b5.out.trans (hb6.mono b5.out.size))
  go_wp2_with (fail)
  refine (frameGood_b _ n c3 (l.set i cu) w6 (HS.out.below b6.out) ((Y4.out.below hb5).below hb6) true (good_set HG.out HC.out.1 HC.out.2.1 HC.out.2.2)).mono ?_
  rintro e w7 ⟨rfl, hb7⟩
  go_wp2_with (fail)
  go_ret
  exact ⟨rfl, b6.out.trans (hb7.mono b6.out.size)⟩
set_option maxRecDepth 100000 in
set_option maxHeartbeats 2000000 in
theorem frameTurns_sign (A : Option Addr) (n c : Nat) (l : List UInt8) (at_ : Int) (cu : UInt8) (w : World) (hS : Signs w) (hB : Bs w A n c l) (h0 : 0 < n) (h1 : n ≤ 1000) (hg : good l = true) (hc : cu = 11 ∨ cu = 28 ∨ cu = 13) :
    Calls Tryd.prog 8 #[.slice A n c, .int .i64 at_, .int .u8 (cu.toNat : Int)] w (Alive w) := by
  have hn0 : ((n : Int) == 0) = false := by simp; omega
  obtain ⟨i, hin, hi⟩ := turn_index at_ n h0 h1
  have hil : i < l.length := by rw [hB.len]; exact hin
  have hx := List.getElem?_eq_getElem hil
  have HS := Lib.hid hS
  have HB := Lib.hid hB
  have HG := Lib.hid hg
  have HL := Lib.hid hB.len
  have HX := Lib.hid hx
  have tok1 : True := trivial
  have tok2 : True := trivial
  clear hS hB hg hx
  rcases hc with rfl | rfl | rfl
  all_goals
    go_enter Tryd.func8, Tryd.ntmps8
    go_wp2_with (fail)
    refine (frameGood_b A n c l w HS.out HB.out true HG.out).mono ?_
    rintro e w1 ⟨rfl, hb1⟩
    have B1 := Lib.hid (HB.out.below hb1)
    go_wp2_with (first
      | (at_builtin; have _t := tok1
         refine wpList_app rfl (.tmp 31) (.tmp 32) 22 rfl w1.heap.size 5 Tryd.underlying22 byteInfo _ [] rfl (Own.lit 5 w1 [] (Nat.le_refl _) (by simp [maxLen])) _ n c l rfl (B1.out.alloc _) (by simp; omega) (by simp) ?_
         intro v2 w2 hown2 hb2 hg2
         have b2 := Lib.hid ((((Below.refl _ w1).alloc (Nat.le_refl _) _)).trans hb2)
         clear hb2 hg2 tok1 _t
         rw [List.nil_append] at hown2
         obtain ⟨g, c2, hv, hgb, hgs⟩ := hown2.form (by omega)
         rw [hv] at hown2
         have hcell2 := hown2.cell HX.out
         have hfro2 := hown2.frozen i
         rw [HL.out] at hv
         have HO2 := Lib.hid hown2
         clear hown2)
      | (at_builtin; have _t := tok2
         have b2s := Lib.hid (b2.out.setCell (p := ⟨g, i, none⟩) hgb (.int .u8 11))
         have O2s := Lib.hid (HO2.out.store i 11)
         refine wpList_app rfl (.tmp 37) (.tmp 38) 22 rfl w2.heap.size 5 Tryd.underlying22 byteInfo _ [] rfl (Own.lit2 5 (w2.setCell ⟨g, i, none⟩ (.int .u8 11)) [] _ _ _ _ (size_set _ _ _).symm rfl rfl (by simp) (by simp [maxLen])) _ n c l rfl ((B1.out.below b2s.out).alloc _) (by simp; omega) (by simp) ?_
         intro v3 w3 hown3 hb3 hg3
         have b3 := Lib.hid ((((Below.refl _ (w2.setCell ⟨g, i, none⟩ (.int .u8 11))).alloc (Nat.le_refl _) _)).trans (hb3.mono (by simp)))
         clear hb3 hg3 tok2 _t
         rw [List.nil_append] at hown3
         obtain ⟨g3, c3, hv3, hgb3, hgs3⟩ := hown3.form (by omega)
         rw [hv3] at hown3
         have hcell3 := hown3.cell HX.out
         have hfro3 := hown3.frozen i
         rw [HL.out] at hv3
         have HO3 := Lib.hid hown3
         clear hown3))
    have b4 := b3
    have b14 := Lib.hid (b2s.out.trans (b4.out.mono (by rw [size_set]; exact b2.out.size)))
    have X4 := Lib.hid ((O2s.out.below b4.out).bsv (n := n) (by rw [List.length_set]; exact HL.out.symm))
    have Y4 := Lib.hid (HO3.out.bsv (n := n) HL.out.symm)
    have bw := Lib.hid (hb1.trans (b14.out.mono hb1.size))
    clear hcell2 hfro2 hcell3 hfro3 hv hv3
    refine (alive_any _ (HS.out.below bw.out)).mono ?_
    rintro e w5 ⟨rfl, hb5⟩
    have b5 := Lib.hid (bw.out.trans (hb5.mono bw.out.size))
    go_wp2_with (fail)
    refine (frameGood_b _ n c2 (l.set i 11) w5 (HS.out.below b5.out) (X4.out.below hb5) false (start_mem (by rw [HL.out]; exact hin))).mono ?_
    rintro e w6 ⟨rfl, hb6⟩
    have b6 := Lib.hid (b5.out.trans (hb6.mono b5.out.size))
    go_wp2_with (fail)
    refine (frameGood_b _ n c3 l w6 (HS.out.below b6.out) ((Y4.out.below hb5).below hb6) true HG.out).mono ?_
    rintro e w7 ⟨rfl, hb7⟩
    go_wp2_with (fail)
    go_ret
    exact ⟨rfl, b6.out.trans (hb7.mono b6.out.size)⟩

theorem frameTurns_walk (A : Option Addr) (n c : Nat) (l : List UInt8) (at_ cc : Int) (w : World) (hS : Signs w) (hB : Bs w A n c l) (_hR : c ≤ 140737488351232) (_hat : (Lit.int .i64 at_).wf = true) (hcc : (Lit.int .u8 cc).wf = true) :
    Calls Tryd.prog 8 #[.slice A n c, .int .i64 at_, .int .u8 cc] w (Alive w) := by
  by_cases hn : n = 0 ∨ 1000 < n ∨ good l = false
  · exact frameTurns_not A n c l at_ cc w hS hB hn
  · have hx : 0 ≤ cc ∧ cc ≤ 255 := by simpa [Lit.wf, IntKind.min, IntKind.max, IntKind.signed, IntKind.bits] using hcc
    obtain ⟨cu, rfl⟩ : ∃ cu : UInt8, cc = (cu.toNat : Int) := ⟨UInt8.ofNat cc.toNat, by
      have : cc.toNat < 256 := by omega
      simp [Nat.mod_eq_of_lt this]
      omega⟩
    have hg : good l = true := by
      cases h : good l with
      | true => rfl
      | false => exact absurd (.inr (.inr h)) hn
    have h0 : 0 < n := by
      rcases Nat.eq_zero_or_pos n with h | h
      · exact absurd (.inl h) hn
      · exact h
    have h1 : n ≤ 1000 := by
      rcases Nat.lt_or_ge 1000 n with h | h
      · exact absurd (.inr (.inl h)) hn
      · exact h
    by_cases hc : cu ≠ 11 ∧ cu ≠ 28 ∧ cu ≠ 13
    · exact frameTurns_main A n c l at_ cu w hS hB h0 h1 hg hc
    · refine frameTurns_sign A n c l at_ cu w hS hB h0 h1 hg ?_
      by_cases e1 : cu = 11
      · exact .inl e1
      · by_cases e2 : cu = 28
        · exact .inr (.inl e2)
        · by_cases e3 : cu = 13
          · exact .inr (.inr e3)
          · exact absurd ⟨e1, e2, e3⟩ hc
end Go.Proofs.YtceadbjiffcioaaDoor
