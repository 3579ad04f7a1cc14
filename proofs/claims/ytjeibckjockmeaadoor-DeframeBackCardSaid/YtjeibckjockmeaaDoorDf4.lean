/- Layer 5: behind an End; what is taken. -/
import Derived.Test.YtjeibckjockmeaaDoorDf3
namespace Go.Proofs.YtjeibckjockmeaaDoor
open Go.RowKit

set_option maxHeartbeats 1000000 in
set_option maxRecDepth 100000 in
theorem dBehind (B D : Nat) (O : Option Nat) (most : Nat) (s : St) (w : World) (h : Df B D O most s w) (ok : s.Ok) (hB : B ≤ w.heap.size) (c : UInt8) (hm : s.md = .beh) : Calls Tryd.prog 29 #[.pointer (some ⟨D, 0, none⟩), .int .u8 (c.toNat : Int)] w (DfRet (.bool (stepD most s c).2) B D O most (stepD most s c).1 w) := by
  have hmf : ∀ (fn : Fn) (first cap : Array Value) (w : World), (Instr.makeFunc fn first cap).run Tryd.prog w = .ok (.func fn first cap) w := fun _ _ _ _ => rfl
  have H := Lib.hid h
  have HM := Lib.hid hm
  obtain ⟨fv, _, _, _, _, hd⟩ := h
  have z1 := hd.cell 1
  have z3 := hd.cell 3
  simp [St.low] at z1 z3
  have f1 := hd.frozen 1
  have f3 := hd.frozen 3
  clear hd hm
  by_cases hc3 : c = 13
  · have d13 : (((c.toNat : Nat) : Int) == 13) = true := by rw [hc3]; rfl
    have HC := Lib.hid hc3
    clear hc3
    go_enter Tryd.func29, Tryd.ntmps29
    go_wp2_with (fail)
    go_ret
    have e1 : stepD most s c = (s, true) := by simp [stepD, HM.out, HC.out]
    rw [e1]
    exact ⟨rfl, O, H.out, Mv.refl _ _ _⟩
  have d13 : (((c.toNat : Nat) : Int) == 13) = false := ne_num hc3
  have HC3 := Lib.hid hc3
  clear hc3
  by_cases hc : c = 11
  · have d11 : (((c.toNat : Nat) : Int) == 11) = true := by rw [hc]; rfl
    have HC := Lib.hid hc
    clear hc
    go_enter Tryd.func29, Tryd.ntmps29
    go_wp2_with (fail)
    refine (dBreak B D O most s w H.out ok.broken).mono ?_
    rintro e w2 ⟨rfl, O2, hd2, hm2⟩
    have HD2 := Lib.hid hd2
    have HM2 := Lib.hid hm2
    clear hd2 hm2
    go_wp2_with (fail)
    go_ret
    have e1 : stepD most s c = (enterS { s with broken := s.broken + 1 }, false) := by simp [stepD, HM.out, HC.out]
    rw [e1]
    exact ⟨rfl, O2, HD2.out, HM2.out⟩
  · have d11 : (((c.toNat : Nat) : Int) == 11) = false := ne_num hc
    have HC := Lib.hid hc
    clear hc
    by_cases hc2 : c = 28
    · have d28 : (((c.toNat : Nat) : Int) == 28) = true := by rw [hc2]; rfl
      have HC2 := Lib.hid hc2
      clear hc2
      go_enter Tryd.func29, Tryd.ntmps29
      go_wp2_with (fail)
      have hb0 : Below w.heap.size w (w.alloc (.cells #[.int .u8 28] 5)) := (Below.refl _ w).alloc (Nat.le_refl _) _
      refine (dLay B D O most s _ (H.out.below hb0) [28] w.heap.size 0 1 (Bs.lit w [28] 5 _ w.heap.size rfl rfl rfl (by simp [maxLen])) (by simp) (by simp) (Nat.le_trans hB hb0.size) ok.over ok.fr).mono ?_
      rintro e w2 ⟨rfl, O2, hd2, hm2⟩
      have HD2 := Lib.hid hd2
      have HM2 : Hid (Mv D O O2 w w2) := Lib.hid ((Mv.of_below hb0).trans hm2)
      clear hd2 hm2 hb0
      go_wp2_with (fail)
      go_ret
      have e1 : stepD most s c = (layS most s [28], false) := by simp [stepD, HM.out, HC2.out]
      rw [e1]
      exact ⟨rfl, O2, HD2.out, HM2.out⟩
    · have d28 : (((c.toNat : Nat) : Int) == 28) = false := ne_num hc2
      have HC2 := Lib.hid hc2
      clear hc2
      go_enter Tryd.func29, Tryd.ntmps29
      go_wp2_with (fail)
      have H1 : Hid (Df B D O most { s with md := .inn } ((w.setCell ⟨D, 3, none⟩ (.bool false)).setCell ⟨D, 1, none⟩ (Md.fn D .inn))) := Lib.hid (by
        obtain ⟨fv, e, hne, hB2, ho, hd⟩ := H.out
        refine ⟨fv, e, hne, hB2, ho.ch (((Ch.refl (At1 D) w).set1 3 _).set1 1 _) (fun k hk hk2 => hne (by rw [← e, hk, hk2])), ?_⟩
        exact (hd.set (s' := { s.low most D fv with ending := false }) 3 _ rfl).set (s' := ({ s with md := .inn } : St).low most D fv) 1 (Md.fn D .inn) (by simp [St.low, HM.out, Md.begun, Md.ending]))
      have HM1 : Hid (Mv D O O w ((w.setCell ⟨D, 3, none⟩ (.bool false)).setCell ⟨D, 1, none⟩ (Md.fn D .inn))) := Lib.hid (Mv.of1 (((Ch.refl _ w).set1 3 _).set1 1 _))
      change Calls _ _ _ (World.alloc ((w.setCell ⟨D, 3, none⟩ (.bool false)).setCell ⟨D, 1, none⟩ (Md.fn D .inn)) _) _
      have hs1 : B ≤ ((w.setCell ⟨D, 3, none⟩ (.bool false)).setCell ⟨D, 1, none⟩ (Md.fn D .inn)).heap.size := Nat.le_trans hB HM1.out.1.size
      have hz1 : ((w.setCell ⟨D, 3, none⟩ (.bool false)).setCell ⟨D, 1, none⟩ (Md.fn D .inn)).heap.size = w.heap.size := by simp [World.setCell]
      rw [← hz1]
      obtain ⟨W, hW⟩ : ∃ W, W = (w.setCell ⟨D, 3, none⟩ (.bool false)).setCell ⟨D, 1, none⟩ (Md.fn D .inn) := ⟨_, rfl⟩
      rw [← hW] at H1 HM1 hs1 ⊢
      clear hW hz1 z1 z3 f1 f3
      have hb0 : Below W.heap.size W (W.alloc (.cells #[.int .u8 28, .int .u8 (c.toNat : Int)] 5)) := (Below.refl _ W).alloc (Nat.le_refl _) _
      refine (dLay B D O most { s with md := .inn } _ (H1.out.below hb0) [28, c] W.heap.size 0 2 (Bs.lit W [28, c] 5 _ W.heap.size rfl rfl rfl (by simp [maxLen])) (by simp) (by simp) (Nat.le_trans hs1 hb0.size) ok.over ok.fr).mono ?_
      rintro e w2 ⟨rfl, O2, hd2, hm2⟩
      have HD2 := Lib.hid hd2
      have HM2 : Hid (Mv D O O2 w w2) := Lib.hid ((HM1.out.trans (Mv.of_below hb0)).trans hm2)
      clear hd2 hm2 hb0 hs1
      go_wp2_with (fail)
      go_ret
      have e1 : stepD most s c = (layS most { s with md := .inn } [28, c], false) := by simp [stepD, HM.out, HC3.out, HC.out, HC2.out]
      rw [e1]
      exact ⟨rfl, O2, HD2.out, HM2.out⟩

/-- bytes in a block of their own -/
def Fresh (w : World) (l : List UInt8) (e : Ending) (w' : World) : Prop := ∃ g, e = .returned (.slice (some ⟨g, 0, none⟩) l.length l.length) ∧ w.heap.size ≤ g ∧ w'.heap[g]? = some (.cells (u8s l).toArray 5) ∧ Below w.heap.size w w'

set_option maxHeartbeats 1000000 in
set_option maxRecDepth 100000 in
theorem dTaken (B D : Nat) (O : Option Nat) (most : Nat) (s : St) (w : World) (h : Df B D O most s w) (ok : s.Ok) : Calls Tryd.prog 22 #[.pointer (some ⟨D, 0, none⟩)] w (Fresh w s.fr) := by
  obtain ⟨fv, hfv, hne, hBD, hown, hd⟩ := h
  obtain ⟨A, cp, rfl, hfb, _⟩ := Own.bs hown
  have hfm := hfb.nmax
  have z4 := hd.cell 4
  simp [St.low] at z4
  have HD := Lib.hid hd
  have HB := Lib.hid hfb
  obtain ⟨Z, HZ, hzl, hmk⟩ := mk_zeros ((s.fr.length : Nat) : Int) s.fr.length rfl (by have := ok.fr; omega)
  have HZL := Lib.hid hzl
  have z4' : ∀ o, (w.alloc o).cell? ⟨D, 4, none⟩ = some (.slice A s.fr.length cp) := fun o => (((Below.refl w.heap.size w).alloc (Nat.le_refl _) o).cell (p := ⟨D, 4, none⟩) HD.out.lt).trans z4
  clear hd hfb hown hfv hne hzl
  go_enter Tryd.func22, Tryd.ntmps22
  go_wp2_with (with_reducible show wpList _ _ _ _ _ _; refine wpList_cpyTo rfl (.tmp 10) (.tmp 14) 23 23 rfl 5 Tryd.underlying23 byteInfo w.heap.size 0 _ _ _ rfl Z 5 (heap_alloc_new w _) A s.fr.length s.fr.length cp s.fr rfl (HB.out.alloc _) (fun _ => rfl) (by omega) (by rw [HZL.out]; omega) ?_; intro w1 hw1 hb1; have HB1 := Lib.hid hb1; clear hb1)
  go_ret
  have hr := hw1.out
  rw [List.take_zero, List.nil_append, List.drop_of_length_le (by rw [HZL.out]; omega), List.append_nil] at hr
  exact ⟨w.heap.size, rfl, Nat.le_refl _, hr, ((Below.refl _ w).alloc (Nat.le_refl _) _).trans (HB1.out.mono (Nat.le_refl _))⟩
end Go.Proofs.YtjeibckjockmeaaDoor
