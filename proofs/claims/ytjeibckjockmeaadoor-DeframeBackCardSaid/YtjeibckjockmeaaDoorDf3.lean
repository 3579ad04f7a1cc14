/- Layer 5: what is done with one byte. -/
import Derived.Test.YtjeibckjockmeaaDoorDf2
namespace Go.Proofs.YtjeibckjockmeaaDoor
open Go.RowKit

/-- what is done with the next byte; does it end a frame? -/
def stepD (most : Nat) (s : St) (c : UInt8) : St × Bool :=
  match s.md with
  | .out => if c = 11 then (enterS s, false) else ({ s with junk := s.junk + 1 }, false)
  | .inn => if c = 11 then (enterS { s with broken := s.broken + 1 }, false) else if c = 28 then ({ s with md := .beh }, false) else (layS most s [c], false)
  | .beh => if c = 13 then (s, true) else if c = 11 then (enterS { s with broken := s.broken + 1 }, false) else if c = 28 then (layS most s [28], false) else (layS most { s with md := .inn } [28, c], false)

theorem ne_num {c : UInt8} {k : UInt8} (h : ¬ c = k) : (((c.toNat : Nat) : Int) == ((k.toNat : Nat) : Int)) = false := by
  rw [beq_eq_false_iff_ne]
  intro e
  exact h (UInt8.toNat_inj.1 (by omega))

/-- small enough numbers -/
structure St.Ok (s : St) : Prop where
  junk : s.junk ≤ 1099511627776
  over : s.over ≤ 1099511627776
  broken : s.broken ≤ 1099511627776
  fr : s.fr.length ≤ 1000000

set_option maxRecDepth 100000 in
theorem dOutside (B D : Nat) (O : Option Nat) (most : Nat) (s : St) (w : World) (h : Df B D O most s w) (ok : s.Ok) (c : UInt8) (hm : s.md = .out) : Calls Tryd.prog 23 #[.pointer (some ⟨D, 0, none⟩), .int .u8 (c.toNat : Int)] w (DfRet (.bool (stepD most s c).2) B D O most (stepD most s c).1 w) := by
  have H := Lib.hid h
  have HM := Lib.hid hm
  obtain ⟨fv, _, _, _, _, hd⟩ := h
  have z5 := hd.cell 5
  simp [St.low] at z5
  have f5 := hd.frozen 5
  have ew : IntKind.i64.wrap ((s.junk : Int) + 1) = ((s.junk + 1 : Nat) : Int) := by have := ok.junk; rw [IntKind.wrap_i64]; omega
  clear hd hm
  by_cases hc : c = 11
  · have d11 : (((c.toNat : Nat) : Int) == 11) = true := by rw [hc]; rfl
    have HC := Lib.hid hc
    clear hc
    go_enter Tryd.func23, Tryd.ntmps23
    go_wp2_with (fail)
    refine (dEnter B D O most s w H.out).mono ?_
    rintro e w2 ⟨rfl, O2, hd2, hm2⟩
    have HD2 := Lib.hid hd2
    have HM2 := Lib.hid hm2
    clear hd2 hm2
    go_wp2_with (fail)
    go_ret
    have e1 : stepD most s c = (enterS s, false) := by simp [stepD, HM.out, HC.out]
    rw [e1]
    exact ⟨rfl, O2, HD2.out, HM2.out⟩
  · have d11 : (((c.toNat : Nat) : Int) == 11) = false := ne_num hc
    have HC := Lib.hid hc
    clear hc
    go_enter Tryd.func23, Tryd.ntmps23
    go_wp2_with (fail)
    go_ret
    have e1 : stepD most s c = ({ s with junk := s.junk + 1 }, false) := by simp [stepD, HM.out, HC.out]
    rw [e1]
    exact ⟨rfl, O, H.out.set 5 _ rfl (fun fv => rfl), Mv.of1 ((Ch.refl _ w).set1 5 _)⟩

set_option maxHeartbeats 1000000 in
set_option maxRecDepth 100000 in
theorem dInside (B D : Nat) (O : Option Nat) (most : Nat) (s : St) (w : World) (h : Df B D O most s w) (ok : s.Ok) (hB : B ≤ w.heap.size) (c : UInt8) (hm : s.md = .inn) : Calls Tryd.prog 27 #[.pointer (some ⟨D, 0, none⟩), .int .u8 (c.toNat : Int)] w (DfRet (.bool (stepD most s c).2) B D O most (stepD most s c).1 w) := by
  have hmf : ∀ (fn : Fn) (first cap : Array Value) (w : World), (Instr.makeFunc fn first cap).run Tryd.prog w = .ok (.func fn first cap) w := fun _ _ _ _ => rfl
  have H := Lib.hid h
  have HM := Lib.hid hm
  obtain ⟨fv, _, _, _, _, hd⟩ := h
  have z1 := hd.cell 1
  have z3 := hd.cell 3
  simp [St.low] at z1 z3
  have f1 := hd.frozen 1
  have f3 := hd.frozen 3
  clear hd hm
  by_cases hc : c = 11
  · have d11 : (((c.toNat : Nat) : Int) == 11) = true := by rw [hc]; rfl
    have HC := Lib.hid hc
    clear hc
    go_enter Tryd.func27, Tryd.ntmps27
    go_wp2_with (fail)
    refine (dBreak B D O most s w H.out ok.broken).mono ?_
    rintro e w2 ⟨rfl, O2, hd2, hm2⟩
    have HD2 := Lib.hid hd2
    have HM2 := Lib.hid hm2
    clear hd2 hm2
    go_wp2_with (fail)
    go_ret
    have e1 : stepD most s c = (enterS { s with broken := s.broken + 1 }, false) := by simp [stepD, HM.out, HC.out]
    rw [e1]
    exact ⟨rfl, O2, HD2.out, HM2.out⟩
  · have d11 : (((c.toNat : Nat) : Int) == 11) = false := ne_num hc
    by_cases hc2 : c = 28
    · have d28 : (((c.toNat : Nat) : Int) == 28) = true := by rw [hc2]; rfl
      have HC := Lib.hid hc2
      clear hc hc2
      go_enter Tryd.func27, Tryd.ntmps27
      go_wp2_with (fail)
      go_ret
      have e1 : stepD most s c = ({ s with md := .beh }, false) := by simp [stepD, HM.out, HC.out]
      rw [e1]
      refine ⟨rfl, O, ?_, Mv.of1 (((Ch.refl _ w).set1 3 _).set1 1 _)⟩
      obtain ⟨fv, e, hne, hB2, ho, hd⟩ := H.out
      refine ⟨fv, e, hne, hB2, ho.ch (((Ch.refl (At1 D) w).set1 3 _).set1 1 _) (fun k hk hk2 => hne (by rw [← e, hk, hk2])), ?_⟩
      have hb : (s.low most D fv).begun = true := by simp [St.low, HM.out, Md.begun]
      exact (hd.set (s' := { s.low most D fv with ending := true }) 3 _ rfl).set (s' := ({ s with md := .beh } : St).low most D fv) 1 (Md.fn D .beh) (by simp [St.low, HM.out, Md.begun, Md.ending])
    · have d28 : (((c.toNat : Nat) : Int) == 28) = false := ne_num hc2
      have HC := Lib.hid hc
      have HC2 := Lib.hid hc2
      clear hc hc2
      go_enter Tryd.func27, Tryd.ntmps27
      go_wp2_with (fail)
      have hb0 : Below w.heap.size w (w.alloc (.cells #[.int .u8 (c.toNat : Int)] 5)) := (Below.refl _ w).alloc (Nat.le_refl _) _
      refine (dLay B D O most s _ (H.out.below hb0) [c] w.heap.size 0 1 (Bs.lit w [c] 5 _ w.heap.size rfl rfl rfl (by simp [maxLen])) (by simp) (by simp) (Nat.le_trans hB hb0.size) ok.over ok.fr).mono ?_
      rintro e w2 ⟨rfl, O2, hd2, hm2⟩
      have HD2 := Lib.hid hd2
      have HM2 : Hid (Mv D O O2 w w2) := Lib.hid ((Mv.of_below hb0).trans hm2)
      clear hd2 hm2 hb0
      go_wp2_with (fail)
      go_ret
      have e1 : stepD most s c = (layS most s [c], false) := by simp [stepD, HM.out, HC.out, HC2.out]
      rw [e1]
      exact ⟨rfl, O2, HD2.out, HM2.out⟩
end Go.Proofs.YtjeibckjockmeaaDoor
