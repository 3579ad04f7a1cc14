/- AcceptPure, walked. -/
import Derived.Test.YtgffamdlnacamaaDoorAccP
import Derived.Laws.BitsAllLaws
namespace Go.Proofs.YtgffamdlnacamaaDoor
open Go.RowKit

theorem u8_xor1 (a : UInt8) : bits BinOp.xor .u8 (a.toNat : Int) 1 = ((a ^^^ 1).toNat : Int) := by
  have h := u8_xor_nat a.toNat 1 (UInt8.toNat_lt a) (by omega)
  rw [show ((1 : Nat) : Int) = 1 from rfl] at h
  rw [h, UInt8.toNat_xor]
  rfl
theorem byteInfoA : (Tryd.prog.info? 5).map (fun i => (i.zero, i.size, i.bytes)) = some (some (.int .u8 0), 1, 1) := by kernel_rfl
theorem Own.bsv {E : TypeId} {w : World} {base : Nat} {A : Option Addr} {m n c : Nat} {l : List UInt8} (h : Own E w base (.slice A m c) l) (hn : n = l.length) : Bs w A n c l := by
  subst hn
  obtain ⟨A', c', e, hb, _⟩ := h.bs
  injection e with e1 e2 e3
  subst e1 e3
  exact hb
theorem Bs.strS {w : World} {A : Option Addr} {n c : Nat} {l : List UInt8} {S : ByteArray} (h : Bs w A n c l) (hS : S = txt l) : (convert 22 9 (.slice A n c)).run Tryd.prog w = .ok (.string S) w := by
  rw [hS]
  exact h.str (P := Tryd.prog) 22 5 9 Tryd.underlying22 Tryd.underlying5 Tryd.underlying9
theorem set_back {l : List UInt8} {i : Nat} {x y : UInt8} (h : l[i]? = some x) : (l.set i y).set i x = l := by
  apply List.ext_getElem?
  intro j
  by_cases hj : i = j
  · subst hj
    have := (List.getElem?_eq_some_iff.1 h).1
    rw [List.getElem?_set_self (by rw [List.length_set]; exact this), h]
  · rw [List.getElem?_set_ne hj, List.getElem?_set_ne hj]
set_option maxHeartbeats 8000000 in
set_option maxRecDepth 100000 in
theorem acceptPure_walk (A : Option Addr) (n c : Nat) (l : List UInt8) (at_ : Int) (w : World) (hv : Vers w ∧ Signs w ∧ Cds w) (hB : Bs w A n c l) (_hcp : c ≤ 140737488351232) (_hat : (Lit.int .i64 at_).wf = true) :
    Calls Tryd.prog 8 #[.slice A n c, .int .i64 at_] w (True_ w) := by
  have HV := Lib.hid (fun W (hb : Below w.heap.size w W) => hv.1.below hb)
  have HS := Lib.hid (fun W (hb : Below w.heap.size w W) => hv.2.1.below hb)
  have HC := Lib.hid (fun W (hb : Below w.heap.size w W) => hv.2.2.below hb)
  have HL := Lib.hid hB.len
  have HBS := Lib.hid hB
  have HB0 : Hid (Below w.heap.size w w) := Lib.hid (Below.refl _ _)
  clear hv hB
  by_cases h0 : n = 0
  · as_aux_lemma =>
    have hn0 : ((n : Int) == 0) = true := by simp [h0]
    go_enter Tryd.func8, Tryd.ntmps8
    go_wp2_with (fail)
    refine (alive11 w (HV.out _ HB0.out) (HS.out _ HB0.out) (HC.out _ HB0.out)).mono ?_
    rintro e w2 ⟨rfl, hbA⟩
    have HBA := Lib.hid (HB0.out.trans (hbA.mono HB0.out.size))
    clear hbA
    go_wp2_with (fail)
    go_ret
    exact ⟨rfl, HBA.out⟩
  have hn0 : ((n : Int) == 0) = false := by simp; omega
  by_cases hbig : 2000 < n
  · as_aux_lemma =>
    have d1 : decide ((2000 : Int) < (n : Int)) = true := by simp; omega
    go_enter Tryd.func8, Tryd.ntmps8
    go_wp2_with (fail)
    refine (alive11 w (HV.out _ HB0.out) (HS.out _ HB0.out) (HC.out _ HB0.out)).mono ?_
    rintro e w2 ⟨rfl, hbA⟩
    have HBA := Lib.hid (HB0.out.trans (hbA.mono HB0.out.size))
    clear hbA
    go_wp2_with (fail)
    go_ret
    exact ⟨rfl, HBA.out⟩
  have d1 : decide ((2000 : Int) < (n : Int)) = false := by simp; omega
  have HN : Hid (0 < n ∧ n ≤ 2000) := Lib.hid (by omega)
  obtain ⟨i, hin, hi⟩ := bits_index at_ n (by omega) (by omega)
  have hil : i < l.length := by rw [HL.out]; exact hin
  have HX := Lib.hid (List.getElem?_eq_getElem hil)
  have HIN := Lib.hid hin
  generalize l[i] = x at HX
  have tok1 : True := trivial
  have hun : IntKind.u64.wrap (n : Int) = (n : Int) := by simp [IntKind.wrap, IntKind.bits, IntKind.signed]; omega
  have h1 : n ≤ 2000 := by omega
  have h2 : 0 < n := by omega
  clear hbig h0 hil
  go_enter Tryd.func8, Tryd.ntmps8
  go_wp2_with (first
    | (at_builtin; have _t := tok1
       refine wpList_app rfl (.tmp 21) (.tmp 22) 22 rfl w.heap.size 5 Tryd.underlying22 byteInfoA _ [] rfl (Own.lit 5 w [] (Nat.le_refl _) (by simp [maxLen])) _ n c l rfl (HBS.out.alloc _) (by simp; have := HN.out; omega) (by simp) ?_
       intro v1 w1 hown1 hb1 hg1
       have HB1 := Lib.hid ((((Below.refl _ w).alloc (Nat.le_refl _) _)).trans hb1)
       clear hb1 hg1 tok1 _t
       rw [List.nil_append] at hown1
       obtain ⟨g, c1, hv1, hgb, hgs⟩ := hown1.form (by rw [HL.out]; exact HN.out.1)
       rw [hv1] at hown1
       rw [HL.out] at hv1
       have HGB := Lib.hid hgb
       have HGS := Lib.hid hgs
       have HO1 := Lib.hid hown1
       clear hown1 hgb hgs
       subst hv1))
  refine (reply_n (some ⟨g, 0, none⟩) n c1 l true w1 (HV.out _ HB1.out) (HS.out _ HB1.out) (HC.out _ HB1.out) (HO1.out.bsv HL.out.symm) (by have := HN.out; omega)).mono ?_
  rintro e w2 ⟨A2, m2, c2, rfl, hR2, hf2, hb2⟩
  obtain ⟨R, hR⟩ : ∃ R, R = (replyD l true).1 := ⟨_, rfl⟩
  obtain ⟨f, hf⟩ : ∃ f, f = (replyD l true).2 := ⟨_, rfl⟩
  rw [← hR] at hR2
  rw [← hf]
  obtain ⟨S, hS⟩ : ∃ S, S = txt R := ⟨_, rfl⟩
  obtain ⟨T, hT⟩ : ∃ T, T = txt l := ⟨_, rfl⟩
  have hcv := hR2.strS hS
  have HR := Lib.hid hR
  have HF := Lib.hid hf
  have HSS := Lib.hid hS
  have HTT := Lib.hid hT
  have HO2 := Lib.hid (HO1.out.below hb2)
  have HX2 := Lib.hid hR2
  have HF2 : Hid (∀ b, A2 = some b → g < b.block) := Lib.hid (fun b h => Nat.lt_of_lt_of_le HGS.out (hf2 b h))
  have HB2 := Lib.hid (HB1.out.trans (hb2.mono HB1.out.size))
  have HG2 : Hid (g < w2.heap.size) := Lib.hid (Nat.lt_of_lt_of_le HGS.out hb2.size)
  clear hR hf hS hT hR2 hf2 hb2 HO1 HB1 HGS
  have hcell := HO2.out.cell HX.out
  have hfz := HO2.out.frozen i
  obtain ⟨y, hy⟩ : ∃ y, y = x ^^^ 1 := ⟨_, rfl⟩
  have e0 := u8_xor1 x
  rw [← hy] at e0
  have e1 := u8_xor1 y
  rw [show y ^^^ 1 = x by rw [hy, UInt8.xor_assoc, UInt8.xor_self, UInt8.xor_zero]] at e1
  have E1 := Lib.hid e1
  have e3 : (i : Int) < (n : Int) := by omega
  clear hy e1
  go_wp2_with (fail)
  clear hcell hfz hcv e0
  have HB3 : Hid (Below w.heap.size w (w2.setCell ⟨g, i, none⟩ (.int .u8 (y.toNat : Int)))) := Lib.hid (HB2.out.setCell (p := ⟨g, i, none⟩) HGB.out _)
  have HO3 : Hid (Own 5 (w2.setCell ⟨g, i, none⟩ (.int .u8 (y.toNat : Int))) w.heap.size (.slice (some ⟨g, 0, none⟩) (l.set i y).length c1) (l.set i y)) := Lib.hid (by
    have t := HO2.out.store i y
    rw [List.length_set]
    exact t)
  have HX3 : Hid (Bs (w2.setCell ⟨g, i, none⟩ (.int .u8 (y.toNat : Int))) A2 m2 c2 R) := Lib.hid (HX2.out.ch ((Ch.refl (fun j => j = g) w2).set (a := ⟨g, i, none⟩) rfl _) (fun _ b hb he => by have := HF2.out b hb; omega))
  have HG3 : Hid (g < (w2.setCell ⟨g, i, none⟩ (.int .u8 (y.toNat : Int))).heap.size) := Lib.hid (by rw [World.size_setCell]; exact HG2.out)
  generalize w2.setCell ⟨g, i, none⟩ (.int .u8 (y.toNat : Int)) = w3 at HB3 HO3 HX3 HG3 ⊢
  clear HB2 HO2 HX2 HG2
  refine (reply_n (some ⟨g, 0, none⟩) n c1 (l.set i y) false w3 (HV.out _ HB3.out) (HS.out _ HB3.out) (HC.out _ HB3.out) (HO3.out.bsv (by rw [List.length_set]; exact HL.out.symm)) (by have := HN.out; omega)).mono ?_
  rintro e w4 ⟨A4, m4, c4, rfl, _, _, hb4⟩
  obtain ⟨f4, hf4⟩ : ∃ f, f = (replyD (l.set i y) false).2 := ⟨_, rfl⟩
  rw [← hf4]
  clear hf4
  have HO4 := Lib.hid (HO3.out.below hb4)
  have HX4 := Lib.hid (HX3.out.below hb4)
  have HB4 := Lib.hid (HB3.out.trans (hb4.mono HB3.out.size))
  have HG4 : Hid (g < w4.heap.size) := Lib.hid (Nat.lt_of_lt_of_le HG3.out hb4.size)
  clear hb4 HB3 HO3 HX3 HG3
  have hcell := HO4.out.cell (j := i) (x := y) (List.getElem?_set_self (List.getElem?_eq_some_iff.1 HX.out).1)
  have hfz := HO4.out.frozen i
  have e1 := E1.out
  go_wp2_with (fail)
  clear hcell hfz e1
  have HB5 : Hid (Below w.heap.size w (w4.setCell ⟨g, i, none⟩ (.int .u8 (x.toNat : Int)))) := Lib.hid (HB4.out.setCell (p := ⟨g, i, none⟩) HGB.out _)
  have HO5 : Hid (Own 5 (w4.setCell ⟨g, i, none⟩ (.int .u8 (x.toNat : Int))) w.heap.size (.slice (some ⟨g, 0, none⟩) n c1) l) := Lib.hid (by
    have t := HO4.out.store i x
    rw [set_back HX.out, List.length_set, HL.out] at t
    exact t)
  have HX5 : Hid (Bs (w4.setCell ⟨g, i, none⟩ (.int .u8 (x.toNat : Int))) A2 m2 c2 R) := Lib.hid (HX4.out.ch ((Ch.refl (fun j => j = g) w4).set (a := ⟨g, i, none⟩) rfl _) (fun _ b hb he => by have := HF2.out b hb; omega))
  generalize w4.setCell ⟨g, i, none⟩ (.int .u8 (x.toNat : Int)) = w5 at HB5 HO5 HX5 ⊢
  clear HB4 HO4 HX4 HG4 HF2
  refine (reply_n (some ⟨g, 0, none⟩) n c1 l true w5 (HV.out _ HB5.out) (HS.out _ HB5.out) (HC.out _ HB5.out) (HO5.out.bsv HL.out.symm) (by have := HN.out; omega)).mono ?_
  rintro e w6 ⟨A6, m6, c6, rfl, hR6, _, hb6⟩
  rw [← HR.out] at hR6
  rw [← HF.out]
  have HO6 := Lib.hid ((HO5.out.bsv HL.out.symm).below hb6)
  have HX6 := Lib.hid (HX5.out.below hb6)
  have HY6 := Lib.hid hR6
  have HB6 := Lib.hid (HB5.out.trans (hb6.mono HB5.out.size))
  clear hb6 hR6 HB5 HO5 HX5
  go_wp2_with (fail)
  refine (alive11 w6 (HV.out _ HB6.out) (HS.out _ HB6.out) (HC.out _ HB6.out)).mono ?_
  rintro e w7 ⟨rfl, hb7⟩
  have HB7 := Lib.hid (HB6.out.trans (hb7.mono HB6.out.size))
  have k1 := (HY6.out.below hb7).strS HSS.out
  have k2 := (HX6.out.below hb7).strS HSS.out
  have k3 := (HO6.out.below hb7).strS HTT.out
  have k4 := (HBS.out.below HB7.out).strS HTT.out
  clear hb7
  go_wp2_with (fail)
  go_ret
  exact ⟨rfl, HB7.out⟩
end Go.Proofs.YtgffamdlnacamaaDoor
