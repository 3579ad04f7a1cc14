/- DelimBack, walked. -/
import Derived.Test.YtkniednjchnncabDelimAlive
import Derived.Test.YtkniednjchnncabDelimWrite
import Derived.Test.YtkniednjchnncabConv
import Derived.Deep.CutRange
import Derived.Deep.DeepCutAuto
namespace Go.Proofs.Ytkniednjchnncab
open Go.RowKit

theorem read_back {s : Sgn} (h : s.good = true) (x : UInt8) (l : List UInt8) (hx : x = s.a ∨ x = 13) : readD ([77, 83, 72] ++ s.l ++ x :: l) = (s, 0) := by
  obtain ⟨a, b, c, d, e⟩ := s
  unfold readD
  have hof : Sgn.of ([77, 83, 72] ++ (Sgn.mk a b c d e).l ++ x :: l) = Sgn.mk a b c d e := rfl
  rw [hof, if_neg (by simp [Sgn.l]), if_neg (by simp [Sgn.l, h]), if_neg (by rcases hx with h | h <;> simp [Sgn.l, h])]
theorem read_no {s : Sgn} (h : s.good = true) (x : UInt8) (l : List UInt8) (h1 : x ≠ s.a) (h2 : x ≠ 13) : readD ([77, 83, 72] ++ s.l ++ x :: l) = (⟨0, 0, 0, 0, 0⟩, 11) := by
  obtain ⟨a, b, c, d, e⟩ := s
  unfold readD
  have hof : Sgn.of ([77, 83, 72] ++ (Sgn.mk a b c d e).l ++ x :: l) = Sgn.mk a b c d e := rfl
  have h1' : x ≠ a := h1
  rw [hof, if_neg (by simp [Sgn.l]), if_neg (by simp [Sgn.l, h]), if_pos (by simp [Sgn.l, h1', h2])]
  rfl
theorem read_E {s : Sgn} (h : s.good = true) (x : UInt8) : ∃ R E, readD ([77, 83, 72] ++ s.l ++ [x]) = (R, E) ∧ ((E = 0 ∧ (x = s.a ∨ x = 13)) ∨ (E = 11 ∧ x ≠ s.a ∧ x ≠ 13)) := by
  by_cases h1 : x = s.a
  · exact ⟨_, _, read_back h x [] (.inl h1), .inl ⟨rfl, .inl h1⟩⟩
  · by_cases h2 : x = 13
    · exact ⟨_, _, read_back h x [] (.inr h2), .inl ⟨rfl, .inr h2⟩⟩
    · exact ⟨_, _, read_no h x [] h1 h2, .inr ⟨rfl, h1, h2⟩⟩
theorem read_short (s : Sgn) : readD ([77, 83, 72] ++ s.l) = (⟨0, 0, 0, 0, 0⟩, 7) := by
  unfold readD
  rw [if_pos (by simp [Sgn.l])]
  rfl
theorem delims_self (s : Sgn) (w : World) : (binOp .eql 24 s.v s.v).run Try.prog w = .ok (.bool true) w := by
  rw [run_eql_struct, run_equalIn_agg (ht := by kernel_rfl) (hp := by kernel_rfl)]
  simp [Op.eqFields, Program.fieldsOf, Try.underlying24, part, go_sem]
abbrev dobj (s : Sgn) : Obj := .cells #[.int .u8 (s.a.toNat : Int), .int .u8 (s.b.toNat : Int), .int .u8 (s.c.toNat : Int), .int .u8 (s.d.toNat : Int), .int .u8 (s.e.toNat : Int)] 24

set_option maxHeartbeats 1000000 in
set_option maxRecDepth 100000 in
theorem delimBack_walk (s : Sgn) (c : Int) (A : Option Addr) (n k : Nat) (l : List UInt8) (w : World) (wf : (Lit.int .u8 c).wf = true) (hB : Bs w A n k l) (_hR : k ≤ 140737488351232) : Calls Try.prog 4 #[s.v, .int .u8 c, .slice A n k] w (True_ w) := by
  obtain ⟨x, rfl⟩ := u8_of c wf
  clear wf
  have hmax := hB.nmax
  have HB := Lib.hid hB
  clear hB
  go_enter Try.func4, Try.ntmps4
  go_wp2_with (fail)
  refine (delimWrite s _).mono ?_
  rintro e w1 ⟨rfl, hb1⟩
  have hb1' := ((Below.refl _ w).alloc (Nat.le_refl _) (dobj s)).trans (hb1.mono (by simp))
  have HH1 : Hid (Held w1 [(w.heap.size, dobj s)]) := Lib.hid ((Held.alloc (W := w) (r := []) trivial (dobj s)).below hb1)
  have HB1 : Hid (Below w.heap.size w w1) := Lib.hid hb1'
  have HS1 := Lib.hid (HB.out.below hb1')
  obtain ⟨G0, hG⟩ : ∃ G, G = w.heap.size := ⟨_, rfl⟩
  have HB1' : Hid (Below w.heap.size w w1) := Lib.hid HB1.out
  clear HB1 hb1 hb1' HB
  rw [← hG] at HH1 ⊢
  clear hG
  cases hgd : s.good
  · have HW : Hid (writeD s = ([], 11)) := Lib.hid (by simp [writeD, hgd])
    rw [HW.out]
    go_wp2_with (fail)
    refine (delimAlive w1).mono ?_
    rintro e w2 ⟨rfl, hb2⟩
    go_wp2_with (fail)
    go_ret
    exact ⟨rfl, HB1'.out.trans (hb2.mono HB1'.out.size)⟩
  · obtain ⟨sl, hsl⟩ : ∃ y, y = [77, 83, 72] ++ s.l := ⟨_, rfl⟩
    have HSL := Lib.hid hsl
    have h8 : sl.length = 8 := by rw [hsl]; rfl
    have HW : Hid (writeD s = (sl, 0)) := Lib.hid (by simp [writeD, hgd, hsl])
    rw [HW.out]
    clear HW hsl
    by_cases hlong : (1000 : Int) < (n : Int)
    · go_wp2_with (fail)
      refine (delimAlive w1).mono ?_
      rintro e w2 ⟨rfl, hb2⟩
      go_wp2_with (fail)
      go_ret
      exact ⟨rfl, HB1'.out.trans (hb2.mono HB1'.out.size)⟩
    · have HG := Lib.hid hgd
      clear hgd
      have hd := HH1.out.1
      have q0 := cell_of_row w1 G0 0 _ _ _ hd
      simp only [List.getElem?_toArray, List.getElem?_cons_zero] at q0
      clear hd
      go_wp2_with (fail)
      have hcv : (convert 22 9 (.slice (some ⟨w1.heap.size, 0, none⟩) 1 1)).run Try.prog (w1.alloc (.cells #[.int .u8 (s.a.toNat : Int)] 5)) = .ok (.string (txt [s.a])) (w1.alloc (.cells #[.int .u8 (s.a.toNat : Int)] 5)) :=
        (Bs.lit w1 [s.a] 5 _ _ rfl rfl rfl (by simp [maxLen])).str (P := Try.prog) 22 5 9 Try.underlying22 Try.underlying5 Try.underlying9
      rw [hcv]
      clear hcv q0
      have HH2 : Hid (Held (w1.alloc (.cells #[.int .u8 (s.a.toNat : Int)] 5)) [(G0, dobj s)]) := Lib.hid (HH1.out.below ((Below.refl _ _).alloc (Nat.le_refl _) _))
      have HB2 : Hid (Below w.heap.size w (w1.alloc (.cells #[.int .u8 (s.a.toNat : Int)] 5))) := Lib.hid (HB1'.out.alloc HB1'.out.size _)
      have HS2 := Lib.hid (HS1.out.alloc (.cells #[.int .u8 (s.a.toNat : Int)] 5))
      clear HH1 HB1' HS1
      generalize w1.alloc (.cells #[.int .u8 (s.a.toNat : Int)] 5) = w2 at *
      generalize w1.heap.size = g1
      go_wp2_with (fail)
      rw [txt_app]
      obtain ⟨cap3, w3, hrun3, hC3, hb3⟩ := conv_list (P := Try.prog) w2 9 22 5 (sl ++ [s.a]) 9 Try.underlying9 Try.underlying22 Try.underlying5 (by simp [h8]) (by simp [maxLen])
      rw [hrun3]
      have HC3 := Lib.hid hC3
      have HS3 := Lib.hid (HS2.out.below hb3)
      have Hb3 := Lib.hid hb3
      clear hrun3 hC3 hb3
      have tok1 : Hid True := Lib.hid trivial
      go_wp2_with (at_builtin; have _t := tok1; go_loud ((refine wpList_appC rfl (.tmp 37) (.tmp 38) 22 rfl 5 Try.underlying22 byteInfo rfl HC3.out rfl HS3.out (Hb3.out.size) (by omega) ?_; intro B4 c4 w4 hB4 hb4; have HB4 := Lib.hid hB4; have Hb4 := Lib.hid (Hb3.out.trans hb4); clear tok1 hB4 hb4 _t)))
      refine (delimRead _ _ _ _ w4 HB4.out).mono ?_
      rw [show readD (sl ++ [s.a] ++ l) = (s, 0) from by rw [HSL.out, List.append_assoc]; exact read_back HG.out s.a l (.inl rfl)]
      rintro e w5 ⟨rfl, hb5⟩
      have b25 := Hb4.out.trans (hb5.mono Hb4.out.size)
      have HH5 := Lib.hid (HH2.out.below b25)
      have HB5 : Hid (Below w.heap.size w w5) := Lib.hid (HB2.out.trans (b25.mono HB2.out.size))
      clear b25 hb5 HB4 Hb4 HC3 HS3 Hb3 HH2 HB2 HS2
      go_wp2_with (fail)
      have HHw6 : Hid (Held (w5.alloc (dobj s)) ((w5.heap.size, dobj s) :: [(G0, dobj s)])) := Lib.hid (HH5.out.alloc (dobj s))
      have HBw6 : Hid (Below w.heap.size w (w5.alloc (dobj s))) := Lib.hid (HB5.out.alloc HB5.out.size _)
      obtain ⟨G5, hG5⟩ : ∃ y, y = w5.heap.size := ⟨_, rfl⟩
      rw [← hG5] at HHw6 ⊢
      clear hG5
      generalize w5.alloc (dobj s) = w6 at *
      rw [show (ByteArray.mk #[13]) = txt [13] from rfl, txt_app]
      obtain ⟨cap7, w7, hrun7, hC7, hb7⟩ := conv_list (P := Try.prog) w6 9 22 5 (sl ++ [13]) 9 Try.underlying9 Try.underlying22 Try.underlying5 (by simp [h8]) (by simp [maxLen])
      rw [hrun7]
      have HC7 := Lib.hid hC7
      have Hb7 := Lib.hid hb7
      clear hrun7 hC7 hb7
      go_wp2_with (fail)
      refine (delimRead _ _ _ _ w7 HC7.out.bs).mono ?_
      rw [show readD (sl ++ [13]) = (s, 0) from by rw [HSL.out]; exact read_back HG.out 13 [] (.inr rfl)]
      rintro e w8 ⟨rfl, hb8⟩
      have b68 := Hb7.out.trans (hb8.mono Hb7.out.size)
      have HH8 := Lib.hid (HHw6.out.below b68)
      have HB8 : Hid (Below w.heap.size w w8) := Lib.hid (HBw6.out.trans (b68.mono HBw6.out.size))
      clear b68 hb8 HC7 Hb7 HHw6 HBw6
      go_wp2_with (fail)
      have HHw9 : Hid (Held (w8.alloc (dobj s)) ((w8.heap.size, dobj s) :: [(G5, dobj s), (G0, dobj s)])) := Lib.hid (HH8.out.alloc (dobj s))
      have HBw9 : Hid (Below w.heap.size w (w8.alloc (dobj s))) := Lib.hid (HB8.out.alloc HB8.out.size _)
      obtain ⟨G8, hG8⟩ : ∃ y, y = w8.heap.size := ⟨_, rfl⟩
      rw [← hG8] at HHw9 ⊢
      clear hG8
      generalize w8.alloc (dobj s) = w9 at *
      obtain ⟨cap10, w10, hrun10, hC10, hb10⟩ := conv_list (P := Try.prog) w9 9 22 5 sl 8 Try.underlying9 Try.underlying22 Try.underlying5 h8 (by simp [maxLen])
      rw [hrun10]
      have HC10 := Lib.hid hC10
      have Hb10 := Lib.hid hb10
      clear hrun10 hC10 hb10
      have tok2 : Hid True := Lib.hid trivial
      go_wp2_with (at_builtin; have _t := tok2; go_loud ((refine wpList_appC rfl (.tmp 52) (.tmp 54) 22 rfl 5 Try.underlying22 byteInfo rfl (HC10.out.below ((Below.refl _ _).alloc (Nat.le_refl _) _)) rfl (Bs.lit w10 [x] 5 _ _ rfl rfl rfl (by simp [maxLen])) (by have := Hb10.out.size; simp; omega) (by simp) ?_; intro B12 c12 w12 hB12 hb12; have HB12 := Lib.hid hB12; have Hb12 := Lib.hid ((Hb10.out.alloc Hb10.out.size _).trans hb12); clear tok2 hB12 hb12 _t)))
      obtain ⟨R, E, hRE, hE⟩ := read_E HG.out x
      rw [← HSL.out] at hRE
      have HE := Lib.hid hE
      clear hE
      refine (delimRead _ _ _ _ w12 HB12.out).mono ?_
      rw [hRE]
      clear hRE
      rintro e w13 ⟨rfl, hb13⟩
      have b913 := Hb12.out.trans (hb13.mono Hb12.out.size)
      have HH13 := Lib.hid (HHw9.out.below b913)
      have HB13 : Hid (Below w.heap.size w w13) := Lib.hid (HBw9.out.trans (b913.mono HBw9.out.size))
      clear b913 hb13 HB12 Hb12 HC10 Hb10 HHw9 HBw9
      go_wp2_with (fail)
      have HHw14 : Hid (Held (w13.alloc (dobj R)) ((w13.heap.size, dobj R) :: [(G8, dobj s), (G5, dobj s), (G0, dobj s)])) := Lib.hid (HH13.out.alloc (dobj R))
      have HBw14 : Hid (Below w.heap.size w (w13.alloc (dobj R))) := Lib.hid (HB13.out.alloc HB13.out.size _)
      obtain ⟨G13, hG13⟩ : ∃ y, y = w13.heap.size := ⟨_, rfl⟩
      rw [← hG13] at HHw14 ⊢
      clear hG13
      generalize w13.alloc (dobj R) = w14 at *
      obtain ⟨cap15, w15, hrun15, hC15, hb15⟩ := conv_list (P := Try.prog) w14 9 22 5 sl 8 Try.underlying9 Try.underlying22 Try.underlying5 h8 (by simp [maxLen])
      rw [hrun15]
      have HC15 := Lib.hid hC15
      have Hb15 := Lib.hid hb15
      clear hrun15 hC15 hb15
      go_wp2_with (fail)
      refine (delimRead _ _ _ _ w15 HC15.out.bs).mono ?_
      rw [show readD sl = (⟨0, 0, 0, 0, 0⟩, 7) from by rw [HSL.out]; exact read_short s]
      rintro e w16 ⟨rfl, hb16⟩
      have b1416 := Hb15.out.trans (hb16.mono Hb15.out.size)
      have HH16 := Lib.hid (HHw14.out.below b1416)
      have HB16 : Hid (Below w.heap.size w w16) := Lib.hid (HBw14.out.trans (b1416.mono HBw14.out.size))
      clear b1416 hb16 HC15 Hb15 HHw14 HBw14
      go_wp2_with (fail)
      have hb17 := (Below.refl w16.heap.size w16).alloc (Nat.le_refl _) (dobj ⟨0, 0, 0, 0, 0⟩)
      have HH17 : Hid (Held (w16.alloc (dobj ⟨0, 0, 0, 0, 0⟩)) [(G13, dobj R), (G8, dobj s), (G5, dobj s), (G0, dobj s)]) := Lib.hid (HH16.out.below hb17)
      have HB17 : Hid (Below w.heap.size w (w16.alloc (dobj ⟨0, 0, 0, 0, 0⟩))) := Lib.hid (HB16.out.trans (hb17.mono HB16.out.size))
      clear hb17 HH16 HB16
      refine (delimAlive _).mono ?_
      rintro e w18 ⟨rfl, hb18⟩
      have HH18 := Lib.hid (HH17.out.below hb18)
      have HB18 : Hid (Below w.heap.size w w18) := Lib.hid (HB17.out.trans (hb18.mono HB17.out.size))
      clear hb18 HH17 HB17
      have p0 := cell_of_row w18 G0 0 _ _ _ HH18.out.2.2.2.1
      have p1 := cell_of_row w18 G0 1 _ _ _ HH18.out.2.2.2.1
      have p2 := cell_of_row w18 G0 2 _ _ _ HH18.out.2.2.2.1
      have p3 := cell_of_row w18 G0 3 _ _ _ HH18.out.2.2.2.1
      have p4 := cell_of_row w18 G0 4 _ _ _ HH18.out.2.2.2.1
      simp only [List.getElem?_toArray, List.getElem?_cons_zero, List.getElem?_cons_succ] at p0 p1 p2 p3 p4
      have q0 := cell_of_row w18 G5 0 _ _ _ HH18.out.2.2.1
      have q1 := cell_of_row w18 G5 1 _ _ _ HH18.out.2.2.1
      have q2 := cell_of_row w18 G5 2 _ _ _ HH18.out.2.2.1
      have q3 := cell_of_row w18 G5 3 _ _ _ HH18.out.2.2.1
      have q4 := cell_of_row w18 G5 4 _ _ _ HH18.out.2.2.1
      simp only [List.getElem?_toArray, List.getElem?_cons_zero, List.getElem?_cons_succ] at q0 q1 q2 q3 q4
      have r0 := cell_of_row w18 G8 0 _ _ _ HH18.out.2.1
      have r1 := cell_of_row w18 G8 1 _ _ _ HH18.out.2.1
      have r2 := cell_of_row w18 G8 2 _ _ _ HH18.out.2.1
      have r3 := cell_of_row w18 G8 3 _ _ _ HH18.out.2.1
      have r4 := cell_of_row w18 G8 4 _ _ _ HH18.out.2.1
      simp only [List.getElem?_toArray, List.getElem?_cons_zero, List.getElem?_cons_succ] at r0 r1 r2 r3 r4
      have heq := fun w => delims_self s w
      have h8' : (txt sl).size = 8 := by rw [txt_size, h8]
      rcases HE.out with ⟨rfl, hx⟩ | ⟨rfl, h1, h2⟩
      · by_cases h1 : x = s.a
        · have d1 : ((x.toNat : Int) == (s.a.toNat : Int)) = true := by rw [h1]; exact beq_self_eq_true _
          clear h1 hx HE
          go_wp2_with (fail)
          go_ret
          exact ⟨rfl, HB18.out⟩
        · have h2 : x = 13 := hx.resolve_left h1
          have d1 : ((x.toNat : Int) == (s.a.toNat : Int)) = false := by rw [beq_eq_false_iff_ne]; exact fun h => h1 (UInt8.toNat_inj.1 (by omega))
          have d3 : ((x.toNat : Int) == 13) = true := by rw [h2]; decide
          clear h1 h2 hx HE
          go_wp2_with (fail)
          go_ret
          exact ⟨rfl, HB18.out⟩
      · have d1 : ((x.toNat : Int) == (s.a.toNat : Int)) = false := by rw [beq_eq_false_iff_ne]; exact fun h => h1 (UInt8.toNat_inj.1 (by omega))
        have d3 : ((x.toNat : Int) == 13) = false := by rw [beq_eq_false_iff_ne]; exact fun h => h2 (UInt8.toNat_inj.1 (by show _ = 13; omega))
        clear h1 h2 HE
        go_wp2_with (fail)
        go_ret
        exact ⟨rfl, HB18.out⟩
end Go.Proofs.Ytkniednjchnncab
