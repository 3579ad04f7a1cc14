/- Layer 19: an event read, walked. -/
import Derived.Test.YtnoppnnpennddaaDoorTr4
import Derived.Test.YtnoppnnpennddaaDoorTr3a
import Derived.Test.YtnoppnnpennddaaDoorTr3b
import Derived.Test.YtnoppnnpennddaaDoorTr3c
import Derived.WalkMore
namespace Go.Proofs.YtnoppnnpennddaaDoor
open Go.RowKit

abbrev nilE : Value := .slice none 0 0
theorem Bs.ev4 {w : World} {A : Option Addr} {n c : Nat} {l : List UInt8} (h : Bs w A n c l) {g : Nat} (hz : w.heap[g]? = some (.cells (evC 0 0 0 nilE) TE)) (a b d e : Value) : Bs ((((w.setCell ⟨g, 0, none⟩ a).setCell ⟨g, 1, none⟩ b).setCell ⟨g, 2, none⟩ d).setCell ⟨g, 3, none⟩ e) A n c l := by
  by_cases hn : n = 0
  · subst hn
    obtain rfl := h.empty
    exact Bs.nil _ c A h.2.2.1
  · obtain ⟨b0, o0, rfl, _, hc⟩ := h.at_ (by omega)
    have hne : b0 ≠ g := by
      rintro rfl
      have hl := h.len
      have h0 := hc 0 _ (List.getElem?_eq_getElem (by omega))
      rw [cell_of_row w b0 _ _ _ _ hz, Nat.add_zero] at h0
      match o0, h0 with
      | 0, h0 => simp at h0
      | 1, h0 => simp at h0
      | 2, h0 => simp at h0
      | 3, h0 => simp at h0
      | o + 4, h0 => simp at h0
    have hne2 : ∀ b, (some (⟨b0, o0, none⟩ : Addr)) = some b → b.block ≠ g := by
      intro b hb
      injection hb with hb
      rw [← hb]
      exact hne
    exact (((h.setOther hne2 0 a).setOther hne2 1 b).setOther hne2 2 d).setOther hne2 3 e
theorem strNe {a b : List UInt8} (h : a ≠ b) : ((txt a).toList == (txt b).toList) = false := by
  rw [Go.ByteArray.toList_eq, Go.ByteArray.toList_eq, beq_eq_false_iff_ne]
  simpa using h
/-- what a call gives that answers an event, and an error's number -/
def RetRd (r : Option (Int × Int × Int × List UInt8)) (w : World) (e : Ending) (w' : World) : Prop :=
  (r = none ∧ e = .returned (.tuple #[evV 0 0 0 nilE, .int .i64 10]) ∧ Below w.heap.size w w') ∨
  ∃ k n kp l A m c, r = some (k, n, kp, l) ∧ e = .returned (.tuple #[evV k n kp (.slice A m c), .int .i64 0]) ∧ Bs w' A m c l ∧ (∀ x, A = some x → w.heap.size ≤ x.block) ∧ Below w.heap.size w w'

set_option maxHeartbeats 16000000 in
set_option maxRecDepth 100000 in
theorem read_ (s : ByteArray) (w : World) (hs : s.size ≤ 100000000) (hm : MaxLen w) (hr : TRows w) : Calls Tryd.prog 13 #[.string s] w (RetRd (readW (wordsN s.data.toList)) w) := by
  have HM := Lib.hid (fun W (hb : Below w.heap.size w W) => hm.below hb)
  have HR := Lib.hid (fun W (hb : Below w.heap.size w W) => hr.below hb)
  have HZ0 : Hid ((w.alloc (.cells (evC 0 0 0 nilE) TE)).heap[w.heap.size]? = some (.cells (evC 0 0 0 nilE) TE)) := Lib.hid (heap_alloc_new w _)
  have HB0 : Hid (Below w.heap.size w (w.alloc (.cells (evC 0 0 0 nilE) TE))) := Lib.hid ((Below.refl _ w).alloc (Nat.le_refl _) _)
  clear hm hr
  obtain ⟨T, hT⟩ : ∃ T, T = wordsN s.data.toList := ⟨_, rfl⟩
  rw [← hT]
  have HT := Lib.hid hT
  clear hT
  go_enter Tryd.func13, Tryd.ntmps13
  go_wp2_with (fail)
  generalize w.alloc (.cells (evC 0 0 0 nilE) TE) = w0 at *
  go_step3
  go_wp2_with (fail)
  refine (splitN_ s w0 hs (HM.out _ HB0.out)).mono ?_
  rintro e w1 ⟨A, m, c, rfl, hS, hb⟩
  have hlt0 := (Array.getElem?_eq_some_iff.1 HZ0.out).1
  have HZ1 := Lib.hid ((hb.block _ hlt0).trans HZ0.out)
  have HB1 := Lib.hid (HB0.out.trans (hb.mono HB0.out.size))
  have HS := Lib.hid hS
  have HGL : Hid (w.heap.size < w1.heap.size) := Lib.hid (Nat.lt_of_lt_of_le hlt0 hb.size)
  have HPL : Hid (∀ x ∈ wordsN s.data.toList, x.length ≤ 100000000) := Lib.hid (fun x hx => Nat.le_trans (wordsN_parts _ x hx) (by simpa using hs))
  clear hb hS HZ0 HB0 hlt0 hs
  rw [← HT.out] at HS HPL
  have hr1 := HR.out _ HB1.out
  obtain ⟨tr, fr, hrow⟩ := hr1
  have HROW := Lib.hid hrow
  clear hrow
  go_wp2_with (fail)
  go_step3
  go_wp2_with (with_reducible refine wpList_load_row (by kernel_rfl) 59 (.global 0) (by kernel_rfl) 0 (by kernel_rfl) tr rowsA fr _ HROW.out Tryd.underlying59 (by kernel_rfl) (by kernel_rfl) ?_)
  clear HROW
  obtain ⟨G, hG⟩ : ∃ G, G = w.heap.size := ⟨_, rfl⟩
  have HG := Lib.hid hG
  rw [← hG] at HZ1 HGL ⊢
  clear hG
  go_loopw [15, 5, 6, 7, 9, 10, 11] (fun i _ _ _ _ _ _ wr => ∃ k : Nat, k ≤ 9 ∧ i = .int .i64 k ∧ (∀ j, j < k → matchK T j = false) ∧ Below w1.heap.size w1 wr) (fun i _ _ _ _ _ _ _ => 9 - (intOf i).toNat)
  case atStart => exact ⟨0, by omega, rfl, fun j h => absurd h (by omega), Below.refl _ _⟩
  case round =>
    obtain ⟨wo, rfl⟩ : ∃ wo : World, wo = wr := ⟨_, rfl⟩
    obtain ⟨k, hk, rfl, hno, hb⟩ := hrel
    have HN := Lib.hid hno
    have HB := Lib.hid hb
    have HZ := Lib.hid ((hb.block _ HGL.out).trans HZ1.out)
    clear hno hb
    by_cases hlt : k < 9
    · match k, hlt with
      | 0, _ =>
        as_aux_lemma =>
        rw [show ((0 : Nat) : Int) = 0 from rfl]
        have i0 : ∀ W, (Instr.index 59 (.agg rowsA) (.int .i64 0)).run Tryd.prog W = .ok (rowV ⟨#[105, 110]⟩ true false false) W := fun _ => by kernel_rfl
        clear hlt hk
        have hbA : Below w1.heap.size w1 (wo.alloc (.cells #[.string ⟨#[105, 110]⟩, .bool true, .bool false, .bool false] 58)) := HB.out.alloc HB.out.size _
        have HXB : Hid ((wo.alloc (.cells #[.string ⟨#[105, 110]⟩, .bool true, .bool false, .bool false] 58)).heap[wo.heap.size]? = some (.cells #[.string ⟨#[105, 110]⟩, .bool true, .bool false, .bool false] 58)) := Lib.hid (heap_alloc_new wo _)
        have HBA := Lib.hid hbA
        clear hbA
        go_wp2_with (fail)
        clear i0
        obtain ⟨gb, hgb⟩ : ∃ g, g = wo.heap.size := ⟨_, rfl⟩
        rw [← hgb] at HXB ⊢
        clear hgb
        generalize wo.alloc (.cells #[.string ⟨#[105, 110]⟩, .bool true, .bool false, .bool false] 58) = w2 at *
        refine (split_ ⟨#[105, 110]⟩ [[105, 110]] (by rfl) w2 (by decide) (HM.out _ (HB1.out.trans (HBA.out.mono HB1.out.size)))).mono ?_
        rintro e w3' ⟨rfl, rfl⟩
        have HCW : Hid ((w2.alloc (.cells (([[105, 110]] : List (List UInt8)).map str).toArray 9)).heap[w2.heap.size]? = some (.cells (([[105, 110]] : List (List UInt8)).map str).toArray 9)) := Lib.hid (heap_alloc_new w2 _)
        have HX3 := Lib.hid (heap_keep HXB.out (.cells (([[105, 110]] : List (List UInt8)).map str).toArray 9))
        have HB3 : Hid (Below w1.heap.size w1 (w2.alloc (.cells (([[105, 110]] : List (List UInt8)).map str).toArray 9))) := Lib.hid (HBA.out.alloc HBA.out.size _)
        generalize hw3 : w2.alloc (.cells (([[105, 110]] : List (List UInt8)).map str).toArray 9) = w3 at *
        clear hw3
        obtain ⟨gw, hgw⟩ : ∃ g, g = w2.heap.size := ⟨_, rfl⟩
        rw [← hgw] at HCW ⊢
        clear hgw
        simp only [List.length_cons, List.length_nil]
        have HZ3 := Lib.hid ((HB3.out.block _ HGL.out).trans HZ1.out)
        have HS3 := Lib.hid (HS.out.below HB3.out)
        clear HBA HXB HZ HB
        have cw0 : w3.cell? ⟨gw, 0, none⟩ = some (str [105, 110]) := cell_of_row w3 gw 0 _ _ _ HCW.out
        go_wp2_with (fail)
        go_loopw [24, 7, 9] (fun i f _ wr2 => ∃ (j : Nat) (F : List (List UInt8)) (A' : Option Addr) (m' c' : Nat), j ≤ 1 ∧ i = .int .i64 j ∧ f = .slice A' m' c' ∧ Ss w3 A' m' c' F ∧ T = (rowW 0).take j ++ F ∧ wr2 = w3) (fun i _ _ _ => 1 - (intOf i).toNat)
        case atStart => exact ⟨0, T, A, m, c, by omega, rfl, rfl, HS3.out, rfl, rfl⟩
        case round =>
          obtain ⟨j, F, A', m', c', hj, rfl, rfl, hS', hTF, hwr⟩ := hrel
          obtain rfl := hwr.symm
          have HF := Lib.hid hTF
          have HS' := Lib.hid hS'
          have hl' := hS'.len
          have hle' := hS'.le
          have hmx' := hS'.max
          clear hTF hS'
          by_cases hlt : j < 1
          · match j, hlt with
            | 0, _ =>
              as_aux_lemma =>
              rw [show ((0 : Nat) : Int) = 0 from rfl]
              clear hlt hj
              rcases hFc : F with _ | ⟨x, F'⟩
              · rw [hFc] at hl' HF
                obtain rfl : m' = 0 := hl'.symm
                have HNO : Hid (matchK T 0 = false) := Lib.hid (match_no (j := 0) HF.out (by decide) (by simp))
                clear hFc HF hl'
                go_wp2_with (fail)
                exact ⟨⟨1, by omega, rfl, fun q hq => (Nat.lt_or_ge q 0).elim (HN.out q) (fun h => (show q = 0 by omega) ▸ HNO.out), HB3.out⟩, by simp [intOf]⟩
              · rw [hFc] at hl' HF HS'
                simp only [List.length_cons] at hl'
                obtain ⟨b, o, rfl, _, hc⟩ := HS'.out.at_ (by omega)
                have hx := hc 0 x rfl
                rw [Nat.add_zero] at hx
                have hm0 : 0 < m' := by omega
                have hmc : (m' : Int) ≤ (c' : Int) := by omega
                have hm1 : (1 : Int) ≤ (m' : Int) := by omega
                clear hc hFc
                by_cases hxe : x = [105, 110]
                · have HF2 : Hid (T = (rowW 0).take 1 ++ F') := Lib.hid (by rw [HF.out, hxe]; rfl)
                  have HT2 := Lib.hid HS'.out.tail
                  subst hxe
                  have d1 : ((txt [105, 110]).toList == (txt [105, 110]).toList) = true := by simp
                  clear HF hl'
                  by_cases hc1 : c' = 1
                  · have hm' : m' = 1 := by omega
                    rw [if_pos hc1] at HT2
                    subst hc1 hm'
                    go_wp2_with (fail)
                    first | exact ⟨⟨1, F', _, _, _, by omega, rfl, rfl, HT2.out, HF2.out, trivial⟩, by simp [intOf]⟩ | exact ⟨⟨_, _, _, ⟨1, by omega, rfl, F', _, _, _, rfl, HT2.out, HF2.out⟩, rfl, rfl, rfl⟩, by simp [intOf]⟩
                  · rw [if_neg hc1] at HT2
                    have e8 : ¬ (c' : Int) = 1 := by omega
                    go_wp2_with (fail)
                    first | exact ⟨⟨1, F', _, _, _, by omega, rfl, rfl, HT2.out, HF2.out, trivial⟩, by simp [intOf]⟩ | exact ⟨⟨_, _, _, ⟨1, by omega, rfl, F', _, _, _, rfl, HT2.out, HF2.out⟩, rfl, rfl, rfl⟩, by simp [intOf]⟩
                · have HNO : Hid (matchK T 0 = false) := Lib.hid (match_no (j := 0) HF.out (by decide) (by intro h; exact hxe (Option.some.inj h)))
                  have d1 : ((txt x).toList == (txt [105, 110]).toList) = false := strNe hxe
                  have d2 : (x == [105, 110]) = false := by rw [beq_eq_false_iff_ne]; exact hxe
                  have d3 : (x != [105, 110]) = true := by rw [bne, d2]; rfl
                  clear HF hl' hxe HS'
                  go_wp2_with (fail)
                  exact ⟨⟨1, by omega, rfl, fun q hq => (Nat.lt_or_ge q 0).elim (HN.out q) (fun h => (show q = 0 by omega) ▸ HNO.out), HB3.out⟩, by simp [intOf]⟩
          · obtain rfl : j = 1 := by omega
            have HRW : Hid (readW T = (fieldsE true false false F).map fun r => ((0 : Int), r.2.1, r.2.2, r.1)) := Lib.hid (readW_at (k := 0) (by omega) HN.out HF.out)
            have HFL : Hid (∀ x ∈ F, x.length ≤ 100000000) := Lib.hid (fun x hx => HPL.out x (by rw [HF.out]; exact List.mem_append_right _ hx))
            have x0 : w3.cell? ⟨gb, 0, none⟩ = some (.string ⟨#[105, 110]⟩) := cell_of_row w3 gb 0 _ _ _ HX3.out
            have x1 : w3.cell? ⟨gb, 1, none⟩ = some (.bool true) := cell_of_row w3 gb 1 _ _ _ HX3.out
            have x2 : w3.cell? ⟨gb, 2, none⟩ = some (.bool false) := cell_of_row w3 gb 2 _ _ _ HX3.out
            have x3 : w3.cell? ⟨gb, 3, none⟩ = some (.bool false) := cell_of_row w3 gb 3 _ _ _ HX3.out
            clear hlt hj HF HN hl' hle' hmx' cw0
            go_wp2_with (fail)
            clear x0 x1 x2 x3
            refine (read100 ⟨#[105, 110]⟩ A' m' c' F w3 HS'.out HFL.out).mono ?_
            rintro e w4 (⟨k5, n5, p5, A5, m5, c5, l5, hfe, rfl, hB5, hb5⟩ | ⟨l5, n5, p5, A5, m5, c5, hfe, rfl, hB5, hf5, hb5⟩)
            · as_aux_lemma =>
              have HNR : Hid (readW T = none) := Lib.hid (by rw [HRW.out, hfe]; rfl)
              have HB4 : Hid (Below w.heap.size w (w4.alloc (.cells (evC k5 n5 p5 (.slice A5 m5 c5)) TE))) := Lib.hid ((HB1.out.trans (HB3.out.mono HB1.out.size)).trans (hb5.mono (Nat.le_trans HB1.out.size HB3.out.size)) |>.alloc (Nat.le_trans (Nat.le_trans HB1.out.size HB3.out.size) hb5.size) _)
              have HZF : Hid ((w4.alloc (.cells (evC k5 n5 p5 (.slice A5 m5 c5)) TE)).heap[G]? = some (.cells (evC 0 0 0 nilE) TE)) := Lib.hid (heap_keep ((hb5.block _ (Nat.lt_of_lt_of_le HGL.out HB3.out.size)).trans HZ3.out) _)
              clear hfe hB5 hb5
              have z0 : (w4.alloc (.cells (evC k5 n5 p5 (.slice A5 m5 c5)) TE)).cell? ⟨G, 0, none⟩ = some (.int .i64 0) := cell_of_row _ G 0 _ _ _ HZF.out
              have z1 : (w4.alloc (.cells (evC k5 n5 p5 (.slice A5 m5 c5)) TE)).cell? ⟨G, 1, none⟩ = some (.int .i64 0) := cell_of_row _ G 1 _ _ _ HZF.out
              have z2 : (w4.alloc (.cells (evC k5 n5 p5 (.slice A5 m5 c5)) TE)).cell? ⟨G, 2, none⟩ = some (.int .i64 0) := cell_of_row _ G 2 _ _ _ HZF.out
              have z3 : (w4.alloc (.cells (evC k5 n5 p5 (.slice A5 m5 c5)) TE)).cell? ⟨G, 3, none⟩ = some nilE := cell_of_row _ G 3 _ _ _ HZF.out
              have y0 := frozen_row (j := 0) HZF.out
              have y1 := frozen_row (j := 1) HZF.out
              have y2 := frozen_row (j := 2) HZF.out
              have y3 := frozen_row (j := 3) HZF.out
              have HBF : Hid (Below w.heap.size w (((((w4.alloc (.cells (evC k5 n5 p5 (.slice A5 m5 c5)) TE)).setCell ⟨G, 0, none⟩ (.int .i64 0)).setCell ⟨G, 1, none⟩ (.int .i64 0)).setCell ⟨G, 2, none⟩ (.int .i64 0)).setCell ⟨G, 3, none⟩ nilE)) := Lib.hid (((((HB4.out).setCell (p := ⟨G, 0, none⟩) (Nat.le_of_eq HG.out.symm) _).setCell (p := ⟨G, 1, none⟩) (Nat.le_of_eq HG.out.symm) _).setCell (p := ⟨G, 2, none⟩) (Nat.le_of_eq HG.out.symm) _).setCell (p := ⟨G, 3, none⟩) (Nat.le_of_eq HG.out.symm) _)
              go_wp2_with (fail)
              refine bodyPost_ret (v := .tuple #[evV 0 0 0 nilE, .int .i64 10]) ?_ rfl (.inl ⟨HNR.out, rfl, HBF.out⟩)
              exact resultsE Tryd.results13 _ _ G _ _ _ _ _ _ _ (by kernel_rfl) (by kernel_rfl) (finish_heap HZF.out rfl)
            · as_aux_lemma =>
              have HNR : Hid (readW T = some (0, n5, p5, l5)) := Lib.hid (by rw [HRW.out, hfe]; rfl)
              have HF5 : Hid (∀ x, A5 = some x → w.heap.size ≤ x.block) := Lib.hid (fun x hx => Nat.le_trans (Nat.le_trans HB1.out.size HB3.out.size) (hf5 x hx))
              clear hf5
              have HB4 : Hid (Below w.heap.size w (w4.alloc (.cells (evC 0 n5 p5 (.slice A5 m5 c5)) TE))) := Lib.hid ((HB1.out.trans (HB3.out.mono HB1.out.size)).trans (hb5.mono (Nat.le_trans HB1.out.size HB3.out.size)) |>.alloc (Nat.le_trans (Nat.le_trans HB1.out.size HB3.out.size) hb5.size) _)
              have HZF : Hid ((w4.alloc (.cells (evC 0 n5 p5 (.slice A5 m5 c5)) TE)).heap[G]? = some (.cells (evC 0 0 0 nilE) TE)) := Lib.hid (heap_keep ((hb5.block _ (Nat.lt_of_lt_of_le HGL.out HB3.out.size)).trans HZ3.out) _)
              have HBS5 := Lib.hid (hB5.alloc (.cells (evC 0 n5 p5 (.slice A5 m5 c5)) TE))
              clear hfe hB5 hb5
              have z0 : (w4.alloc (.cells (evC 0 n5 p5 (.slice A5 m5 c5)) TE)).cell? ⟨G, 0, none⟩ = some (.int .i64 0) := cell_of_row _ G 0 _ _ _ HZF.out
              have z1 : (w4.alloc (.cells (evC 0 n5 p5 (.slice A5 m5 c5)) TE)).cell? ⟨G, 1, none⟩ = some (.int .i64 0) := cell_of_row _ G 1 _ _ _ HZF.out
              have z2 : (w4.alloc (.cells (evC 0 n5 p5 (.slice A5 m5 c5)) TE)).cell? ⟨G, 2, none⟩ = some (.int .i64 0) := cell_of_row _ G 2 _ _ _ HZF.out
              have z3 : (w4.alloc (.cells (evC 0 n5 p5 (.slice A5 m5 c5)) TE)).cell? ⟨G, 3, none⟩ = some nilE := cell_of_row _ G 3 _ _ _ HZF.out
              have y0 := frozen_row (j := 0) HZF.out
              have y1 := frozen_row (j := 1) HZF.out
              have y2 := frozen_row (j := 2) HZF.out
              have y3 := frozen_row (j := 3) HZF.out
              have HBF : Hid (Below w.heap.size w (((((w4.alloc (.cells (evC 0 n5 p5 (.slice A5 m5 c5)) TE)).setCell ⟨G, 0, none⟩ (.int .i64 0)).setCell ⟨G, 1, none⟩ (.int .i64 n5)).setCell ⟨G, 2, none⟩ (.int .i64 p5)).setCell ⟨G, 3, none⟩ (.slice A5 m5 c5))) := Lib.hid ((((HB4.out.setCell (p := ⟨G, 0, none⟩) (Nat.le_of_eq HG.out.symm) _).setCell (p := ⟨G, 1, none⟩) (Nat.le_of_eq HG.out.symm) _).setCell (p := ⟨G, 2, none⟩) (Nat.le_of_eq HG.out.symm) _).setCell (p := ⟨G, 3, none⟩) (Nat.le_of_eq HG.out.symm) _)
              go_wp2_with (fail)
              refine bodyPost_ret (v := .tuple #[evV 0 n5 p5 (.slice A5 m5 c5), .int .i64 0]) ?_ rfl (.inr ⟨_, _, _, _, _, _, _, HNR.out, rfl, HBS5.out.ev4 HZF.out _ _ _ _, HF5.out, HBF.out⟩)
              exact resultsE Tryd.results13 _ _ G _ _ _ _ _ _ _ (by kernel_rfl) (by kernel_rfl) (finish_heap HZF.out rfl)
      | 1, _ =>
        as_aux_lemma =>
        rw [show ((1 : Nat) : Int) = 1 from rfl]
        have i0 : ∀ W, (Instr.index 59 (.agg rowsA) (.int .i64 1)).run Tryd.prog W = .ok (rowV ⟨#[111, 117, 116]⟩ true false false) W := fun _ => by kernel_rfl
        clear hlt hk
        have hbA : Below w1.heap.size w1 (wo.alloc (.cells #[.string ⟨#[111, 117, 116]⟩, .bool true, .bool false, .bool false] 58)) := HB.out.alloc HB.out.size _
        have HXB : Hid ((wo.alloc (.cells #[.string ⟨#[111, 117, 116]⟩, .bool true, .bool false, .bool false] 58)).heap[wo.heap.size]? = some (.cells #[.string ⟨#[111, 117, 116]⟩, .bool true, .bool false, .bool false] 58)) := Lib.hid (heap_alloc_new wo _)
        have HBA := Lib.hid hbA
        clear hbA
        go_wp2_with (fail)
        clear i0
        obtain ⟨gb, hgb⟩ : ∃ g, g = wo.heap.size := ⟨_, rfl⟩
        rw [← hgb] at HXB ⊢
        clear hgb
        generalize wo.alloc (.cells #[.string ⟨#[111, 117, 116]⟩, .bool true, .bool false, .bool false] 58) = w2 at *
        refine (split_ ⟨#[111, 117, 116]⟩ [[111, 117, 116]] (by rfl) w2 (by decide) (HM.out _ (HB1.out.trans (HBA.out.mono HB1.out.size)))).mono ?_
        rintro e w3' ⟨rfl, rfl⟩
        have HCW : Hid ((w2.alloc (.cells (([[111, 117, 116]] : List (List UInt8)).map str).toArray 9)).heap[w2.heap.size]? = some (.cells (([[111, 117, 116]] : List (List UInt8)).map str).toArray 9)) := Lib.hid (heap_alloc_new w2 _)
        have HX3 := Lib.hid (heap_keep HXB.out (.cells (([[111, 117, 116]] : List (List UInt8)).map str).toArray 9))
        have HB3 : Hid (Below w1.heap.size w1 (w2.alloc (.cells (([[111, 117, 116]] : List (List UInt8)).map str).toArray 9))) := Lib.hid (HBA.out.alloc HBA.out.size _)
        generalize hw3 : w2.alloc (.cells (([[111, 117, 116]] : List (List UInt8)).map str).toArray 9) = w3 at *
        clear hw3
        obtain ⟨gw, hgw⟩ : ∃ g, g = w2.heap.size := ⟨_, rfl⟩
        rw [← hgw] at HCW ⊢
        clear hgw
        simp only [List.length_cons, List.length_nil]
        have HZ3 := Lib.hid ((HB3.out.block _ HGL.out).trans HZ1.out)
        have HS3 := Lib.hid (HS.out.below HB3.out)
        clear HBA HXB HZ HB
        have cw0 : w3.cell? ⟨gw, 0, none⟩ = some (str [111, 117, 116]) := cell_of_row w3 gw 0 _ _ _ HCW.out
        go_wp2_with (fail)
        go_loopw [24, 7, 9] (fun i f _ wr2 => ∃ (j : Nat) (F : List (List UInt8)) (A' : Option Addr) (m' c' : Nat), j ≤ 1 ∧ i = .int .i64 j ∧ f = .slice A' m' c' ∧ Ss w3 A' m' c' F ∧ T = (rowW 1).take j ++ F ∧ wr2 = w3) (fun i _ _ _ => 1 - (intOf i).toNat)
        case atStart => exact ⟨0, T, A, m, c, by omega, rfl, rfl, HS3.out, rfl, rfl⟩
        case round =>
          obtain ⟨j, F, A', m', c', hj, rfl, rfl, hS', hTF, hwr⟩ := hrel
          obtain rfl := hwr.symm
          have HF := Lib.hid hTF
          have HS' := Lib.hid hS'
          have hl' := hS'.len
          have hle' := hS'.le
          have hmx' := hS'.max
          clear hTF hS'
          by_cases hlt : j < 1
          · match j, hlt with
            | 0, _ =>
              as_aux_lemma =>
              rw [show ((0 : Nat) : Int) = 0 from rfl]
              clear hlt hj
              rcases hFc : F with _ | ⟨x, F'⟩
              · rw [hFc] at hl' HF
                obtain rfl : m' = 0 := hl'.symm
                have HNO : Hid (matchK T 1 = false) := Lib.hid (match_no (j := 0) HF.out (by decide) (by simp))
                clear hFc HF hl'
                go_wp2_with (fail)
                exact ⟨⟨2, by omega, rfl, fun q hq => (Nat.lt_or_ge q 1).elim (HN.out q) (fun h => (show q = 1 by omega) ▸ HNO.out), HB3.out⟩, by simp [intOf]⟩
              · rw [hFc] at hl' HF HS'
                simp only [List.length_cons] at hl'
                obtain ⟨b, o, rfl, _, hc⟩ := HS'.out.at_ (by omega)
                have hx := hc 0 x rfl
                rw [Nat.add_zero] at hx
                have hm0 : 0 < m' := by omega
                have hmc : (m' : Int) ≤ (c' : Int) := by omega
                have hm1 : (1 : Int) ≤ (m' : Int) := by omega
                clear hc hFc
                by_cases hxe : x = [111, 117, 116]
                · have HF2 : Hid (T = (rowW 1).take 1 ++ F') := Lib.hid (by rw [HF.out, hxe]; rfl)
                  have HT2 := Lib.hid HS'.out.tail
                  subst hxe
                  have d1 : ((txt [111, 117, 116]).toList == (txt [111, 117, 116]).toList) = true := by simp
                  clear HF hl'
                  by_cases hc1 : c' = 1
                  · have hm' : m' = 1 := by omega
                    rw [if_pos hc1] at HT2
                    subst hc1 hm'
                    go_wp2_with (fail)
                    first | exact ⟨⟨1, F', _, _, _, by omega, rfl, rfl, HT2.out, HF2.out, trivial⟩, by simp [intOf]⟩ | exact ⟨⟨_, _, _, ⟨1, by omega, rfl, F', _, _, _, rfl, HT2.out, HF2.out⟩, rfl, rfl, rfl⟩, by simp [intOf]⟩
                  · rw [if_neg hc1] at HT2
                    have e8 : ¬ (c' : Int) = 1 := by omega
                    go_wp2_with (fail)
                    first | exact ⟨⟨1, F', _, _, _, by omega, rfl, rfl, HT2.out, HF2.out, trivial⟩, by simp [intOf]⟩ | exact ⟨⟨_, _, _, ⟨1, by omega, rfl, F', _, _, _, rfl, HT2.out, HF2.out⟩, rfl, rfl, rfl⟩, by simp [intOf]⟩
                · have HNO : Hid (matchK T 1 = false) := Lib.hid (match_no (j := 0) HF.out (by decide) (by intro h; exact hxe (Option.some.inj h)))
                  have d1 : ((txt x).toList == (txt [111, 117, 116]).toList) = false := strNe hxe
                  have d2 : (x == [111, 117, 116]) = false := by rw [beq_eq_false_iff_ne]; exact hxe
                  have d3 : (x != [111, 117, 116]) = true := by rw [bne, d2]; rfl
                  clear HF hl' hxe HS'
                  go_wp2_with (fail)
                  exact ⟨⟨2, by omega, rfl, fun q hq => (Nat.lt_or_ge q 1).elim (HN.out q) (fun h => (show q = 1 by omega) ▸ HNO.out), HB3.out⟩, by simp [intOf]⟩
          · obtain rfl : j = 1 := by omega
            have HRW : Hid (readW T = (fieldsE true false false F).map fun r => ((1 : Int), r.2.1, r.2.2, r.1)) := Lib.hid (readW_at (k := 1) (by omega) HN.out HF.out)
            have HFL : Hid (∀ x ∈ F, x.length ≤ 100000000) := Lib.hid (fun x hx => HPL.out x (by rw [HF.out]; exact List.mem_append_right _ hx))
            have x0 : w3.cell? ⟨gb, 0, none⟩ = some (.string ⟨#[111, 117, 116]⟩) := cell_of_row w3 gb 0 _ _ _ HX3.out
            have x1 : w3.cell? ⟨gb, 1, none⟩ = some (.bool true) := cell_of_row w3 gb 1 _ _ _ HX3.out
            have x2 : w3.cell? ⟨gb, 2, none⟩ = some (.bool false) := cell_of_row w3 gb 2 _ _ _ HX3.out
            have x3 : w3.cell? ⟨gb, 3, none⟩ = some (.bool false) := cell_of_row w3 gb 3 _ _ _ HX3.out
            clear hlt hj HF HN hl' hle' hmx' cw0
            go_wp2_with (fail)
            clear x0 x1 x2 x3
            refine (read100 ⟨#[111, 117, 116]⟩ A' m' c' F w3 HS'.out HFL.out).mono ?_
            rintro e w4 (⟨k5, n5, p5, A5, m5, c5, l5, hfe, rfl, hB5, hb5⟩ | ⟨l5, n5, p5, A5, m5, c5, hfe, rfl, hB5, hf5, hb5⟩)
            · as_aux_lemma =>
              have HNR : Hid (readW T = none) := Lib.hid (by rw [HRW.out, hfe]; rfl)
              have HB4 : Hid (Below w.heap.size w (w4.alloc (.cells (evC k5 n5 p5 (.slice A5 m5 c5)) TE))) := Lib.hid ((HB1.out.trans (HB3.out.mono HB1.out.size)).trans (hb5.mono (Nat.le_trans HB1.out.size HB3.out.size)) |>.alloc (Nat.le_trans (Nat.le_trans HB1.out.size HB3.out.size) hb5.size) _)
              have HZF : Hid ((w4.alloc (.cells (evC k5 n5 p5 (.slice A5 m5 c5)) TE)).heap[G]? = some (.cells (evC 0 0 0 nilE) TE)) := Lib.hid (heap_keep ((hb5.block _ (Nat.lt_of_lt_of_le HGL.out HB3.out.size)).trans HZ3.out) _)
              clear hfe hB5 hb5
              have z0 : (w4.alloc (.cells (evC k5 n5 p5 (.slice A5 m5 c5)) TE)).cell? ⟨G, 0, none⟩ = some (.int .i64 0) := cell_of_row _ G 0 _ _ _ HZF.out
              have z1 : (w4.alloc (.cells (evC k5 n5 p5 (.slice A5 m5 c5)) TE)).cell? ⟨G, 1, none⟩ = some (.int .i64 0) := cell_of_row _ G 1 _ _ _ HZF.out
              have z2 : (w4.alloc (.cells (evC k5 n5 p5 (.slice A5 m5 c5)) TE)).cell? ⟨G, 2, none⟩ = some (.int .i64 0) := cell_of_row _ G 2 _ _ _ HZF.out
              have z3 : (w4.alloc (.cells (evC k5 n5 p5 (.slice A5 m5 c5)) TE)).cell? ⟨G, 3, none⟩ = some nilE := cell_of_row _ G 3 _ _ _ HZF.out
              have y0 := frozen_row (j := 0) HZF.out
              have y1 := frozen_row (j := 1) HZF.out
              have y2 := frozen_row (j := 2) HZF.out
              have y3 := frozen_row (j := 3) HZF.out
              have HBF : Hid (Below w.heap.size w (((((w4.alloc (.cells (evC k5 n5 p5 (.slice A5 m5 c5)) TE)).setCell ⟨G, 0, none⟩ (.int .i64 0)).setCell ⟨G, 1, none⟩ (.int .i64 0)).setCell ⟨G, 2, none⟩ (.int .i64 0)).setCell ⟨G, 3, none⟩ nilE)) := Lib.hid (((((HB4.out).setCell (p := ⟨G, 0, none⟩) (Nat.le_of_eq HG.out.symm) _).setCell (p := ⟨G, 1, none⟩) (Nat.le_of_eq HG.out.symm) _).setCell (p := ⟨G, 2, none⟩) (Nat.le_of_eq HG.out.symm) _).setCell (p := ⟨G, 3, none⟩) (Nat.le_of_eq HG.out.symm) _)
              go_wp2_with (fail)
              refine bodyPost_ret (v := .tuple #[evV 0 0 0 nilE, .int .i64 10]) ?_ rfl (.inl ⟨HNR.out, rfl, HBF.out⟩)
              exact resultsE Tryd.results13 _ _ G _ _ _ _ _ _ _ (by kernel_rfl) (by kernel_rfl) (finish_heap HZF.out rfl)
            · as_aux_lemma =>
              have HNR : Hid (readW T = some (1, n5, p5, l5)) := Lib.hid (by rw [HRW.out, hfe]; rfl)
              have HF5 : Hid (∀ x, A5 = some x → w.heap.size ≤ x.block) := Lib.hid (fun x hx => Nat.le_trans (Nat.le_trans HB1.out.size HB3.out.size) (hf5 x hx))
              clear hf5
              have HB4 : Hid (Below w.heap.size w (w4.alloc (.cells (evC 1 n5 p5 (.slice A5 m5 c5)) TE))) := Lib.hid ((HB1.out.trans (HB3.out.mono HB1.out.size)).trans (hb5.mono (Nat.le_trans HB1.out.size HB3.out.size)) |>.alloc (Nat.le_trans (Nat.le_trans HB1.out.size HB3.out.size) hb5.size) _)
              have HZF : Hid ((w4.alloc (.cells (evC 1 n5 p5 (.slice A5 m5 c5)) TE)).heap[G]? = some (.cells (evC 0 0 0 nilE) TE)) := Lib.hid (heap_keep ((hb5.block _ (Nat.lt_of_lt_of_le HGL.out HB3.out.size)).trans HZ3.out) _)
              have HBS5 := Lib.hid (hB5.alloc (.cells (evC 1 n5 p5 (.slice A5 m5 c5)) TE))
              clear hfe hB5 hb5
              have z0 : (w4.alloc (.cells (evC 1 n5 p5 (.slice A5 m5 c5)) TE)).cell? ⟨G, 0, none⟩ = some (.int .i64 0) := cell_of_row _ G 0 _ _ _ HZF.out
              have z1 : (w4.alloc (.cells (evC 1 n5 p5 (.slice A5 m5 c5)) TE)).cell? ⟨G, 1, none⟩ = some (.int .i64 0) := cell_of_row _ G 1 _ _ _ HZF.out
              have z2 : (w4.alloc (.cells (evC 1 n5 p5 (.slice A5 m5 c5)) TE)).cell? ⟨G, 2, none⟩ = some (.int .i64 0) := cell_of_row _ G 2 _ _ _ HZF.out
              have z3 : (w4.alloc (.cells (evC 1 n5 p5 (.slice A5 m5 c5)) TE)).cell? ⟨G, 3, none⟩ = some nilE := cell_of_row _ G 3 _ _ _ HZF.out
              have y0 := frozen_row (j := 0) HZF.out
              have y1 := frozen_row (j := 1) HZF.out
              have y2 := frozen_row (j := 2) HZF.out
              have y3 := frozen_row (j := 3) HZF.out
              have HBF : Hid (Below w.heap.size w (((((w4.alloc (.cells (evC 1 n5 p5 (.slice A5 m5 c5)) TE)).setCell ⟨G, 0, none⟩ (.int .i64 1)).setCell ⟨G, 1, none⟩ (.int .i64 n5)).setCell ⟨G, 2, none⟩ (.int .i64 p5)).setCell ⟨G, 3, none⟩ (.slice A5 m5 c5))) := Lib.hid ((((HB4.out.setCell (p := ⟨G, 0, none⟩) (Nat.le_of_eq HG.out.symm) _).setCell (p := ⟨G, 1, none⟩) (Nat.le_of_eq HG.out.symm) _).setCell (p := ⟨G, 2, none⟩) (Nat.le_of_eq HG.out.symm) _).setCell (p := ⟨G, 3, none⟩) (Nat.le_of_eq HG.out.symm) _)
              go_wp2_with (fail)
              refine bodyPost_ret (v := .tuple #[evV 1 n5 p5 (.slice A5 m5 c5), .int .i64 0]) ?_ rfl (.inr ⟨_, _, _, _, _, _, _, HNR.out, rfl, HBS5.out.ev4 HZF.out _ _ _ _, HF5.out, HBF.out⟩)
              exact resultsE Tryd.results13 _ _ G _ _ _ _ _ _ _ (by kernel_rfl) (by kernel_rfl) (finish_heap HZF.out rfl)
      | 2, _ =>
        as_aux_lemma =>
        rw [show ((2 : Nat) : Int) = 2 from rfl]
        have i0 : ∀ W, (Instr.index 59 (.agg rowsA) (.int .i64 2)).run Tryd.prog W = .ok (rowV ⟨#[100, 114, 111, 112, 32, 105, 110]⟩ false false false) W := fun _ => by kernel_rfl
        clear hlt hk
        have hbA : Below w1.heap.size w1 (wo.alloc (.cells #[.string ⟨#[100, 114, 111, 112, 32, 105, 110]⟩, .bool false, .bool false, .bool false] 58)) := HB.out.alloc HB.out.size _
        have HXB : Hid ((wo.alloc (.cells #[.string ⟨#[100, 114, 111, 112, 32, 105, 110]⟩, .bool false, .bool false, .bool false] 58)).heap[wo.heap.size]? = some (.cells #[.string ⟨#[100, 114, 111, 112, 32, 105, 110]⟩, .bool false, .bool false, .bool false] 58)) := Lib.hid (heap_alloc_new wo _)
        have HBA := Lib.hid hbA
        clear hbA
        go_wp2_with (fail)
        clear i0
        obtain ⟨gb, hgb⟩ : ∃ g, g = wo.heap.size := ⟨_, rfl⟩
        rw [← hgb] at HXB ⊢
        clear hgb
        generalize wo.alloc (.cells #[.string ⟨#[100, 114, 111, 112, 32, 105, 110]⟩, .bool false, .bool false, .bool false] 58) = w2 at *
        refine (split_ ⟨#[100, 114, 111, 112, 32, 105, 110]⟩ [[100, 114, 111, 112], [105, 110]] (by rfl) w2 (by decide) (HM.out _ (HB1.out.trans (HBA.out.mono HB1.out.size)))).mono ?_
        rintro e w3' ⟨rfl, rfl⟩
        have HCW : Hid ((w2.alloc (.cells (([[100, 114, 111, 112], [105, 110]] : List (List UInt8)).map str).toArray 9)).heap[w2.heap.size]? = some (.cells (([[100, 114, 111, 112], [105, 110]] : List (List UInt8)).map str).toArray 9)) := Lib.hid (heap_alloc_new w2 _)
        have HX3 := Lib.hid (heap_keep HXB.out (.cells (([[100, 114, 111, 112], [105, 110]] : List (List UInt8)).map str).toArray 9))
        have HB3 : Hid (Below w1.heap.size w1 (w2.alloc (.cells (([[100, 114, 111, 112], [105, 110]] : List (List UInt8)).map str).toArray 9))) := Lib.hid (HBA.out.alloc HBA.out.size _)
        generalize hw3 : w2.alloc (.cells (([[100, 114, 111, 112], [105, 110]] : List (List UInt8)).map str).toArray 9) = w3 at *
        clear hw3
        obtain ⟨gw, hgw⟩ : ∃ g, g = w2.heap.size := ⟨_, rfl⟩
        rw [← hgw] at HCW ⊢
        clear hgw
        simp only [List.length_cons, List.length_nil]
        have HZ3 := Lib.hid ((HB3.out.block _ HGL.out).trans HZ1.out)
        have HS3 := Lib.hid (HS.out.below HB3.out)
        clear HBA HXB HZ HB
        have cw0 : w3.cell? ⟨gw, 0, none⟩ = some (str [100, 114, 111, 112]) := cell_of_row w3 gw 0 _ _ _ HCW.out
        have cw1 : w3.cell? ⟨gw, 1, none⟩ = some (str [105, 110]) := cell_of_row w3 gw 1 _ _ _ HCW.out
        go_wp2_with (fail)
        go_loopw [24, 7, 9] (fun i f _ wr2 => ∃ (j : Nat) (F : List (List UInt8)) (A' : Option Addr) (m' c' : Nat), j ≤ 2 ∧ i = .int .i64 j ∧ f = .slice A' m' c' ∧ Ss w3 A' m' c' F ∧ T = (rowW 2).take j ++ F ∧ wr2 = w3) (fun i _ _ _ => 2 - (intOf i).toNat)
        case atStart => exact ⟨0, T, A, m, c, by omega, rfl, rfl, HS3.out, rfl, rfl⟩
        case round =>
          obtain ⟨j, F, A', m', c', hj, rfl, rfl, hS', hTF, hwr⟩ := hrel
          obtain rfl := hwr.symm
          have HF := Lib.hid hTF
          have HS' := Lib.hid hS'
          have hl' := hS'.len
          have hle' := hS'.le
          have hmx' := hS'.max
          clear hTF hS'
          by_cases hlt : j < 2
          · match j, hlt with
            | 0, _ =>
              as_aux_lemma =>
              rw [show ((0 : Nat) : Int) = 0 from rfl]
              clear hlt hj
              rcases hFc : F with _ | ⟨x, F'⟩
              · rw [hFc] at hl' HF
                obtain rfl : m' = 0 := hl'.symm
                have HNO : Hid (matchK T 2 = false) := Lib.hid (match_no (j := 0) HF.out (by decide) (by simp))
                clear hFc HF hl'
                go_wp2_with (fail)
                exact ⟨⟨3, by omega, rfl, fun q hq => (Nat.lt_or_ge q 2).elim (HN.out q) (fun h => (show q = 2 by omega) ▸ HNO.out), HB3.out⟩, by simp [intOf]⟩
              · rw [hFc] at hl' HF HS'
                simp only [List.length_cons] at hl'
                obtain ⟨b, o, rfl, _, hc⟩ := HS'.out.at_ (by omega)
                have hx := hc 0 x rfl
                rw [Nat.add_zero] at hx
                have hm0 : 0 < m' := by omega
                have hmc : (m' : Int) ≤ (c' : Int) := by omega
                have hm1 : (1 : Int) ≤ (m' : Int) := by omega
                clear hc hFc
                by_cases hxe : x = [100, 114, 111, 112]
                · have HF2 : Hid (T = (rowW 2).take 1 ++ F') := Lib.hid (by rw [HF.out, hxe]; rfl)
                  have HT2 := Lib.hid HS'.out.tail
                  subst hxe
                  have d1 : ((txt [100, 114, 111, 112]).toList == (txt [100, 114, 111, 112]).toList) = true := by simp
                  clear HF hl'
                  by_cases hc1 : c' = 1
                  · have hm' : m' = 1 := by omega
                    rw [if_pos hc1] at HT2
                    subst hc1 hm'
                    go_wp2_with (fail)
                    first | exact ⟨⟨1, F', _, _, _, by omega, rfl, rfl, HT2.out, HF2.out, trivial⟩, by simp [intOf]⟩ | exact ⟨⟨_, _, _, ⟨1, by omega, rfl, F', _, _, _, rfl, HT2.out, HF2.out⟩, rfl, rfl, rfl⟩, by simp [intOf]⟩
                  · rw [if_neg hc1] at HT2
                    have e8 : ¬ (c' : Int) = 1 := by omega
                    go_wp2_with (fail)
                    first | exact ⟨⟨1, F', _, _, _, by omega, rfl, rfl, HT2.out, HF2.out, trivial⟩, by simp [intOf]⟩ | exact ⟨⟨_, _, _, ⟨1, by omega, rfl, F', _, _, _, rfl, HT2.out, HF2.out⟩, rfl, rfl, rfl⟩, by simp [intOf]⟩
                · have HNO : Hid (matchK T 2 = false) := Lib.hid (match_no (j := 0) HF.out (by decide) (by intro h; exact hxe (Option.some.inj h)))
                  have d1 : ((txt x).toList == (txt [100, 114, 111, 112]).toList) = false := strNe hxe
                  have d2 : (x == [100, 114, 111, 112]) = false := by rw [beq_eq_false_iff_ne]; exact hxe
                  have d3 : (x != [100, 114, 111, 112]) = true := by rw [bne, d2]; rfl
                  clear HF hl' hxe HS'
                  go_wp2_with (fail)
                  exact ⟨⟨3, by omega, rfl, fun q hq => (Nat.lt_or_ge q 2).elim (HN.out q) (fun h => (show q = 2 by omega) ▸ HNO.out), HB3.out⟩, by simp [intOf]⟩
            | 1, _ =>
              as_aux_lemma =>
              rw [show ((1 : Nat) : Int) = 1 from rfl]
              clear hlt hj
              rcases hFc : F with _ | ⟨x, F'⟩
              · rw [hFc] at hl' HF
                obtain rfl : m' = 0 := hl'.symm
                have HNO : Hid (matchK T 2 = false) := Lib.hid (match_no (j := 1) HF.out (by decide) (by simp))
                clear hFc HF hl'
                go_wp2_with (fail)
                exact ⟨⟨3, by omega, rfl, fun q hq => (Nat.lt_or_ge q 2).elim (HN.out q) (fun h => (show q = 2 by omega) ▸ HNO.out), HB3.out⟩, by simp [intOf]⟩
              · rw [hFc] at hl' HF HS'
                simp only [List.length_cons] at hl'
                obtain ⟨b, o, rfl, _, hc⟩ := HS'.out.at_ (by omega)
                have hx := hc 0 x rfl
                rw [Nat.add_zero] at hx
                have hm0 : 0 < m' := by omega
                have hmc : (m' : Int) ≤ (c' : Int) := by omega
                have hm1 : (1 : Int) ≤ (m' : Int) := by omega
                clear hc hFc
                by_cases hxe : x = [105, 110]
                · have HF2 : Hid (T = (rowW 2).take 2 ++ F') := Lib.hid (by rw [HF.out, hxe]; rfl)
                  have HT2 := Lib.hid HS'.out.tail
                  subst hxe
                  have d1 : ((txt [105, 110]).toList == (txt [105, 110]).toList) = true := by simp
                  clear HF hl'
                  by_cases hc1 : c' = 1
                  · have hm' : m' = 1 := by omega
                    rw [if_pos hc1] at HT2
                    subst hc1 hm'
                    go_wp2_with (fail)
                    first | exact ⟨⟨2, F', _, _, _, by omega, rfl, rfl, HT2.out, HF2.out, trivial⟩, by simp [intOf]⟩ | exact ⟨⟨_, _, _, ⟨2, by omega, rfl, F', _, _, _, rfl, HT2.out, HF2.out⟩, rfl, rfl, rfl⟩, by simp [intOf]⟩
                  · rw [if_neg hc1] at HT2
                    have e8 : ¬ (c' : Int) = 1 := by omega
                    go_wp2_with (fail)
                    first | exact ⟨⟨2, F', _, _, _, by omega, rfl, rfl, HT2.out, HF2.out, trivial⟩, by simp [intOf]⟩ | exact ⟨⟨_, _, _, ⟨2, by omega, rfl, F', _, _, _, rfl, HT2.out, HF2.out⟩, rfl, rfl, rfl⟩, by simp [intOf]⟩
                · have HNO : Hid (matchK T 2 = false) := Lib.hid (match_no (j := 1) HF.out (by decide) (by intro h; exact hxe (Option.some.inj h)))
                  have d1 : ((txt x).toList == (txt [105, 110]).toList) = false := strNe hxe
                  have d2 : (x == [105, 110]) = false := by rw [beq_eq_false_iff_ne]; exact hxe
                  have d3 : (x != [105, 110]) = true := by rw [bne, d2]; rfl
                  clear HF hl' hxe HS'
                  go_wp2_with (fail)
                  exact ⟨⟨3, by omega, rfl, fun q hq => (Nat.lt_or_ge q 2).elim (HN.out q) (fun h => (show q = 2 by omega) ▸ HNO.out), HB3.out⟩, by simp [intOf]⟩
          · obtain rfl : j = 2 := by omega
            have HRW : Hid (readW T = (fieldsE false false false F).map fun r => ((2 : Int), r.2.1, r.2.2, r.1)) := Lib.hid (readW_at (k := 2) (by omega) HN.out HF.out)
            have HFL : Hid (∀ x ∈ F, x.length ≤ 100000000) := Lib.hid (fun x hx => HPL.out x (by rw [HF.out]; exact List.mem_append_right _ hx))
            have x0 : w3.cell? ⟨gb, 0, none⟩ = some (.string ⟨#[100, 114, 111, 112, 32, 105, 110]⟩) := cell_of_row w3 gb 0 _ _ _ HX3.out
            have x1 : w3.cell? ⟨gb, 1, none⟩ = some (.bool false) := cell_of_row w3 gb 1 _ _ _ HX3.out
            have x2 : w3.cell? ⟨gb, 2, none⟩ = some (.bool false) := cell_of_row w3 gb 2 _ _ _ HX3.out
            have x3 : w3.cell? ⟨gb, 3, none⟩ = some (.bool false) := cell_of_row w3 gb 3 _ _ _ HX3.out
            clear hlt hj HF HN hl' hle' hmx' cw0 cw1
            go_wp2_with (fail)
            clear x0 x1 x2 x3
            refine (read000 ⟨#[100, 114, 111, 112, 32, 105, 110]⟩ A' m' c' F w3 HS'.out HFL.out).mono ?_
            rintro e w4 (⟨k5, n5, p5, A5, m5, c5, l5, hfe, rfl, hB5, hb5⟩ | ⟨l5, n5, p5, A5, m5, c5, hfe, rfl, hB5, hf5, hb5⟩)
            · as_aux_lemma =>
              have HNR : Hid (readW T = none) := Lib.hid (by rw [HRW.out, hfe]; rfl)
              have HB4 : Hid (Below w.heap.size w (w4.alloc (.cells (evC k5 n5 p5 (.slice A5 m5 c5)) TE))) := Lib.hid ((HB1.out.trans (HB3.out.mono HB1.out.size)).trans (hb5.mono (Nat.le_trans HB1.out.size HB3.out.size)) |>.alloc (Nat.le_trans (Nat.le_trans HB1.out.size HB3.out.size) hb5.size) _)
              have HZF : Hid ((w4.alloc (.cells (evC k5 n5 p5 (.slice A5 m5 c5)) TE)).heap[G]? = some (.cells (evC 0 0 0 nilE) TE)) := Lib.hid (heap_keep ((hb5.block _ (Nat.lt_of_lt_of_le HGL.out HB3.out.size)).trans HZ3.out) _)
              clear hfe hB5 hb5
              have z0 : (w4.alloc (.cells (evC k5 n5 p5 (.slice A5 m5 c5)) TE)).cell? ⟨G, 0, none⟩ = some (.int .i64 0) := cell_of_row _ G 0 _ _ _ HZF.out
              have z1 : (w4.alloc (.cells (evC k5 n5 p5 (.slice A5 m5 c5)) TE)).cell? ⟨G, 1, none⟩ = some (.int .i64 0) := cell_of_row _ G 1 _ _ _ HZF.out
              have z2 : (w4.alloc (.cells (evC k5 n5 p5 (.slice A5 m5 c5)) TE)).cell? ⟨G, 2, none⟩ = some (.int .i64 0) := cell_of_row _ G 2 _ _ _ HZF.out
              have z3 : (w4.alloc (.cells (evC k5 n5 p5 (.slice A5 m5 c5)) TE)).cell? ⟨G, 3, none⟩ = some nilE := cell_of_row _ G 3 _ _ _ HZF.out
              have y0 := frozen_row (j := 0) HZF.out
              have y1 := frozen_row (j := 1) HZF.out
              have y2 := frozen_row (j := 2) HZF.out
              have y3 := frozen_row (j := 3) HZF.out
              have HBF : Hid (Below w.heap.size w (((((w4.alloc (.cells (evC k5 n5 p5 (.slice A5 m5 c5)) TE)).setCell ⟨G, 0, none⟩ (.int .i64 0)).setCell ⟨G, 1, none⟩ (.int .i64 0)).setCell ⟨G, 2, none⟩ (.int .i64 0)).setCell ⟨G, 3, none⟩ nilE)) := Lib.hid (((((HB4.out).setCell (p := ⟨G, 0, none⟩) (Nat.le_of_eq HG.out.symm) _).setCell (p := ⟨G, 1, none⟩) (Nat.le_of_eq HG.out.symm) _).setCell (p := ⟨G, 2, none⟩) (Nat.le_of_eq HG.out.symm) _).setCell (p := ⟨G, 3, none⟩) (Nat.le_of_eq HG.out.symm) _)
              go_wp2_with (fail)
              refine bodyPost_ret (v := .tuple #[evV 0 0 0 nilE, .int .i64 10]) ?_ rfl (.inl ⟨HNR.out, rfl, HBF.out⟩)
              exact resultsE Tryd.results13 _ _ G _ _ _ _ _ _ _ (by kernel_rfl) (by kernel_rfl) (finish_heap HZF.out rfl)
            · as_aux_lemma =>
              have HNR : Hid (readW T = some (2, n5, p5, l5)) := Lib.hid (by rw [HRW.out, hfe]; rfl)
              have HF5 : Hid (∀ x, A5 = some x → w.heap.size ≤ x.block) := Lib.hid (fun x hx => Nat.le_trans (Nat.le_trans HB1.out.size HB3.out.size) (hf5 x hx))
              clear hf5
              have HB4 : Hid (Below w.heap.size w (w4.alloc (.cells (evC 2 n5 p5 (.slice A5 m5 c5)) TE))) := Lib.hid ((HB1.out.trans (HB3.out.mono HB1.out.size)).trans (hb5.mono (Nat.le_trans HB1.out.size HB3.out.size)) |>.alloc (Nat.le_trans (Nat.le_trans HB1.out.size HB3.out.size) hb5.size) _)
              have HZF : Hid ((w4.alloc (.cells (evC 2 n5 p5 (.slice A5 m5 c5)) TE)).heap[G]? = some (.cells (evC 0 0 0 nilE) TE)) := Lib.hid (heap_keep ((hb5.block _ (Nat.lt_of_lt_of_le HGL.out HB3.out.size)).trans HZ3.out) _)
              have HBS5 := Lib.hid (hB5.alloc (.cells (evC 2 n5 p5 (.slice A5 m5 c5)) TE))
              clear hfe hB5 hb5
              have z0 : (w4.alloc (.cells (evC 2 n5 p5 (.slice A5 m5 c5)) TE)).cell? ⟨G, 0, none⟩ = some (.int .i64 0) := cell_of_row _ G 0 _ _ _ HZF.out
              have z1 : (w4.alloc (.cells (evC 2 n5 p5 (.slice A5 m5 c5)) TE)).cell? ⟨G, 1, none⟩ = some (.int .i64 0) := cell_of_row _ G 1 _ _ _ HZF.out
              have z2 : (w4.alloc (.cells (evC 2 n5 p5 (.slice A5 m5 c5)) TE)).cell? ⟨G, 2, none⟩ = some (.int .i64 0) := cell_of_row _ G 2 _ _ _ HZF.out
              have z3 : (w4.alloc (.cells (evC 2 n5 p5 (.slice A5 m5 c5)) TE)).cell? ⟨G, 3, none⟩ = some nilE := cell_of_row _ G 3 _ _ _ HZF.out
              have y0 := frozen_row (j := 0) HZF.out
              have y1 := frozen_row (j := 1) HZF.out
              have y2 := frozen_row (j := 2) HZF.out
              have y3 := frozen_row (j := 3) HZF.out
              have HBF : Hid (Below w.heap.size w (((((w4.alloc (.cells (evC 2 n5 p5 (.slice A5 m5 c5)) TE)).setCell ⟨G, 0, none⟩ (.int .i64 2)).setCell ⟨G, 1, none⟩ (.int .i64 n5)).setCell ⟨G, 2, none⟩ (.int .i64 p5)).setCell ⟨G, 3, none⟩ (.slice A5 m5 c5))) := Lib.hid ((((HB4.out.setCell (p := ⟨G, 0, none⟩) (Nat.le_of_eq HG.out.symm) _).setCell (p := ⟨G, 1, none⟩) (Nat.le_of_eq HG.out.symm) _).setCell (p := ⟨G, 2, none⟩) (Nat.le_of_eq HG.out.symm) _).setCell (p := ⟨G, 3, none⟩) (Nat.le_of_eq HG.out.symm) _)
              go_wp2_with (fail)
              refine bodyPost_ret (v := .tuple #[evV 2 n5 p5 (.slice A5 m5 c5), .int .i64 0]) ?_ rfl (.inr ⟨_, _, _, _, _, _, _, HNR.out, rfl, HBS5.out.ev4 HZF.out _ _ _ _, HF5.out, HBF.out⟩)
              exact resultsE Tryd.results13 _ _ G _ _ _ _ _ _ _ (by kernel_rfl) (by kernel_rfl) (finish_heap HZF.out rfl)
      | 3, _ =>
        as_aux_lemma =>
        rw [show ((3 : Nat) : Int) = 3 from rfl]
        have i0 : ∀ W, (Instr.index 59 (.agg rowsA) (.int .i64 3)).run Tryd.prog W = .ok (rowV ⟨#[100, 114, 111, 112, 32, 111, 117, 116]⟩ false false false) W := fun _ => by kernel_rfl
        clear hlt hk
        have hbA : Below w1.heap.size w1 (wo.alloc (.cells #[.string ⟨#[100, 114, 111, 112, 32, 111, 117, 116]⟩, .bool false, .bool false, .bool false] 58)) := HB.out.alloc HB.out.size _
        have HXB : Hid ((wo.alloc (.cells #[.string ⟨#[100, 114, 111, 112, 32, 111, 117, 116]⟩, .bool false, .bool false, .bool false] 58)).heap[wo.heap.size]? = some (.cells #[.string ⟨#[100, 114, 111, 112, 32, 111, 117, 116]⟩, .bool false, .bool false, .bool false] 58)) := Lib.hid (heap_alloc_new wo _)
        have HBA := Lib.hid hbA
        clear hbA
        go_wp2_with (fail)
        clear i0
        obtain ⟨gb, hgb⟩ : ∃ g, g = wo.heap.size := ⟨_, rfl⟩
        rw [← hgb] at HXB ⊢
        clear hgb
        generalize wo.alloc (.cells #[.string ⟨#[100, 114, 111, 112, 32, 111, 117, 116]⟩, .bool false, .bool false, .bool false] 58) = w2 at *
        refine (split_ ⟨#[100, 114, 111, 112, 32, 111, 117, 116]⟩ [[100, 114, 111, 112], [111, 117, 116]] (by rfl) w2 (by decide) (HM.out _ (HB1.out.trans (HBA.out.mono HB1.out.size)))).mono ?_
        rintro e w3' ⟨rfl, rfl⟩
        have HCW : Hid ((w2.alloc (.cells (([[100, 114, 111, 112], [111, 117, 116]] : List (List UInt8)).map str).toArray 9)).heap[w2.heap.size]? = some (.cells (([[100, 114, 111, 112], [111, 117, 116]] : List (List UInt8)).map str).toArray 9)) := Lib.hid (heap_alloc_new w2 _)
        have HX3 := Lib.hid (heap_keep HXB.out (.cells (([[100, 114, 111, 112], [111, 117, 116]] : List (List UInt8)).map str).toArray 9))
        have HB3 : Hid (Below w1.heap.size w1 (w2.alloc (.cells (([[100, 114, 111, 112], [111, 117, 116]] : List (List UInt8)).map str).toArray 9))) := Lib.hid (HBA.out.alloc HBA.out.size _)
        generalize hw3 : w2.alloc (.cells (([[100, 114, 111, 112], [111, 117, 116]] : List (List UInt8)).map str).toArray 9) = w3 at *
        clear hw3
        obtain ⟨gw, hgw⟩ : ∃ g, g = w2.heap.size := ⟨_, rfl⟩
        rw [← hgw] at HCW ⊢
        clear hgw
        simp only [List.length_cons, List.length_nil]
        have HZ3 := Lib.hid ((HB3.out.block _ HGL.out).trans HZ1.out)
        have HS3 := Lib.hid (HS.out.below HB3.out)
        clear HBA HXB HZ HB
        have cw0 : w3.cell? ⟨gw, 0, none⟩ = some (str [100, 114, 111, 112]) := cell_of_row w3 gw 0 _ _ _ HCW.out
        have cw1 : w3.cell? ⟨gw, 1, none⟩ = some (str [111, 117, 116]) := cell_of_row w3 gw 1 _ _ _ HCW.out
        go_wp2_with (fail)
        go_loopw [24, 7, 9] (fun i f _ wr2 => ∃ (j : Nat) (F : List (List UInt8)) (A' : Option Addr) (m' c' : Nat), j ≤ 2 ∧ i = .int .i64 j ∧ f = .slice A' m' c' ∧ Ss w3 A' m' c' F ∧ T = (rowW 3).take j ++ F ∧ wr2 = w3) (fun i _ _ _ => 2 - (intOf i).toNat)
        case atStart => exact ⟨0, T, A, m, c, by omega, rfl, rfl, HS3.out, rfl, rfl⟩
        case round =>
          obtain ⟨j, F, A', m', c', hj, rfl, rfl, hS', hTF, hwr⟩ := hrel
          obtain rfl := hwr.symm
          have HF := Lib.hid hTF
          have HS' := Lib.hid hS'
          have hl' := hS'.len
          have hle' := hS'.le
          have hmx' := hS'.max
          clear hTF hS'
          by_cases hlt : j < 2
          · match j, hlt with
            | 0, _ =>
              as_aux_lemma =>
              rw [show ((0 : Nat) : Int) = 0 from rfl]
              clear hlt hj
              rcases hFc : F with _ | ⟨x, F'⟩
              · rw [hFc] at hl' HF
                obtain rfl : m' = 0 := hl'.symm
                have HNO : Hid (matchK T 3 = false) := Lib.hid (match_no (j := 0) HF.out (by decide) (by simp))
                clear hFc HF hl'
                go_wp2_with (fail)
                exact ⟨⟨4, by omega, rfl, fun q hq => (Nat.lt_or_ge q 3).elim (HN.out q) (fun h => (show q = 3 by omega) ▸ HNO.out), HB3.out⟩, by simp [intOf]⟩
              · rw [hFc] at hl' HF HS'
                simp only [List.length_cons] at hl'
                obtain ⟨b, o, rfl, _, hc⟩ := HS'.out.at_ (by omega)
                have hx := hc 0 x rfl
                rw [Nat.add_zero] at hx
                have hm0 : 0 < m' := by omega
                have hmc : (m' : Int) ≤ (c' : Int) := by omega
                have hm1 : (1 : Int) ≤ (m' : Int) := by omega
                clear hc hFc
                by_cases hxe : x = [100, 114, 111, 112]
                · have HF2 : Hid (T = (rowW 3).take 1 ++ F') := Lib.hid (by rw [HF.out, hxe]; rfl)
                  have HT2 := Lib.hid HS'.out.tail
                  subst hxe
                  have d1 : ((txt [100, 114, 111, 112]).toList == (txt [100, 114, 111, 112]).toList) = true := by simp
                  clear HF hl'
                  by_cases hc1 : c' = 1
                  · have hm' : m' = 1 := by omega
                    rw [if_pos hc1] at HT2
                    subst hc1 hm'
                    go_wp2_with (fail)
                    first | exact ⟨⟨1, F', _, _, _, by omega, rfl, rfl, HT2.out, HF2.out, trivial⟩, by simp [intOf]⟩ | exact ⟨⟨_, _, _, ⟨1, by omega, rfl, F', _, _, _, rfl, HT2.out, HF2.out⟩, rfl, rfl, rfl⟩, by simp [intOf]⟩
                  · rw [if_neg hc1] at HT2
                    have e8 : ¬ (c' : Int) = 1 := by omega
                    go_wp2_with (fail)
                    first | exact ⟨⟨1, F', _, _, _, by omega, rfl, rfl, HT2.out, HF2.out, trivial⟩, by simp [intOf]⟩ | exact ⟨⟨_, _, _, ⟨1, by omega, rfl, F', _, _, _, rfl, HT2.out, HF2.out⟩, rfl, rfl, rfl⟩, by simp [intOf]⟩
                · have HNO : Hid (matchK T 3 = false) := Lib.hid (match_no (j := 0) HF.out (by decide) (by intro h; exact hxe (Option.some.inj h)))
                  have d1 : ((txt x).toList == (txt [100, 114, 111, 112]).toList) = false := strNe hxe
                  have d2 : (x == [100, 114, 111, 112]) = false := by rw [beq_eq_false_iff_ne]; exact hxe
                  have d3 : (x != [100, 114, 111, 112]) = true := by rw [bne, d2]; rfl
                  clear HF hl' hxe HS'
                  go_wp2_with (fail)
                  exact ⟨⟨4, by omega, rfl, fun q hq => (Nat.lt_or_ge q 3).elim (HN.out q) (fun h => (show q = 3 by omega) ▸ HNO.out), HB3.out⟩, by simp [intOf]⟩
            | 1, _ =>
              as_aux_lemma =>
              rw [show ((1 : Nat) : Int) = 1 from rfl]
              clear hlt hj
              rcases hFc : F with _ | ⟨x, F'⟩
              · rw [hFc] at hl' HF
                obtain rfl : m' = 0 := hl'.symm
                have HNO : Hid (matchK T 3 = false) := Lib.hid (match_no (j := 1) HF.out (by decide) (by simp))
                clear hFc HF hl'
                go_wp2_with (fail)
                exact ⟨⟨4, by omega, rfl, fun q hq => (Nat.lt_or_ge q 3).elim (HN.out q) (fun h => (show q = 3 by omega) ▸ HNO.out), HB3.out⟩, by simp [intOf]⟩
              · rw [hFc] at hl' HF HS'
                simp only [List.length_cons] at hl'
                obtain ⟨b, o, rfl, _, hc⟩ := HS'.out.at_ (by omega)
                have hx := hc 0 x rfl
                rw [Nat.add_zero] at hx
                have hm0 : 0 < m' := by omega
                have hmc : (m' : Int) ≤ (c' : Int) := by omega
                have hm1 : (1 : Int) ≤ (m' : Int) := by omega
                clear hc hFc
                by_cases hxe : x = [111, 117, 116]
                · have HF2 : Hid (T = (rowW 3).take 2 ++ F') := Lib.hid (by rw [HF.out, hxe]; rfl)
                  have HT2 := Lib.hid HS'.out.tail
                  subst hxe
                  have d1 : ((txt [111, 117, 116]).toList == (txt [111, 117, 116]).toList) = true := by simp
                  clear HF hl'
                  by_cases hc1 : c' = 1
                  · have hm' : m' = 1 := by omega
                    rw [if_pos hc1] at HT2
                    subst hc1 hm'
                    go_wp2_with (fail)
                    first | exact ⟨⟨2, F', _, _, _, by omega, rfl, rfl, HT2.out, HF2.out, trivial⟩, by simp [intOf]⟩ | exact ⟨⟨_, _, _, ⟨2, by omega, rfl, F', _, _, _, rfl, HT2.out, HF2.out⟩, rfl, rfl, rfl⟩, by simp [intOf]⟩
                  · rw [if_neg hc1] at HT2
                    have e8 : ¬ (c' : Int) = 1 := by omega
                    go_wp2_with (fail)
                    first | exact ⟨⟨2, F', _, _, _, by omega, rfl, rfl, HT2.out, HF2.out, trivial⟩, by simp [intOf]⟩ | exact ⟨⟨_, _, _, ⟨2, by omega, rfl, F', _, _, _, rfl, HT2.out, HF2.out⟩, rfl, rfl, rfl⟩, by simp [intOf]⟩
                · have HNO : Hid (matchK T 3 = false) := Lib.hid (match_no (j := 1) HF.out (by decide) (by intro h; exact hxe (Option.some.inj h)))
                  have d1 : ((txt x).toList == (txt [111, 117, 116]).toList) = false := strNe hxe
                  have d2 : (x == [111, 117, 116]) = false := by rw [beq_eq_false_iff_ne]; exact hxe
                  have d3 : (x != [111, 117, 116]) = true := by rw [bne, d2]; rfl
                  clear HF hl' hxe HS'
                  go_wp2_with (fail)
                  exact ⟨⟨4, by omega, rfl, fun q hq => (Nat.lt_or_ge q 3).elim (HN.out q) (fun h => (show q = 3 by omega) ▸ HNO.out), HB3.out⟩, by simp [intOf]⟩
          · obtain rfl : j = 2 := by omega
            have HRW : Hid (readW T = (fieldsE false false false F).map fun r => ((3 : Int), r.2.1, r.2.2, r.1)) := Lib.hid (readW_at (k := 3) (by omega) HN.out HF.out)
            have HFL : Hid (∀ x ∈ F, x.length ≤ 100000000) := Lib.hid (fun x hx => HPL.out x (by rw [HF.out]; exact List.mem_append_right _ hx))
            have x0 : w3.cell? ⟨gb, 0, none⟩ = some (.string ⟨#[100, 114, 111, 112, 32, 111, 117, 116]⟩) := cell_of_row w3 gb 0 _ _ _ HX3.out
            have x1 : w3.cell? ⟨gb, 1, none⟩ = some (.bool false) := cell_of_row w3 gb 1 _ _ _ HX3.out
            have x2 : w3.cell? ⟨gb, 2, none⟩ = some (.bool false) := cell_of_row w3 gb 2 _ _ _ HX3.out
            have x3 : w3.cell? ⟨gb, 3, none⟩ = some (.bool false) := cell_of_row w3 gb 3 _ _ _ HX3.out
            clear hlt hj HF HN hl' hle' hmx' cw0 cw1
            go_wp2_with (fail)
            clear x0 x1 x2 x3
            refine (read000 ⟨#[100, 114, 111, 112, 32, 111, 117, 116]⟩ A' m' c' F w3 HS'.out HFL.out).mono ?_
            rintro e w4 (⟨k5, n5, p5, A5, m5, c5, l5, hfe, rfl, hB5, hb5⟩ | ⟨l5, n5, p5, A5, m5, c5, hfe, rfl, hB5, hf5, hb5⟩)
            · as_aux_lemma =>
              have HNR : Hid (readW T = none) := Lib.hid (by rw [HRW.out, hfe]; rfl)
              have HB4 : Hid (Below w.heap.size w (w4.alloc (.cells (evC k5 n5 p5 (.slice A5 m5 c5)) TE))) := Lib.hid ((HB1.out.trans (HB3.out.mono HB1.out.size)).trans (hb5.mono (Nat.le_trans HB1.out.size HB3.out.size)) |>.alloc (Nat.le_trans (Nat.le_trans HB1.out.size HB3.out.size) hb5.size) _)
              have HZF : Hid ((w4.alloc (.cells (evC k5 n5 p5 (.slice A5 m5 c5)) TE)).heap[G]? = some (.cells (evC 0 0 0 nilE) TE)) := Lib.hid (heap_keep ((hb5.block _ (Nat.lt_of_lt_of_le HGL.out HB3.out.size)).trans HZ3.out) _)
              clear hfe hB5 hb5
              have z0 : (w4.alloc (.cells (evC k5 n5 p5 (.slice A5 m5 c5)) TE)).cell? ⟨G, 0, none⟩ = some (.int .i64 0) := cell_of_row _ G 0 _ _ _ HZF.out
              have z1 : (w4.alloc (.cells (evC k5 n5 p5 (.slice A5 m5 c5)) TE)).cell? ⟨G, 1, none⟩ = some (.int .i64 0) := cell_of_row _ G 1 _ _ _ HZF.out
              have z2 : (w4.alloc (.cells (evC k5 n5 p5 (.slice A5 m5 c5)) TE)).cell? ⟨G, 2, none⟩ = some (.int .i64 0) := cell_of_row _ G 2 _ _ _ HZF.out
              have z3 : (w4.alloc (.cells (evC k5 n5 p5 (.slice A5 m5 c5)) TE)).cell? ⟨G, 3, none⟩ = some nilE := cell_of_row _ G 3 _ _ _ HZF.out
              have y0 := frozen_row (j := 0) HZF.out
              have y1 := frozen_row (j := 1) HZF.out
              have y2 := frozen_row (j := 2) HZF.out
              have y3 := frozen_row (j := 3) HZF.out
              have HBF : Hid (Below w.heap.size w (((((w4.alloc (.cells (evC k5 n5 p5 (.slice A5 m5 c5)) TE)).setCell ⟨G, 0, none⟩ (.int .i64 0)).setCell ⟨G, 1, none⟩ (.int .i64 0)).setCell ⟨G, 2, none⟩ (.int .i64 0)).setCell ⟨G, 3, none⟩ nilE)) := Lib.hid (((((HB4.out).setCell (p := ⟨G, 0, none⟩) (Nat.le_of_eq HG.out.symm) _).setCell (p := ⟨G, 1, none⟩) (Nat.le_of_eq HG.out.symm) _).setCell (p := ⟨G, 2, none⟩) (Nat.le_of_eq HG.out.symm) _).setCell (p := ⟨G, 3, none⟩) (Nat.le_of_eq HG.out.symm) _)
              go_wp2_with (fail)
              refine bodyPost_ret (v := .tuple #[evV 0 0 0 nilE, .int .i64 10]) ?_ rfl (.inl ⟨HNR.out, rfl, HBF.out⟩)
              exact resultsE Tryd.results13 _ _ G _ _ _ _ _ _ _ (by kernel_rfl) (by kernel_rfl) (finish_heap HZF.out rfl)
            · as_aux_lemma =>
              have HNR : Hid (readW T = some (3, n5, p5, l5)) := Lib.hid (by rw [HRW.out, hfe]; rfl)
              have HF5 : Hid (∀ x, A5 = some x → w.heap.size ≤ x.block) := Lib.hid (fun x hx => Nat.le_trans (Nat.le_trans HB1.out.size HB3.out.size) (hf5 x hx))
              clear hf5
              have HB4 : Hid (Below w.heap.size w (w4.alloc (.cells (evC 3 n5 p5 (.slice A5 m5 c5)) TE))) := Lib.hid ((HB1.out.trans (HB3.out.mono HB1.out.size)).trans (hb5.mono (Nat.le_trans HB1.out.size HB3.out.size)) |>.alloc (Nat.le_trans (Nat.le_trans HB1.out.size HB3.out.size) hb5.size) _)
              have HZF : Hid ((w4.alloc (.cells (evC 3 n5 p5 (.slice A5 m5 c5)) TE)).heap[G]? = some (.cells (evC 0 0 0 nilE) TE)) := Lib.hid (heap_keep ((hb5.block _ (Nat.lt_of_lt_of_le HGL.out HB3.out.size)).trans HZ3.out) _)
              have HBS5 := Lib.hid (hB5.alloc (.cells (evC 3 n5 p5 (.slice A5 m5 c5)) TE))
              clear hfe hB5 hb5
              have z0 : (w4.alloc (.cells (evC 3 n5 p5 (.slice A5 m5 c5)) TE)).cell? ⟨G, 0, none⟩ = some (.int .i64 0) := cell_of_row _ G 0 _ _ _ HZF.out
              have z1 : (w4.alloc (.cells (evC 3 n5 p5 (.slice A5 m5 c5)) TE)).cell? ⟨G, 1, none⟩ = some (.int .i64 0) := cell_of_row _ G 1 _ _ _ HZF.out
              have z2 : (w4.alloc (.cells (evC 3 n5 p5 (.slice A5 m5 c5)) TE)).cell? ⟨G, 2, none⟩ = some (.int .i64 0) := cell_of_row _ G 2 _ _ _ HZF.out
              have z3 : (w4.alloc (.cells (evC 3 n5 p5 (.slice A5 m5 c5)) TE)).cell? ⟨G, 3, none⟩ = some nilE := cell_of_row _ G 3 _ _ _ HZF.out
              have y0 := frozen_row (j := 0) HZF.out
              have y1 := frozen_row (j := 1) HZF.out
              have y2 := frozen_row (j := 2) HZF.out
              have y3 := frozen_row (j := 3) HZF.out
              have HBF : Hid (Below w.heap.size w (((((w4.alloc (.cells (evC 3 n5 p5 (.slice A5 m5 c5)) TE)).setCell ⟨G, 0, none⟩ (.int .i64 3)).setCell ⟨G, 1, none⟩ (.int .i64 n5)).setCell ⟨G, 2, none⟩ (.int .i64 p5)).setCell ⟨G, 3, none⟩ (.slice A5 m5 c5))) := Lib.hid ((((HB4.out.setCell (p := ⟨G, 0, none⟩) (Nat.le_of_eq HG.out.symm) _).setCell (p := ⟨G, 1, none⟩) (Nat.le_of_eq HG.out.symm) _).setCell (p := ⟨G, 2, none⟩) (Nat.le_of_eq HG.out.symm) _).setCell (p := ⟨G, 3, none⟩) (Nat.le_of_eq HG.out.symm) _)
              go_wp2_with (fail)
              refine bodyPost_ret (v := .tuple #[evV 3 n5 p5 (.slice A5 m5 c5), .int .i64 0]) ?_ rfl (.inr ⟨_, _, _, _, _, _, _, HNR.out, rfl, HBS5.out.ev4 HZF.out _ _ _ _, HF5.out, HBF.out⟩)
              exact resultsE Tryd.results13 _ _ G _ _ _ _ _ _ _ (by kernel_rfl) (by kernel_rfl) (finish_heap HZF.out rfl)
      | 4, _ =>
        as_aux_lemma =>
        rw [show ((4 : Nat) : Int) = 4 from rfl]
        have i0 : ∀ W, (Instr.index 59 (.agg rowsA) (.int .i64 4)).run Tryd.prog W = .ok (rowV ⟨#[116, 105, 99, 107]⟩ false true false) W := fun _ => by kernel_rfl
        clear hlt hk
        have hbA : Below w1.heap.size w1 (wo.alloc (.cells #[.string ⟨#[116, 105, 99, 107]⟩, .bool false, .bool true, .bool false] 58)) := HB.out.alloc HB.out.size _
        have HXB : Hid ((wo.alloc (.cells #[.string ⟨#[116, 105, 99, 107]⟩, .bool false, .bool true, .bool false] 58)).heap[wo.heap.size]? = some (.cells #[.string ⟨#[116, 105, 99, 107]⟩, .bool false, .bool true, .bool false] 58)) := Lib.hid (heap_alloc_new wo _)
        have HBA := Lib.hid hbA
        clear hbA
        go_wp2_with (fail)
        clear i0
        obtain ⟨gb, hgb⟩ : ∃ g, g = wo.heap.size := ⟨_, rfl⟩
        rw [← hgb] at HXB ⊢
        clear hgb
        generalize wo.alloc (.cells #[.string ⟨#[116, 105, 99, 107]⟩, .bool false, .bool true, .bool false] 58) = w2 at *
        refine (split_ ⟨#[116, 105, 99, 107]⟩ [[116, 105, 99, 107]] (by rfl) w2 (by decide) (HM.out _ (HB1.out.trans (HBA.out.mono HB1.out.size)))).mono ?_
        rintro e w3' ⟨rfl, rfl⟩
        have HCW : Hid ((w2.alloc (.cells (([[116, 105, 99, 107]] : List (List UInt8)).map str).toArray 9)).heap[w2.heap.size]? = some (.cells (([[116, 105, 99, 107]] : List (List UInt8)).map str).toArray 9)) := Lib.hid (heap_alloc_new w2 _)
        have HX3 := Lib.hid (heap_keep HXB.out (.cells (([[116, 105, 99, 107]] : List (List UInt8)).map str).toArray 9))
        have HB3 : Hid (Below w1.heap.size w1 (w2.alloc (.cells (([[116, 105, 99, 107]] : List (List UInt8)).map str).toArray 9))) := Lib.hid (HBA.out.alloc HBA.out.size _)
        generalize hw3 : w2.alloc (.cells (([[116, 105, 99, 107]] : List (List UInt8)).map str).toArray 9) = w3 at *
        clear hw3
        obtain ⟨gw, hgw⟩ : ∃ g, g = w2.heap.size := ⟨_, rfl⟩
        rw [← hgw] at HCW ⊢
        clear hgw
        simp only [List.length_cons, List.length_nil]
        have HZ3 := Lib.hid ((HB3.out.block _ HGL.out).trans HZ1.out)
        have HS3 := Lib.hid (HS.out.below HB3.out)
        clear HBA HXB HZ HB
        have cw0 : w3.cell? ⟨gw, 0, none⟩ = some (str [116, 105, 99, 107]) := cell_of_row w3 gw 0 _ _ _ HCW.out
        go_wp2_with (fail)
        go_loopw [24, 7, 9] (fun i f _ wr2 => ∃ (j : Nat) (F : List (List UInt8)) (A' : Option Addr) (m' c' : Nat), j ≤ 1 ∧ i = .int .i64 j ∧ f = .slice A' m' c' ∧ Ss w3 A' m' c' F ∧ T = (rowW 4).take j ++ F ∧ wr2 = w3) (fun i _ _ _ => 1 - (intOf i).toNat)
        case atStart => exact ⟨0, T, A, m, c, by omega, rfl, rfl, HS3.out, rfl, rfl⟩
        case round =>
          obtain ⟨j, F, A', m', c', hj, rfl, rfl, hS', hTF, hwr⟩ := hrel
          obtain rfl := hwr.symm
          have HF := Lib.hid hTF
          have HS' := Lib.hid hS'
          have hl' := hS'.len
          have hle' := hS'.le
          have hmx' := hS'.max
          clear hTF hS'
          by_cases hlt : j < 1
          · match j, hlt with
            | 0, _ =>
              as_aux_lemma =>
              rw [show ((0 : Nat) : Int) = 0 from rfl]
              clear hlt hj
              rcases hFc : F with _ | ⟨x, F'⟩
              · rw [hFc] at hl' HF
                obtain rfl : m' = 0 := hl'.symm
                have HNO : Hid (matchK T 4 = false) := Lib.hid (match_no (j := 0) HF.out (by decide) (by simp))
                clear hFc HF hl'
                go_wp2_with (fail)
                exact ⟨⟨5, by omega, rfl, fun q hq => (Nat.lt_or_ge q 4).elim (HN.out q) (fun h => (show q = 4 by omega) ▸ HNO.out), HB3.out⟩, by simp [intOf]⟩
              · rw [hFc] at hl' HF HS'
                simp only [List.length_cons] at hl'
                obtain ⟨b, o, rfl, _, hc⟩ := HS'.out.at_ (by omega)
                have hx := hc 0 x rfl
                rw [Nat.add_zero] at hx
                have hm0 : 0 < m' := by omega
                have hmc : (m' : Int) ≤ (c' : Int) := by omega
                have hm1 : (1 : Int) ≤ (m' : Int) := by omega
                clear hc hFc
                by_cases hxe : x = [116, 105, 99, 107]
                · have HF2 : Hid (T = (rowW 4).take 1 ++ F') := Lib.hid (by rw [HF.out, hxe]; rfl)
                  have HT2 := Lib.hid HS'.out.tail
                  subst hxe
                  have d1 : ((txt [116, 105, 99, 107]).toList == (txt [116, 105, 99, 107]).toList) = true := by simp
                  clear HF hl'
                  by_cases hc1 : c' = 1
                  · have hm' : m' = 1 := by omega
                    rw [if_pos hc1] at HT2
                    subst hc1 hm'
                    go_wp2_with (fail)
                    first | exact ⟨⟨1, F', _, _, _, by omega, rfl, rfl, HT2.out, HF2.out, trivial⟩, by simp [intOf]⟩ | exact ⟨⟨_, _, _, ⟨1, by omega, rfl, F', _, _, _, rfl, HT2.out, HF2.out⟩, rfl, rfl, rfl⟩, by simp [intOf]⟩
                  · rw [if_neg hc1] at HT2
                    have e8 : ¬ (c' : Int) = 1 := by omega
                    go_wp2_with (fail)
                    first | exact ⟨⟨1, F', _, _, _, by omega, rfl, rfl, HT2.out, HF2.out, trivial⟩, by simp [intOf]⟩ | exact ⟨⟨_, _, _, ⟨1, by omega, rfl, F', _, _, _, rfl, HT2.out, HF2.out⟩, rfl, rfl, rfl⟩, by simp [intOf]⟩
                · have HNO : Hid (matchK T 4 = false) := Lib.hid (match_no (j := 0) HF.out (by decide) (by intro h; exact hxe (Option.some.inj h)))
                  have d1 : ((txt x).toList == (txt [116, 105, 99, 107]).toList) = false := strNe hxe
                  have d2 : (x == [116, 105, 99, 107]) = false := by rw [beq_eq_false_iff_ne]; exact hxe
                  have d3 : (x != [116, 105, 99, 107]) = true := by rw [bne, d2]; rfl
                  clear HF hl' hxe HS'
                  go_wp2_with (fail)
                  exact ⟨⟨5, by omega, rfl, fun q hq => (Nat.lt_or_ge q 4).elim (HN.out q) (fun h => (show q = 4 by omega) ▸ HNO.out), HB3.out⟩, by simp [intOf]⟩
          · obtain rfl : j = 1 := by omega
            have HRW : Hid (readW T = (fieldsE false true false F).map fun r => ((4 : Int), r.2.1, r.2.2, r.1)) := Lib.hid (readW_at (k := 4) (by omega) HN.out HF.out)
            have HFL : Hid (∀ x ∈ F, x.length ≤ 100000000) := Lib.hid (fun x hx => HPL.out x (by rw [HF.out]; exact List.mem_append_right _ hx))
            have x0 : w3.cell? ⟨gb, 0, none⟩ = some (.string ⟨#[116, 105, 99, 107]⟩) := cell_of_row w3 gb 0 _ _ _ HX3.out
            have x1 : w3.cell? ⟨gb, 1, none⟩ = some (.bool false) := cell_of_row w3 gb 1 _ _ _ HX3.out
            have x2 : w3.cell? ⟨gb, 2, none⟩ = some (.bool true) := cell_of_row w3 gb 2 _ _ _ HX3.out
            have x3 : w3.cell? ⟨gb, 3, none⟩ = some (.bool false) := cell_of_row w3 gb 3 _ _ _ HX3.out
            clear hlt hj HF HN hl' hle' hmx' cw0
            go_wp2_with (fail)
            clear x0 x1 x2 x3
            refine (read010 ⟨#[116, 105, 99, 107]⟩ A' m' c' F w3 HS'.out HFL.out).mono ?_
            rintro e w4 (⟨k5, n5, p5, A5, m5, c5, l5, hfe, rfl, hB5, hb5⟩ | ⟨l5, n5, p5, A5, m5, c5, hfe, rfl, hB5, hf5, hb5⟩)
            · as_aux_lemma =>
              have HNR : Hid (readW T = none) := Lib.hid (by rw [HRW.out, hfe]; rfl)
              have HB4 : Hid (Below w.heap.size w (w4.alloc (.cells (evC k5 n5 p5 (.slice A5 m5 c5)) TE))) := Lib.hid ((HB1.out.trans (HB3.out.mono HB1.out.size)).trans (hb5.mono (Nat.le_trans HB1.out.size HB3.out.size)) |>.alloc (Nat.le_trans (Nat.le_trans HB1.out.size HB3.out.size) hb5.size) _)
              have HZF : Hid ((w4.alloc (.cells (evC k5 n5 p5 (.slice A5 m5 c5)) TE)).heap[G]? = some (.cells (evC 0 0 0 nilE) TE)) := Lib.hid (heap_keep ((hb5.block _ (Nat.lt_of_lt_of_le HGL.out HB3.out.size)).trans HZ3.out) _)
              clear hfe hB5 hb5
              have z0 : (w4.alloc (.cells (evC k5 n5 p5 (.slice A5 m5 c5)) TE)).cell? ⟨G, 0, none⟩ = some (.int .i64 0) := cell_of_row _ G 0 _ _ _ HZF.out
              have z1 : (w4.alloc (.cells (evC k5 n5 p5 (.slice A5 m5 c5)) TE)).cell? ⟨G, 1, none⟩ = some (.int .i64 0) := cell_of_row _ G 1 _ _ _ HZF.out
              have z2 : (w4.alloc (.cells (evC k5 n5 p5 (.slice A5 m5 c5)) TE)).cell? ⟨G, 2, none⟩ = some (.int .i64 0) := cell_of_row _ G 2 _ _ _ HZF.out
              have z3 : (w4.alloc (.cells (evC k5 n5 p5 (.slice A5 m5 c5)) TE)).cell? ⟨G, 3, none⟩ = some nilE := cell_of_row _ G 3 _ _ _ HZF.out
              have y0 := frozen_row (j := 0) HZF.out
              have y1 := frozen_row (j := 1) HZF.out
              have y2 := frozen_row (j := 2) HZF.out
              have y3 := frozen_row (j := 3) HZF.out
              have HBF : Hid (Below w.heap.size w (((((w4.alloc (.cells (evC k5 n5 p5 (.slice A5 m5 c5)) TE)).setCell ⟨G, 0, none⟩ (.int .i64 0)).setCell ⟨G, 1, none⟩ (.int .i64 0)).setCell ⟨G, 2, none⟩ (.int .i64 0)).setCell ⟨G, 3, none⟩ nilE)) := Lib.hid (((((HB4.out).setCell (p := ⟨G, 0, none⟩) (Nat.le_of_eq HG.out.symm) _).setCell (p := ⟨G, 1, none⟩) (Nat.le_of_eq HG.out.symm) _).setCell (p := ⟨G, 2, none⟩) (Nat.le_of_eq HG.out.symm) _).setCell (p := ⟨G, 3, none⟩) (Nat.le_of_eq HG.out.symm) _)
              go_wp2_with (fail)
              refine bodyPost_ret (v := .tuple #[evV 0 0 0 nilE, .int .i64 10]) ?_ rfl (.inl ⟨HNR.out, rfl, HBF.out⟩)
              exact resultsE Tryd.results13 _ _ G _ _ _ _ _ _ _ (by kernel_rfl) (by kernel_rfl) (finish_heap HZF.out rfl)
            · as_aux_lemma =>
              have HNR : Hid (readW T = some (4, n5, p5, l5)) := Lib.hid (by rw [HRW.out, hfe]; rfl)
              have HF5 : Hid (∀ x, A5 = some x → w.heap.size ≤ x.block) := Lib.hid (fun x hx => Nat.le_trans (Nat.le_trans HB1.out.size HB3.out.size) (hf5 x hx))
              clear hf5
              have HB4 : Hid (Below w.heap.size w (w4.alloc (.cells (evC 4 n5 p5 (.slice A5 m5 c5)) TE))) := Lib.hid ((HB1.out.trans (HB3.out.mono HB1.out.size)).trans (hb5.mono (Nat.le_trans HB1.out.size HB3.out.size)) |>.alloc (Nat.le_trans (Nat.le_trans HB1.out.size HB3.out.size) hb5.size) _)
              have HZF : Hid ((w4.alloc (.cells (evC 4 n5 p5 (.slice A5 m5 c5)) TE)).heap[G]? = some (.cells (evC 0 0 0 nilE) TE)) := Lib.hid (heap_keep ((hb5.block _ (Nat.lt_of_lt_of_le HGL.out HB3.out.size)).trans HZ3.out) _)
              have HBS5 := Lib.hid (hB5.alloc (.cells (evC 4 n5 p5 (.slice A5 m5 c5)) TE))
              clear hfe hB5 hb5
              have z0 : (w4.alloc (.cells (evC 4 n5 p5 (.slice A5 m5 c5)) TE)).cell? ⟨G, 0, none⟩ = some (.int .i64 0) := cell_of_row _ G 0 _ _ _ HZF.out
              have z1 : (w4.alloc (.cells (evC 4 n5 p5 (.slice A5 m5 c5)) TE)).cell? ⟨G, 1, none⟩ = some (.int .i64 0) := cell_of_row _ G 1 _ _ _ HZF.out
              have z2 : (w4.alloc (.cells (evC 4 n5 p5 (.slice A5 m5 c5)) TE)).cell? ⟨G, 2, none⟩ = some (.int .i64 0) := cell_of_row _ G 2 _ _ _ HZF.out
              have z3 : (w4.alloc (.cells (evC 4 n5 p5 (.slice A5 m5 c5)) TE)).cell? ⟨G, 3, none⟩ = some nilE := cell_of_row _ G 3 _ _ _ HZF.out
              have y0 := frozen_row (j := 0) HZF.out
              have y1 := frozen_row (j := 1) HZF.out
              have y2 := frozen_row (j := 2) HZF.out
              have y3 := frozen_row (j := 3) HZF.out
              have HBF : Hid (Below w.heap.size w (((((w4.alloc (.cells (evC 4 n5 p5 (.slice A5 m5 c5)) TE)).setCell ⟨G, 0, none⟩ (.int .i64 4)).setCell ⟨G, 1, none⟩ (.int .i64 n5)).setCell ⟨G, 2, none⟩ (.int .i64 p5)).setCell ⟨G, 3, none⟩ (.slice A5 m5 c5))) := Lib.hid ((((HB4.out.setCell (p := ⟨G, 0, none⟩) (Nat.le_of_eq HG.out.symm) _).setCell (p := ⟨G, 1, none⟩) (Nat.le_of_eq HG.out.symm) _).setCell (p := ⟨G, 2, none⟩) (Nat.le_of_eq HG.out.symm) _).setCell (p := ⟨G, 3, none⟩) (Nat.le_of_eq HG.out.symm) _)
              go_wp2_with (fail)
              refine bodyPost_ret (v := .tuple #[evV 4 n5 p5 (.slice A5 m5 c5), .int .i64 0]) ?_ rfl (.inr ⟨_, _, _, _, _, _, _, HNR.out, rfl, HBS5.out.ev4 HZF.out _ _ _ _, HF5.out, HBF.out⟩)
              exact resultsE Tryd.results13 _ _ G _ _ _ _ _ _ _ (by kernel_rfl) (by kernel_rfl) (finish_heap HZF.out rfl)
      | 5, _ =>
        as_aux_lemma =>
        rw [show ((5 : Nat) : Int) = 5 from rfl]
        have i0 : ∀ W, (Instr.index 59 (.agg rowsA) (.int .i64 5)).run Tryd.prog W = .ok (rowV ⟨#[114, 111, 111, 109]⟩ false true false) W := fun _ => by kernel_rfl
        clear hlt hk
        have hbA : Below w1.heap.size w1 (wo.alloc (.cells #[.string ⟨#[114, 111, 111, 109]⟩, .bool false, .bool true, .bool false] 58)) := HB.out.alloc HB.out.size _
        have HXB : Hid ((wo.alloc (.cells #[.string ⟨#[114, 111, 111, 109]⟩, .bool false, .bool true, .bool false] 58)).heap[wo.heap.size]? = some (.cells #[.string ⟨#[114, 111, 111, 109]⟩, .bool false, .bool true, .bool false] 58)) := Lib.hid (heap_alloc_new wo _)
        have HBA := Lib.hid hbA
        clear hbA
        go_wp2_with (fail)
        clear i0
        obtain ⟨gb, hgb⟩ : ∃ g, g = wo.heap.size := ⟨_, rfl⟩
        rw [← hgb] at HXB ⊢
        clear hgb
        generalize wo.alloc (.cells #[.string ⟨#[114, 111, 111, 109]⟩, .bool false, .bool true, .bool false] 58) = w2 at *
        refine (split_ ⟨#[114, 111, 111, 109]⟩ [[114, 111, 111, 109]] (by rfl) w2 (by decide) (HM.out _ (HB1.out.trans (HBA.out.mono HB1.out.size)))).mono ?_
        rintro e w3' ⟨rfl, rfl⟩
        have HCW : Hid ((w2.alloc (.cells (([[114, 111, 111, 109]] : List (List UInt8)).map str).toArray 9)).heap[w2.heap.size]? = some (.cells (([[114, 111, 111, 109]] : List (List UInt8)).map str).toArray 9)) := Lib.hid (heap_alloc_new w2 _)
        have HX3 := Lib.hid (heap_keep HXB.out (.cells (([[114, 111, 111, 109]] : List (List UInt8)).map str).toArray 9))
        have HB3 : Hid (Below w1.heap.size w1 (w2.alloc (.cells (([[114, 111, 111, 109]] : List (List UInt8)).map str).toArray 9))) := Lib.hid (HBA.out.alloc HBA.out.size _)
        generalize hw3 : w2.alloc (.cells (([[114, 111, 111, 109]] : List (List UInt8)).map str).toArray 9) = w3 at *
        clear hw3
        obtain ⟨gw, hgw⟩ : ∃ g, g = w2.heap.size := ⟨_, rfl⟩
        rw [← hgw] at HCW ⊢
        clear hgw
        simp only [List.length_cons, List.length_nil]
        have HZ3 := Lib.hid ((HB3.out.block _ HGL.out).trans HZ1.out)
        have HS3 := Lib.hid (HS.out.below HB3.out)
        clear HBA HXB HZ HB
        have cw0 : w3.cell? ⟨gw, 0, none⟩ = some (str [114, 111, 111, 109]) := cell_of_row w3 gw 0 _ _ _ HCW.out
        go_wp2_with (fail)
        go_loopw [24, 7, 9] (fun i f _ wr2 => ∃ (j : Nat) (F : List (List UInt8)) (A' : Option Addr) (m' c' : Nat), j ≤ 1 ∧ i = .int .i64 j ∧ f = .slice A' m' c' ∧ Ss w3 A' m' c' F ∧ T = (rowW 5).take j ++ F ∧ wr2 = w3) (fun i _ _ _ => 1 - (intOf i).toNat)
        case atStart => exact ⟨0, T, A, m, c, by omega, rfl, rfl, HS3.out, rfl, rfl⟩
        case round =>
          obtain ⟨j, F, A', m', c', hj, rfl, rfl, hS', hTF, hwr⟩ := hrel
          obtain rfl := hwr.symm
          have HF := Lib.hid hTF
          have HS' := Lib.hid hS'
          have hl' := hS'.len
          have hle' := hS'.le
          have hmx' := hS'.max
          clear hTF hS'
          by_cases hlt : j < 1
          · match j, hlt with
            | 0, _ =>
              as_aux_lemma =>
              rw [show ((0 : Nat) : Int) = 0 from rfl]
              clear hlt hj
              rcases hFc : F with _ | ⟨x, F'⟩
              · rw [hFc] at hl' HF
                obtain rfl : m' = 0 := hl'.symm
                have HNO : Hid (matchK T 5 = false) := Lib.hid (match_no (j := 0) HF.out (by decide) (by simp))
                clear hFc HF hl'
                go_wp2_with (fail)
                exact ⟨⟨6, by omega, rfl, fun q hq => (Nat.lt_or_ge q 5).elim (HN.out q) (fun h => (show q = 5 by omega) ▸ HNO.out), HB3.out⟩, by simp [intOf]⟩
              · rw [hFc] at hl' HF HS'
                simp only [List.length_cons] at hl'
                obtain ⟨b, o, rfl, _, hc⟩ := HS'.out.at_ (by omega)
                have hx := hc 0 x rfl
                rw [Nat.add_zero] at hx
                have hm0 : 0 < m' := by omega
                have hmc : (m' : Int) ≤ (c' : Int) := by omega
                have hm1 : (1 : Int) ≤ (m' : Int) := by omega
                clear hc hFc
                by_cases hxe : x = [114, 111, 111, 109]
                · have HF2 : Hid (T = (rowW 5).take 1 ++ F') := Lib.hid (by rw [HF.out, hxe]; rfl)
                  have HT2 := Lib.hid HS'.out.tail
                  subst hxe
                  have d1 : ((txt [114, 111, 111, 109]).toList == (txt [114, 111, 111, 109]).toList) = true := by simp
                  clear HF hl'
                  by_cases hc1 : c' = 1
                  · have hm' : m' = 1 := by omega
                    rw [if_pos hc1] at HT2
                    subst hc1 hm'
                    go_wp2_with (fail)
                    first | exact ⟨⟨1, F', _, _, _, by omega, rfl, rfl, HT2.out, HF2.out, trivial⟩, by simp [intOf]⟩ | exact ⟨⟨_, _, _, ⟨1, by omega, rfl, F', _, _, _, rfl, HT2.out, HF2.out⟩, rfl, rfl, rfl⟩, by simp [intOf]⟩
                  · rw [if_neg hc1] at HT2
                    have e8 : ¬ (c' : Int) = 1 := by omega
                    go_wp2_with (fail)
                    first | exact ⟨⟨1, F', _, _, _, by omega, rfl, rfl, HT2.out, HF2.out, trivial⟩, by simp [intOf]⟩ | exact ⟨⟨_, _, _, ⟨1, by omega, rfl, F', _, _, _, rfl, HT2.out, HF2.out⟩, rfl, rfl, rfl⟩, by simp [intOf]⟩
                · have HNO : Hid (matchK T 5 = false) := Lib.hid (match_no (j := 0) HF.out (by decide) (by intro h; exact hxe (Option.some.inj h)))
                  have d1 : ((txt x).toList == (txt [114, 111, 111, 109]).toList) = false := strNe hxe
                  have d2 : (x == [114, 111, 111, 109]) = false := by rw [beq_eq_false_iff_ne]; exact hxe
                  have d3 : (x != [114, 111, 111, 109]) = true := by rw [bne, d2]; rfl
                  clear HF hl' hxe HS'
                  go_wp2_with (fail)
                  exact ⟨⟨6, by omega, rfl, fun q hq => (Nat.lt_or_ge q 5).elim (HN.out q) (fun h => (show q = 5 by omega) ▸ HNO.out), HB3.out⟩, by simp [intOf]⟩
          · obtain rfl : j = 1 := by omega
            have HRW : Hid (readW T = (fieldsE false true false F).map fun r => ((5 : Int), r.2.1, r.2.2, r.1)) := Lib.hid (readW_at (k := 5) (by omega) HN.out HF.out)
            have HFL : Hid (∀ x ∈ F, x.length ≤ 100000000) := Lib.hid (fun x hx => HPL.out x (by rw [HF.out]; exact List.mem_append_right _ hx))
            have x0 : w3.cell? ⟨gb, 0, none⟩ = some (.string ⟨#[114, 111, 111, 109]⟩) := cell_of_row w3 gb 0 _ _ _ HX3.out
            have x1 : w3.cell? ⟨gb, 1, none⟩ = some (.bool false) := cell_of_row w3 gb 1 _ _ _ HX3.out
            have x2 : w3.cell? ⟨gb, 2, none⟩ = some (.bool true) := cell_of_row w3 gb 2 _ _ _ HX3.out
            have x3 : w3.cell? ⟨gb, 3, none⟩ = some (.bool false) := cell_of_row w3 gb 3 _ _ _ HX3.out
            clear hlt hj HF HN hl' hle' hmx' cw0
            go_wp2_with (fail)
            clear x0 x1 x2 x3
            refine (read010 ⟨#[114, 111, 111, 109]⟩ A' m' c' F w3 HS'.out HFL.out).mono ?_
            rintro e w4 (⟨k5, n5, p5, A5, m5, c5, l5, hfe, rfl, hB5, hb5⟩ | ⟨l5, n5, p5, A5, m5, c5, hfe, rfl, hB5, hf5, hb5⟩)
            · as_aux_lemma =>
              have HNR : Hid (readW T = none) := Lib.hid (by rw [HRW.out, hfe]; rfl)
              have HB4 : Hid (Below w.heap.size w (w4.alloc (.cells (evC k5 n5 p5 (.slice A5 m5 c5)) TE))) := Lib.hid ((HB1.out.trans (HB3.out.mono HB1.out.size)).trans (hb5.mono (Nat.le_trans HB1.out.size HB3.out.size)) |>.alloc (Nat.le_trans (Nat.le_trans HB1.out.size HB3.out.size) hb5.size) _)
              have HZF : Hid ((w4.alloc (.cells (evC k5 n5 p5 (.slice A5 m5 c5)) TE)).heap[G]? = some (.cells (evC 0 0 0 nilE) TE)) := Lib.hid (heap_keep ((hb5.block _ (Nat.lt_of_lt_of_le HGL.out HB3.out.size)).trans HZ3.out) _)
              clear hfe hB5 hb5
              have z0 : (w4.alloc (.cells (evC k5 n5 p5 (.slice A5 m5 c5)) TE)).cell? ⟨G, 0, none⟩ = some (.int .i64 0) := cell_of_row _ G 0 _ _ _ HZF.out
              have z1 : (w4.alloc (.cells (evC k5 n5 p5 (.slice A5 m5 c5)) TE)).cell? ⟨G, 1, none⟩ = some (.int .i64 0) := cell_of_row _ G 1 _ _ _ HZF.out
              have z2 : (w4.alloc (.cells (evC k5 n5 p5 (.slice A5 m5 c5)) TE)).cell? ⟨G, 2, none⟩ = some (.int .i64 0) := cell_of_row _ G 2 _ _ _ HZF.out
              have z3 : (w4.alloc (.cells (evC k5 n5 p5 (.slice A5 m5 c5)) TE)).cell? ⟨G, 3, none⟩ = some nilE := cell_of_row _ G 3 _ _ _ HZF.out
              have y0 := frozen_row (j := 0) HZF.out
              have y1 := frozen_row (j := 1) HZF.out
              have y2 := frozen_row (j := 2) HZF.out
              have y3 := frozen_row (j := 3) HZF.out
              have HBF : Hid (Below w.heap.size w (((((w4.alloc (.cells (evC k5 n5 p5 (.slice A5 m5 c5)) TE)).setCell ⟨G, 0, none⟩ (.int .i64 0)).setCell ⟨G, 1, none⟩ (.int .i64 0)).setCell ⟨G, 2, none⟩ (.int .i64 0)).setCell ⟨G, 3, none⟩ nilE)) := Lib.hid (((((HB4.out).setCell (p := ⟨G, 0, none⟩) (Nat.le_of_eq HG.out.symm) _).setCell (p := ⟨G, 1, none⟩) (Nat.le_of_eq HG.out.symm) _).setCell (p := ⟨G, 2, none⟩) (Nat.le_of_eq HG.out.symm) _).setCell (p := ⟨G, 3, none⟩) (Nat.le_of_eq HG.out.symm) _)
              go_wp2_with (fail)
              refine bodyPost_ret (v := .tuple #[evV 0 0 0 nilE, .int .i64 10]) ?_ rfl (.inl ⟨HNR.out, rfl, HBF.out⟩)
              exact resultsE Tryd.results13 _ _ G _ _ _ _ _ _ _ (by kernel_rfl) (by kernel_rfl) (finish_heap HZF.out rfl)
            · as_aux_lemma =>
              have HNR : Hid (readW T = some (5, n5, p5, l5)) := Lib.hid (by rw [HRW.out, hfe]; rfl)
              have HF5 : Hid (∀ x, A5 = some x → w.heap.size ≤ x.block) := Lib.hid (fun x hx => Nat.le_trans (Nat.le_trans HB1.out.size HB3.out.size) (hf5 x hx))
              clear hf5
              have HB4 : Hid (Below w.heap.size w (w4.alloc (.cells (evC 5 n5 p5 (.slice A5 m5 c5)) TE))) := Lib.hid ((HB1.out.trans (HB3.out.mono HB1.out.size)).trans (hb5.mono (Nat.le_trans HB1.out.size HB3.out.size)) |>.alloc (Nat.le_trans (Nat.le_trans HB1.out.size HB3.out.size) hb5.size) _)
              have HZF : Hid ((w4.alloc (.cells (evC 5 n5 p5 (.slice A5 m5 c5)) TE)).heap[G]? = some (.cells (evC 0 0 0 nilE) TE)) := Lib.hid (heap_keep ((hb5.block _ (Nat.lt_of_lt_of_le HGL.out HB3.out.size)).trans HZ3.out) _)
              have HBS5 := Lib.hid (hB5.alloc (.cells (evC 5 n5 p5 (.slice A5 m5 c5)) TE))
              clear hfe hB5 hb5
              have z0 : (w4.alloc (.cells (evC 5 n5 p5 (.slice A5 m5 c5)) TE)).cell? ⟨G, 0, none⟩ = some (.int .i64 0) := cell_of_row _ G 0 _ _ _ HZF.out
              have z1 : (w4.alloc (.cells (evC 5 n5 p5 (.slice A5 m5 c5)) TE)).cell? ⟨G, 1, none⟩ = some (.int .i64 0) := cell_of_row _ G 1 _ _ _ HZF.out
              have z2 : (w4.alloc (.cells (evC 5 n5 p5 (.slice A5 m5 c5)) TE)).cell? ⟨G, 2, none⟩ = some (.int .i64 0) := cell_of_row _ G 2 _ _ _ HZF.out
              have z3 : (w4.alloc (.cells (evC 5 n5 p5 (.slice A5 m5 c5)) TE)).cell? ⟨G, 3, none⟩ = some nilE := cell_of_row _ G 3 _ _ _ HZF.out
              have y0 := frozen_row (j := 0) HZF.out
              have y1 := frozen_row (j := 1) HZF.out
              have y2 := frozen_row (j := 2) HZF.out
              have y3 := frozen_row (j := 3) HZF.out
              have HBF : Hid (Below w.heap.size w (((((w4.alloc (.cells (evC 5 n5 p5 (.slice A5 m5 c5)) TE)).setCell ⟨G, 0, none⟩ (.int .i64 5)).setCell ⟨G, 1, none⟩ (.int .i64 n5)).setCell ⟨G, 2, none⟩ (.int .i64 p5)).setCell ⟨G, 3, none⟩ (.slice A5 m5 c5))) := Lib.hid ((((HB4.out.setCell (p := ⟨G, 0, none⟩) (Nat.le_of_eq HG.out.symm) _).setCell (p := ⟨G, 1, none⟩) (Nat.le_of_eq HG.out.symm) _).setCell (p := ⟨G, 2, none⟩) (Nat.le_of_eq HG.out.symm) _).setCell (p := ⟨G, 3, none⟩) (Nat.le_of_eq HG.out.symm) _)
              go_wp2_with (fail)
              refine bodyPost_ret (v := .tuple #[evV 5 n5 p5 (.slice A5 m5 c5), .int .i64 0]) ?_ rfl (.inr ⟨_, _, _, _, _, _, _, HNR.out, rfl, HBS5.out.ev4 HZF.out _ _ _ _, HF5.out, HBF.out⟩)
              exact resultsE Tryd.results13 _ _ G _ _ _ _ _ _ _ (by kernel_rfl) (by kernel_rfl) (finish_heap HZF.out rfl)
      | 6, _ =>
        as_aux_lemma =>
        rw [show ((6 : Nat) : Int) = 6 from rfl]
        have i0 : ∀ W, (Instr.index 59 (.agg rowsA) (.int .i64 6)).run Tryd.prog W = .ok (rowV ⟨#[102, 97, 105, 108, 115, 121, 110, 99]⟩ false true false) W := fun _ => by kernel_rfl
        clear hlt hk
        have hbA : Below w1.heap.size w1 (wo.alloc (.cells #[.string ⟨#[102, 97, 105, 108, 115, 121, 110, 99]⟩, .bool false, .bool true, .bool false] 58)) := HB.out.alloc HB.out.size _
        have HXB : Hid ((wo.alloc (.cells #[.string ⟨#[102, 97, 105, 108, 115, 121, 110, 99]⟩, .bool false, .bool true, .bool false] 58)).heap[wo.heap.size]? = some (.cells #[.string ⟨#[102, 97, 105, 108, 115, 121, 110, 99]⟩, .bool false, .bool true, .bool false] 58)) := Lib.hid (heap_alloc_new wo _)
        have HBA := Lib.hid hbA
        clear hbA
        go_wp2_with (fail)
        clear i0
        obtain ⟨gb, hgb⟩ : ∃ g, g = wo.heap.size := ⟨_, rfl⟩
        rw [← hgb] at HXB ⊢
        clear hgb
        generalize wo.alloc (.cells #[.string ⟨#[102, 97, 105, 108, 115, 121, 110, 99]⟩, .bool false, .bool true, .bool false] 58) = w2 at *
        refine (split_ ⟨#[102, 97, 105, 108, 115, 121, 110, 99]⟩ [[102, 97, 105, 108, 115, 121, 110, 99]] (by rfl) w2 (by decide) (HM.out _ (HB1.out.trans (HBA.out.mono HB1.out.size)))).mono ?_
        rintro e w3' ⟨rfl, rfl⟩
        have HCW : Hid ((w2.alloc (.cells (([[102, 97, 105, 108, 115, 121, 110, 99]] : List (List UInt8)).map str).toArray 9)).heap[w2.heap.size]? = some (.cells (([[102, 97, 105, 108, 115, 121, 110, 99]] : List (List UInt8)).map str).toArray 9)) := Lib.hid (heap_alloc_new w2 _)
        have HX3 := Lib.hid (heap_keep HXB.out (.cells (([[102, 97, 105, 108, 115, 121, 110, 99]] : List (List UInt8)).map str).toArray 9))
        have HB3 : Hid (Below w1.heap.size w1 (w2.alloc (.cells (([[102, 97, 105, 108, 115, 121, 110, 99]] : List (List UInt8)).map str).toArray 9))) := Lib.hid (HBA.out.alloc HBA.out.size _)
        generalize hw3 : w2.alloc (.cells (([[102, 97, 105, 108, 115, 121, 110, 99]] : List (List UInt8)).map str).toArray 9) = w3 at *
        clear hw3
        obtain ⟨gw, hgw⟩ : ∃ g, g = w2.heap.size := ⟨_, rfl⟩
        rw [← hgw] at HCW ⊢
        clear hgw
        simp only [List.length_cons, List.length_nil]
        have HZ3 := Lib.hid ((HB3.out.block _ HGL.out).trans HZ1.out)
        have HS3 := Lib.hid (HS.out.below HB3.out)
        clear HBA HXB HZ HB
        have cw0 : w3.cell? ⟨gw, 0, none⟩ = some (str [102, 97, 105, 108, 115, 121, 110, 99]) := cell_of_row w3 gw 0 _ _ _ HCW.out
        go_wp2_with (fail)
        go_loopw [24, 7, 9] (fun i f _ wr2 => ∃ (j : Nat) (F : List (List UInt8)) (A' : Option Addr) (m' c' : Nat), j ≤ 1 ∧ i = .int .i64 j ∧ f = .slice A' m' c' ∧ Ss w3 A' m' c' F ∧ T = (rowW 6).take j ++ F ∧ wr2 = w3) (fun i _ _ _ => 1 - (intOf i).toNat)
        case atStart => exact ⟨0, T, A, m, c, by omega, rfl, rfl, HS3.out, rfl, rfl⟩
        case round =>
          obtain ⟨j, F, A', m', c', hj, rfl, rfl, hS', hTF, hwr⟩ := hrel
          obtain rfl := hwr.symm
          have HF := Lib.hid hTF
          have HS' := Lib.hid hS'
          have hl' := hS'.len
          have hle' := hS'.le
          have hmx' := hS'.max
          clear hTF hS'
          by_cases hlt : j < 1
          · match j, hlt with
            | 0, _ =>
              as_aux_lemma =>
              rw [show ((0 : Nat) : Int) = 0 from rfl]
              clear hlt hj
              rcases hFc : F with _ | ⟨x, F'⟩
              · rw [hFc] at hl' HF
                obtain rfl : m' = 0 := hl'.symm
                have HNO : Hid (matchK T 6 = false) := Lib.hid (match_no (j := 0) HF.out (by decide) (by simp))
                clear hFc HF hl'
                go_wp2_with (fail)
                exact ⟨⟨7, by omega, rfl, fun q hq => (Nat.lt_or_ge q 6).elim (HN.out q) (fun h => (show q = 6 by omega) ▸ HNO.out), HB3.out⟩, by simp [intOf]⟩
              · rw [hFc] at hl' HF HS'
                simp only [List.length_cons] at hl'
                obtain ⟨b, o, rfl, _, hc⟩ := HS'.out.at_ (by omega)
                have hx := hc 0 x rfl
                rw [Nat.add_zero] at hx
                have hm0 : 0 < m' := by omega
                have hmc : (m' : Int) ≤ (c' : Int) := by omega
                have hm1 : (1 : Int) ≤ (m' : Int) := by omega
                clear hc hFc
                by_cases hxe : x = [102, 97, 105, 108, 115, 121, 110, 99]
                · have HF2 : Hid (T = (rowW 6).take 1 ++ F') := Lib.hid (by rw [HF.out, hxe]; rfl)
                  have HT2 := Lib.hid HS'.out.tail
                  subst hxe
                  have d1 : ((txt [102, 97, 105, 108, 115, 121, 110, 99]).toList == (txt [102, 97, 105, 108, 115, 121, 110, 99]).toList) = true := by simp
                  clear HF hl'
                  by_cases hc1 : c' = 1
                  · have hm' : m' = 1 := by omega
                    rw [if_pos hc1] at HT2
                    subst hc1 hm'
                    go_wp2_with (fail)
                    first | exact ⟨⟨1, F', _, _, _, by omega, rfl, rfl, HT2.out, HF2.out, trivial⟩, by simp [intOf]⟩ | exact ⟨⟨_, _, _, ⟨1, by omega, rfl, F', _, _, _, rfl, HT2.out, HF2.out⟩, rfl, rfl, rfl⟩, by simp [intOf]⟩
                  · rw [if_neg hc1] at HT2
                    have e8 : ¬ (c' : Int) = 1 := by omega
                    go_wp2_with (fail)
                    first | exact ⟨⟨1, F', _, _, _, by omega, rfl, rfl, HT2.out, HF2.out, trivial⟩, by simp [intOf]⟩ | exact ⟨⟨_, _, _, ⟨1, by omega, rfl, F', _, _, _, rfl, HT2.out, HF2.out⟩, rfl, rfl, rfl⟩, by simp [intOf]⟩
                · have HNO : Hid (matchK T 6 = false) := Lib.hid (match_no (j := 0) HF.out (by decide) (by intro h; exact hxe (Option.some.inj h)))
                  have d1 : ((txt x).toList == (txt [102, 97, 105, 108, 115, 121, 110, 99]).toList) = false := strNe hxe
                  have d2 : (x == [102, 97, 105, 108, 115, 121, 110, 99]) = false := by rw [beq_eq_false_iff_ne]; exact hxe
                  have d3 : (x != [102, 97, 105, 108, 115, 121, 110, 99]) = true := by rw [bne, d2]; rfl
                  clear HF hl' hxe HS'
                  go_wp2_with (fail)
                  exact ⟨⟨7, by omega, rfl, fun q hq => (Nat.lt_or_ge q 6).elim (HN.out q) (fun h => (show q = 6 by omega) ▸ HNO.out), HB3.out⟩, by simp [intOf]⟩
          · obtain rfl : j = 1 := by omega
            have HRW : Hid (readW T = (fieldsE false true false F).map fun r => ((6 : Int), r.2.1, r.2.2, r.1)) := Lib.hid (readW_at (k := 6) (by omega) HN.out HF.out)
            have HFL : Hid (∀ x ∈ F, x.length ≤ 100000000) := Lib.hid (fun x hx => HPL.out x (by rw [HF.out]; exact List.mem_append_right _ hx))
            have x0 : w3.cell? ⟨gb, 0, none⟩ = some (.string ⟨#[102, 97, 105, 108, 115, 121, 110, 99]⟩) := cell_of_row w3 gb 0 _ _ _ HX3.out
            have x1 : w3.cell? ⟨gb, 1, none⟩ = some (.bool false) := cell_of_row w3 gb 1 _ _ _ HX3.out
            have x2 : w3.cell? ⟨gb, 2, none⟩ = some (.bool true) := cell_of_row w3 gb 2 _ _ _ HX3.out
            have x3 : w3.cell? ⟨gb, 3, none⟩ = some (.bool false) := cell_of_row w3 gb 3 _ _ _ HX3.out
            clear hlt hj HF HN hl' hle' hmx' cw0
            go_wp2_with (fail)
            clear x0 x1 x2 x3
            refine (read010 ⟨#[102, 97, 105, 108, 115, 121, 110, 99]⟩ A' m' c' F w3 HS'.out HFL.out).mono ?_
            rintro e w4 (⟨k5, n5, p5, A5, m5, c5, l5, hfe, rfl, hB5, hb5⟩ | ⟨l5, n5, p5, A5, m5, c5, hfe, rfl, hB5, hf5, hb5⟩)
            · as_aux_lemma =>
              have HNR : Hid (readW T = none) := Lib.hid (by rw [HRW.out, hfe]; rfl)
              have HB4 : Hid (Below w.heap.size w (w4.alloc (.cells (evC k5 n5 p5 (.slice A5 m5 c5)) TE))) := Lib.hid ((HB1.out.trans (HB3.out.mono HB1.out.size)).trans (hb5.mono (Nat.le_trans HB1.out.size HB3.out.size)) |>.alloc (Nat.le_trans (Nat.le_trans HB1.out.size HB3.out.size) hb5.size) _)
              have HZF : Hid ((w4.alloc (.cells (evC k5 n5 p5 (.slice A5 m5 c5)) TE)).heap[G]? = some (.cells (evC 0 0 0 nilE) TE)) := Lib.hid (heap_keep ((hb5.block _ (Nat.lt_of_lt_of_le HGL.out HB3.out.size)).trans HZ3.out) _)
              clear hfe hB5 hb5
              have z0 : (w4.alloc (.cells (evC k5 n5 p5 (.slice A5 m5 c5)) TE)).cell? ⟨G, 0, none⟩ = some (.int .i64 0) := cell_of_row _ G 0 _ _ _ HZF.out
              have z1 : (w4.alloc (.cells (evC k5 n5 p5 (.slice A5 m5 c5)) TE)).cell? ⟨G, 1, none⟩ = some (.int .i64 0) := cell_of_row _ G 1 _ _ _ HZF.out
              have z2 : (w4.alloc (.cells (evC k5 n5 p5 (.slice A5 m5 c5)) TE)).cell? ⟨G, 2, none⟩ = some (.int .i64 0) := cell_of_row _ G 2 _ _ _ HZF.out
              have z3 : (w4.alloc (.cells (evC k5 n5 p5 (.slice A5 m5 c5)) TE)).cell? ⟨G, 3, none⟩ = some nilE := cell_of_row _ G 3 _ _ _ HZF.out
              have y0 := frozen_row (j := 0) HZF.out
              have y1 := frozen_row (j := 1) HZF.out
              have y2 := frozen_row (j := 2) HZF.out
              have y3 := frozen_row (j := 3) HZF.out
              have HBF : Hid (Below w.heap.size w (((((w4.alloc (.cells (evC k5 n5 p5 (.slice A5 m5 c5)) TE)).setCell ⟨G, 0, none⟩ (.int .i64 0)).setCell ⟨G, 1, none⟩ (.int .i64 0)).setCell ⟨G, 2, none⟩ (.int .i64 0)).setCell ⟨G, 3, none⟩ nilE)) := Lib.hid (((((HB4.out).setCell (p := ⟨G, 0, none⟩) (Nat.le_of_eq HG.out.symm) _).setCell (p := ⟨G, 1, none⟩) (Nat.le_of_eq HG.out.symm) _).setCell (p := ⟨G, 2, none⟩) (Nat.le_of_eq HG.out.symm) _).setCell (p := ⟨G, 3, none⟩) (Nat.le_of_eq HG.out.symm) _)
              go_wp2_with (fail)
              refine bodyPost_ret (v := .tuple #[evV 0 0 0 nilE, .int .i64 10]) ?_ rfl (.inl ⟨HNR.out, rfl, HBF.out⟩)
              exact resultsE Tryd.results13 _ _ G _ _ _ _ _ _ _ (by kernel_rfl) (by kernel_rfl) (finish_heap HZF.out rfl)
            · as_aux_lemma =>
              have HNR : Hid (readW T = some (6, n5, p5, l5)) := Lib.hid (by rw [HRW.out, hfe]; rfl)
              have HF5 : Hid (∀ x, A5 = some x → w.heap.size ≤ x.block) := Lib.hid (fun x hx => Nat.le_trans (Nat.le_trans HB1.out.size HB3.out.size) (hf5 x hx))
              clear hf5
              have HB4 : Hid (Below w.heap.size w (w4.alloc (.cells (evC 6 n5 p5 (.slice A5 m5 c5)) TE))) := Lib.hid ((HB1.out.trans (HB3.out.mono HB1.out.size)).trans (hb5.mono (Nat.le_trans HB1.out.size HB3.out.size)) |>.alloc (Nat.le_trans (Nat.le_trans HB1.out.size HB3.out.size) hb5.size) _)
              have HZF : Hid ((w4.alloc (.cells (evC 6 n5 p5 (.slice A5 m5 c5)) TE)).heap[G]? = some (.cells (evC 0 0 0 nilE) TE)) := Lib.hid (heap_keep ((hb5.block _ (Nat.lt_of_lt_of_le HGL.out HB3.out.size)).trans HZ3.out) _)
              have HBS5 := Lib.hid (hB5.alloc (.cells (evC 6 n5 p5 (.slice A5 m5 c5)) TE))
              clear hfe hB5 hb5
              have z0 : (w4.alloc (.cells (evC 6 n5 p5 (.slice A5 m5 c5)) TE)).cell? ⟨G, 0, none⟩ = some (.int .i64 0) := cell_of_row _ G 0 _ _ _ HZF.out
              have z1 : (w4.alloc (.cells (evC 6 n5 p5 (.slice A5 m5 c5)) TE)).cell? ⟨G, 1, none⟩ = some (.int .i64 0) := cell_of_row _ G 1 _ _ _ HZF.out
              have z2 : (w4.alloc (.cells (evC 6 n5 p5 (.slice A5 m5 c5)) TE)).cell? ⟨G, 2, none⟩ = some (.int .i64 0) := cell_of_row _ G 2 _ _ _ HZF.out
              have z3 : (w4.alloc (.cells (evC 6 n5 p5 (.slice A5 m5 c5)) TE)).cell? ⟨G, 3, none⟩ = some nilE := cell_of_row _ G 3 _ _ _ HZF.out
              have y0 := frozen_row (j := 0) HZF.out
              have y1 := frozen_row (j := 1) HZF.out
              have y2 := frozen_row (j := 2) HZF.out
              have y3 := frozen_row (j := 3) HZF.out
              have HBF : Hid (Below w.heap.size w (((((w4.alloc (.cells (evC 6 n5 p5 (.slice A5 m5 c5)) TE)).setCell ⟨G, 0, none⟩ (.int .i64 6)).setCell ⟨G, 1, none⟩ (.int .i64 n5)).setCell ⟨G, 2, none⟩ (.int .i64 p5)).setCell ⟨G, 3, none⟩ (.slice A5 m5 c5))) := Lib.hid ((((HB4.out.setCell (p := ⟨G, 0, none⟩) (Nat.le_of_eq HG.out.symm) _).setCell (p := ⟨G, 1, none⟩) (Nat.le_of_eq HG.out.symm) _).setCell (p := ⟨G, 2, none⟩) (Nat.le_of_eq HG.out.symm) _).setCell (p := ⟨G, 3, none⟩) (Nat.le_of_eq HG.out.symm) _)
              go_wp2_with (fail)
              refine bodyPost_ret (v := .tuple #[evV 6 n5 p5 (.slice A5 m5 c5), .int .i64 0]) ?_ rfl (.inr ⟨_, _, _, _, _, _, _, HNR.out, rfl, HBS5.out.ev4 HZF.out _ _ _ _, HF5.out, HBF.out⟩)
              exact resultsE Tryd.results13 _ _ G _ _ _ _ _ _ _ (by kernel_rfl) (by kernel_rfl) (finish_heap HZF.out rfl)
      | 7, _ =>
        as_aux_lemma =>
        rw [show ((7 : Nat) : Int) = 7 from rfl]
        have i0 : ∀ W, (Instr.index 59 (.agg rowsA) (.int .i64 7)).run Tryd.prog W = .ok (rowV ⟨#[97, 114, 109]⟩ false true true) W := fun _ => by kernel_rfl
        clear hlt hk
        have hbA : Below w1.heap.size w1 (wo.alloc (.cells #[.string ⟨#[97, 114, 109]⟩, .bool false, .bool true, .bool true] 58)) := HB.out.alloc HB.out.size _
        have HXB : Hid ((wo.alloc (.cells #[.string ⟨#[97, 114, 109]⟩, .bool false, .bool true, .bool true] 58)).heap[wo.heap.size]? = some (.cells #[.string ⟨#[97, 114, 109]⟩, .bool false, .bool true, .bool true] 58)) := Lib.hid (heap_alloc_new wo _)
        have HBA := Lib.hid hbA
        clear hbA
        go_wp2_with (fail)
        clear i0
        obtain ⟨gb, hgb⟩ : ∃ g, g = wo.heap.size := ⟨_, rfl⟩
        rw [← hgb] at HXB ⊢
        clear hgb
        generalize wo.alloc (.cells #[.string ⟨#[97, 114, 109]⟩, .bool false, .bool true, .bool true] 58) = w2 at *
        refine (split_ ⟨#[97, 114, 109]⟩ [[97, 114, 109]] (by rfl) w2 (by decide) (HM.out _ (HB1.out.trans (HBA.out.mono HB1.out.size)))).mono ?_
        rintro e w3' ⟨rfl, rfl⟩
        have HCW : Hid ((w2.alloc (.cells (([[97, 114, 109]] : List (List UInt8)).map str).toArray 9)).heap[w2.heap.size]? = some (.cells (([[97, 114, 109]] : List (List UInt8)).map str).toArray 9)) := Lib.hid (heap_alloc_new w2 _)
        have HX3 := Lib.hid (heap_keep HXB.out (.cells (([[97, 114, 109]] : List (List UInt8)).map str).toArray 9))
        have HB3 : Hid (Below w1.heap.size w1 (w2.alloc (.cells (([[97, 114, 109]] : List (List UInt8)).map str).toArray 9))) := Lib.hid (HBA.out.alloc HBA.out.size _)
        generalize hw3 : w2.alloc (.cells (([[97, 114, 109]] : List (List UInt8)).map str).toArray 9) = w3 at *
        clear hw3
        obtain ⟨gw, hgw⟩ : ∃ g, g = w2.heap.size := ⟨_, rfl⟩
        rw [← hgw] at HCW ⊢
        clear hgw
        simp only [List.length_cons, List.length_nil]
        have HZ3 := Lib.hid ((HB3.out.block _ HGL.out).trans HZ1.out)
        have HS3 := Lib.hid (HS.out.below HB3.out)
        clear HBA HXB HZ HB
        have cw0 : w3.cell? ⟨gw, 0, none⟩ = some (str [97, 114, 109]) := cell_of_row w3 gw 0 _ _ _ HCW.out
        go_wp2_with (fail)
        go_loopw [24, 7, 9] (fun i f _ wr2 => ∃ (j : Nat) (F : List (List UInt8)) (A' : Option Addr) (m' c' : Nat), j ≤ 1 ∧ i = .int .i64 j ∧ f = .slice A' m' c' ∧ Ss w3 A' m' c' F ∧ T = (rowW 7).take j ++ F ∧ wr2 = w3) (fun i _ _ _ => 1 - (intOf i).toNat)
        case atStart => exact ⟨0, T, A, m, c, by omega, rfl, rfl, HS3.out, rfl, rfl⟩
        case round =>
          obtain ⟨j, F, A', m', c', hj, rfl, rfl, hS', hTF, hwr⟩ := hrel
          obtain rfl := hwr.symm
          have HF := Lib.hid hTF
          have HS' := Lib.hid hS'
          have hl' := hS'.len
          have hle' := hS'.le
          have hmx' := hS'.max
          clear hTF hS'
          by_cases hlt : j < 1
          · match j, hlt with
            | 0, _ =>
              as_aux_lemma =>
              rw [show ((0 : Nat) : Int) = 0 from rfl]
              clear hlt hj
              rcases hFc : F with _ | ⟨x, F'⟩
              · rw [hFc] at hl' HF
                obtain rfl : m' = 0 := hl'.symm
                have HNO : Hid (matchK T 7 = false) := Lib.hid (match_no (j := 0) HF.out (by decide) (by simp))
                clear hFc HF hl'
                go_wp2_with (fail)
                exact ⟨⟨8, by omega, rfl, fun q hq => (Nat.lt_or_ge q 7).elim (HN.out q) (fun h => (show q = 7 by omega) ▸ HNO.out), HB3.out⟩, by simp [intOf]⟩
              · rw [hFc] at hl' HF HS'
                simp only [List.length_cons] at hl'
                obtain ⟨b, o, rfl, _, hc⟩ := HS'.out.at_ (by omega)
                have hx := hc 0 x rfl
                rw [Nat.add_zero] at hx
                have hm0 : 0 < m' := by omega
                have hmc : (m' : Int) ≤ (c' : Int) := by omega
                have hm1 : (1 : Int) ≤ (m' : Int) := by omega
                clear hc hFc
                by_cases hxe : x = [97, 114, 109]
                · have HF2 : Hid (T = (rowW 7).take 1 ++ F') := Lib.hid (by rw [HF.out, hxe]; rfl)
                  have HT2 := Lib.hid HS'.out.tail
                  subst hxe
                  have d1 : ((txt [97, 114, 109]).toList == (txt [97, 114, 109]).toList) = true := by simp
                  clear HF hl'
                  by_cases hc1 : c' = 1
                  · have hm' : m' = 1 := by omega
                    rw [if_pos hc1] at HT2
                    subst hc1 hm'
                    go_wp2_with (fail)
                    first | exact ⟨⟨1, F', _, _, _, by omega, rfl, rfl, HT2.out, HF2.out, trivial⟩, by simp [intOf]⟩ | exact ⟨⟨_, _, _, ⟨1, by omega, rfl, F', _, _, _, rfl, HT2.out, HF2.out⟩, rfl, rfl, rfl⟩, by simp [intOf]⟩
                  · rw [if_neg hc1] at HT2
                    have e8 : ¬ (c' : Int) = 1 := by omega
                    go_wp2_with (fail)
                    first | exact ⟨⟨1, F', _, _, _, by omega, rfl, rfl, HT2.out, HF2.out, trivial⟩, by simp [intOf]⟩ | exact ⟨⟨_, _, _, ⟨1, by omega, rfl, F', _, _, _, rfl, HT2.out, HF2.out⟩, rfl, rfl, rfl⟩, by simp [intOf]⟩
                · have HNO : Hid (matchK T 7 = false) := Lib.hid (match_no (j := 0) HF.out (by decide) (by intro h; exact hxe (Option.some.inj h)))
                  have d1 : ((txt x).toList == (txt [97, 114, 109]).toList) = false := strNe hxe
                  have d2 : (x == [97, 114, 109]) = false := by rw [beq_eq_false_iff_ne]; exact hxe
                  have d3 : (x != [97, 114, 109]) = true := by rw [bne, d2]; rfl
                  clear HF hl' hxe HS'
                  go_wp2_with (fail)
                  exact ⟨⟨8, by omega, rfl, fun q hq => (Nat.lt_or_ge q 7).elim (HN.out q) (fun h => (show q = 7 by omega) ▸ HNO.out), HB3.out⟩, by simp [intOf]⟩
          · obtain rfl : j = 1 := by omega
            have HRW : Hid (readW T = (fieldsE false true true F).map fun r => ((7 : Int), r.2.1, r.2.2, r.1)) := Lib.hid (readW_at (k := 7) (by omega) HN.out HF.out)
            have HFL : Hid (∀ x ∈ F, x.length ≤ 100000000) := Lib.hid (fun x hx => HPL.out x (by rw [HF.out]; exact List.mem_append_right _ hx))
            have x0 : w3.cell? ⟨gb, 0, none⟩ = some (.string ⟨#[97, 114, 109]⟩) := cell_of_row w3 gb 0 _ _ _ HX3.out
            have x1 : w3.cell? ⟨gb, 1, none⟩ = some (.bool false) := cell_of_row w3 gb 1 _ _ _ HX3.out
            have x2 : w3.cell? ⟨gb, 2, none⟩ = some (.bool true) := cell_of_row w3 gb 2 _ _ _ HX3.out
            have x3 : w3.cell? ⟨gb, 3, none⟩ = some (.bool true) := cell_of_row w3 gb 3 _ _ _ HX3.out
            clear hlt hj HF HN hl' hle' hmx' cw0
            go_wp2_with (fail)
            clear x0 x1 x2 x3
            refine (read011 ⟨#[97, 114, 109]⟩ A' m' c' F w3 HS'.out HFL.out).mono ?_
            rintro e w4 (⟨k5, n5, p5, A5, m5, c5, l5, hfe, rfl, hB5, hb5⟩ | ⟨l5, n5, p5, A5, m5, c5, hfe, rfl, hB5, hf5, hb5⟩)
            · as_aux_lemma =>
              have HNR : Hid (readW T = none) := Lib.hid (by rw [HRW.out, hfe]; rfl)
              have HB4 : Hid (Below w.heap.size w (w4.alloc (.cells (evC k5 n5 p5 (.slice A5 m5 c5)) TE))) := Lib.hid ((HB1.out.trans (HB3.out.mono HB1.out.size)).trans (hb5.mono (Nat.le_trans HB1.out.size HB3.out.size)) |>.alloc (Nat.le_trans (Nat.le_trans HB1.out.size HB3.out.size) hb5.size) _)
              have HZF : Hid ((w4.alloc (.cells (evC k5 n5 p5 (.slice A5 m5 c5)) TE)).heap[G]? = some (.cells (evC 0 0 0 nilE) TE)) := Lib.hid (heap_keep ((hb5.block _ (Nat.lt_of_lt_of_le HGL.out HB3.out.size)).trans HZ3.out) _)
              clear hfe hB5 hb5
              have z0 : (w4.alloc (.cells (evC k5 n5 p5 (.slice A5 m5 c5)) TE)).cell? ⟨G, 0, none⟩ = some (.int .i64 0) := cell_of_row _ G 0 _ _ _ HZF.out
              have z1 : (w4.alloc (.cells (evC k5 n5 p5 (.slice A5 m5 c5)) TE)).cell? ⟨G, 1, none⟩ = some (.int .i64 0) := cell_of_row _ G 1 _ _ _ HZF.out
              have z2 : (w4.alloc (.cells (evC k5 n5 p5 (.slice A5 m5 c5)) TE)).cell? ⟨G, 2, none⟩ = some (.int .i64 0) := cell_of_row _ G 2 _ _ _ HZF.out
              have z3 : (w4.alloc (.cells (evC k5 n5 p5 (.slice A5 m5 c5)) TE)).cell? ⟨G, 3, none⟩ = some nilE := cell_of_row _ G 3 _ _ _ HZF.out
              have y0 := frozen_row (j := 0) HZF.out
              have y1 := frozen_row (j := 1) HZF.out
              have y2 := frozen_row (j := 2) HZF.out
              have y3 := frozen_row (j := 3) HZF.out
              have HBF : Hid (Below w.heap.size w (((((w4.alloc (.cells (evC k5 n5 p5 (.slice A5 m5 c5)) TE)).setCell ⟨G, 0, none⟩ (.int .i64 0)).setCell ⟨G, 1, none⟩ (.int .i64 0)).setCell ⟨G, 2, none⟩ (.int .i64 0)).setCell ⟨G, 3, none⟩ nilE)) := Lib.hid (((((HB4.out).setCell (p := ⟨G, 0, none⟩) (Nat.le_of_eq HG.out.symm) _).setCell (p := ⟨G, 1, none⟩) (Nat.le_of_eq HG.out.symm) _).setCell (p := ⟨G, 2, none⟩) (Nat.le_of_eq HG.out.symm) _).setCell (p := ⟨G, 3, none⟩) (Nat.le_of_eq HG.out.symm) _)
              go_wp2_with (fail)
              refine bodyPost_ret (v := .tuple #[evV 0 0 0 nilE, .int .i64 10]) ?_ rfl (.inl ⟨HNR.out, rfl, HBF.out⟩)
              exact resultsE Tryd.results13 _ _ G _ _ _ _ _ _ _ (by kernel_rfl) (by kernel_rfl) (finish_heap HZF.out rfl)
            · as_aux_lemma =>
              have HNR : Hid (readW T = some (7, n5, p5, l5)) := Lib.hid (by rw [HRW.out, hfe]; rfl)
              have HF5 : Hid (∀ x, A5 = some x → w.heap.size ≤ x.block) := Lib.hid (fun x hx => Nat.le_trans (Nat.le_trans HB1.out.size HB3.out.size) (hf5 x hx))
              clear hf5
              have HB4 : Hid (Below w.heap.size w (w4.alloc (.cells (evC 7 n5 p5 (.slice A5 m5 c5)) TE))) := Lib.hid ((HB1.out.trans (HB3.out.mono HB1.out.size)).trans (hb5.mono (Nat.le_trans HB1.out.size HB3.out.size)) |>.alloc (Nat.le_trans (Nat.le_trans HB1.out.size HB3.out.size) hb5.size) _)
              have HZF : Hid ((w4.alloc (.cells (evC 7 n5 p5 (.slice A5 m5 c5)) TE)).heap[G]? = some (.cells (evC 0 0 0 nilE) TE)) := Lib.hid (heap_keep ((hb5.block _ (Nat.lt_of_lt_of_le HGL.out HB3.out.size)).trans HZ3.out) _)
              have HBS5 := Lib.hid (hB5.alloc (.cells (evC 7 n5 p5 (.slice A5 m5 c5)) TE))
              clear hfe hB5 hb5
              have z0 : (w4.alloc (.cells (evC 7 n5 p5 (.slice A5 m5 c5)) TE)).cell? ⟨G, 0, none⟩ = some (.int .i64 0) := cell_of_row _ G 0 _ _ _ HZF.out
              have z1 : (w4.alloc (.cells (evC 7 n5 p5 (.slice A5 m5 c5)) TE)).cell? ⟨G, 1, none⟩ = some (.int .i64 0) := cell_of_row _ G 1 _ _ _ HZF.out
              have z2 : (w4.alloc (.cells (evC 7 n5 p5 (.slice A5 m5 c5)) TE)).cell? ⟨G, 2, none⟩ = some (.int .i64 0) := cell_of_row _ G 2 _ _ _ HZF.out
              have z3 : (w4.alloc (.cells (evC 7 n5 p5 (.slice A5 m5 c5)) TE)).cell? ⟨G, 3, none⟩ = some nilE := cell_of_row _ G 3 _ _ _ HZF.out
              have y0 := frozen_row (j := 0) HZF.out
              have y1 := frozen_row (j := 1) HZF.out
              have y2 := frozen_row (j := 2) HZF.out
              have y3 := frozen_row (j := 3) HZF.out
              have HBF : Hid (Below w.heap.size w (((((w4.alloc (.cells (evC 7 n5 p5 (.slice A5 m5 c5)) TE)).setCell ⟨G, 0, none⟩ (.int .i64 7)).setCell ⟨G, 1, none⟩ (.int .i64 n5)).setCell ⟨G, 2, none⟩ (.int .i64 p5)).setCell ⟨G, 3, none⟩ (.slice A5 m5 c5))) := Lib.hid ((((HB4.out.setCell (p := ⟨G, 0, none⟩) (Nat.le_of_eq HG.out.symm) _).setCell (p := ⟨G, 1, none⟩) (Nat.le_of_eq HG.out.symm) _).setCell (p := ⟨G, 2, none⟩) (Nat.le_of_eq HG.out.symm) _).setCell (p := ⟨G, 3, none⟩) (Nat.le_of_eq HG.out.symm) _)
              go_wp2_with (fail)
              refine bodyPost_ret (v := .tuple #[evV 7 n5 p5 (.slice A5 m5 c5), .int .i64 0]) ?_ rfl (.inr ⟨_, _, _, _, _, _, _, HNR.out, rfl, HBS5.out.ev4 HZF.out _ _ _ _, HF5.out, HBF.out⟩)
              exact resultsE Tryd.results13 _ _ G _ _ _ _ _ _ _ (by kernel_rfl) (by kernel_rfl) (finish_heap HZF.out rfl)
      | 8, _ =>
        as_aux_lemma =>
        rw [show ((8 : Nat) : Int) = 8 from rfl]
        have i0 : ∀ W, (Instr.index 59 (.agg rowsA) (.int .i64 8)).run Tryd.prog W = .ok (rowV ⟨#[112, 111, 119, 101, 114]⟩ false false true) W := fun _ => by kernel_rfl
        clear hlt hk
        have hbA : Below w1.heap.size w1 (wo.alloc (.cells #[.string ⟨#[112, 111, 119, 101, 114]⟩, .bool false, .bool false, .bool true] 58)) := HB.out.alloc HB.out.size _
        have HXB : Hid ((wo.alloc (.cells #[.string ⟨#[112, 111, 119, 101, 114]⟩, .bool false, .bool false, .bool true] 58)).heap[wo.heap.size]? = some (.cells #[.string ⟨#[112, 111, 119, 101, 114]⟩, .bool false, .bool false, .bool true] 58)) := Lib.hid (heap_alloc_new wo _)
        have HBA := Lib.hid hbA
        clear hbA
        go_wp2_with (fail)
        clear i0
        obtain ⟨gb, hgb⟩ : ∃ g, g = wo.heap.size := ⟨_, rfl⟩
        rw [← hgb] at HXB ⊢
        clear hgb
        generalize wo.alloc (.cells #[.string ⟨#[112, 111, 119, 101, 114]⟩, .bool false, .bool false, .bool true] 58) = w2 at *
        refine (split_ ⟨#[112, 111, 119, 101, 114]⟩ [[112, 111, 119, 101, 114]] (by rfl) w2 (by decide) (HM.out _ (HB1.out.trans (HBA.out.mono HB1.out.size)))).mono ?_
        rintro e w3' ⟨rfl, rfl⟩
        have HCW : Hid ((w2.alloc (.cells (([[112, 111, 119, 101, 114]] : List (List UInt8)).map str).toArray 9)).heap[w2.heap.size]? = some (.cells (([[112, 111, 119, 101, 114]] : List (List UInt8)).map str).toArray 9)) := Lib.hid (heap_alloc_new w2 _)
        have HX3 := Lib.hid (heap_keep HXB.out (.cells (([[112, 111, 119, 101, 114]] : List (List UInt8)).map str).toArray 9))
        have HB3 : Hid (Below w1.heap.size w1 (w2.alloc (.cells (([[112, 111, 119, 101, 114]] : List (List UInt8)).map str).toArray 9))) := Lib.hid (HBA.out.alloc HBA.out.size _)
        generalize hw3 : w2.alloc (.cells (([[112, 111, 119, 101, 114]] : List (List UInt8)).map str).toArray 9) = w3 at *
        clear hw3
        obtain ⟨gw, hgw⟩ : ∃ g, g = w2.heap.size := ⟨_, rfl⟩
        rw [← hgw] at HCW ⊢
        clear hgw
        simp only [List.length_cons, List.length_nil]
        have HZ3 := Lib.hid ((HB3.out.block _ HGL.out).trans HZ1.out)
        have HS3 := Lib.hid (HS.out.below HB3.out)
        clear HBA HXB HZ HB
        have cw0 : w3.cell? ⟨gw, 0, none⟩ = some (str [112, 111, 119, 101, 114]) := cell_of_row w3 gw 0 _ _ _ HCW.out
        go_wp2_with (fail)
        go_loopw [24, 7, 9] (fun i f _ wr2 => ∃ (j : Nat) (F : List (List UInt8)) (A' : Option Addr) (m' c' : Nat), j ≤ 1 ∧ i = .int .i64 j ∧ f = .slice A' m' c' ∧ Ss w3 A' m' c' F ∧ T = (rowW 8).take j ++ F ∧ wr2 = w3) (fun i _ _ _ => 1 - (intOf i).toNat)
        case atStart => exact ⟨0, T, A, m, c, by omega, rfl, rfl, HS3.out, rfl, rfl⟩
        case round =>
          obtain ⟨j, F, A', m', c', hj, rfl, rfl, hS', hTF, hwr⟩ := hrel
          obtain rfl := hwr.symm
          have HF := Lib.hid hTF
          have HS' := Lib.hid hS'
          have hl' := hS'.len
          have hle' := hS'.le
          have hmx' := hS'.max
          clear hTF hS'
          by_cases hlt : j < 1
          · match j, hlt with
            | 0, _ =>
              as_aux_lemma =>
              rw [show ((0 : Nat) : Int) = 0 from rfl]
              clear hlt hj
              rcases hFc : F with _ | ⟨x, F'⟩
              · rw [hFc] at hl' HF
                obtain rfl : m' = 0 := hl'.symm
                have HNO : Hid (matchK T 8 = false) := Lib.hid (match_no (j := 0) HF.out (by decide) (by simp))
                clear hFc HF hl'
                go_wp2_with (fail)
                exact ⟨⟨9, by omega, rfl, fun q hq => (Nat.lt_or_ge q 8).elim (HN.out q) (fun h => (show q = 8 by omega) ▸ HNO.out), HB3.out⟩, by simp [intOf]⟩
              · rw [hFc] at hl' HF HS'
                simp only [List.length_cons] at hl'
                obtain ⟨b, o, rfl, _, hc⟩ := HS'.out.at_ (by omega)
                have hx := hc 0 x rfl
                rw [Nat.add_zero] at hx
                have hm0 : 0 < m' := by omega
                have hmc : (m' : Int) ≤ (c' : Int) := by omega
                have hm1 : (1 : Int) ≤ (m' : Int) := by omega
                clear hc hFc
                by_cases hxe : x = [112, 111, 119, 101, 114]
                · have HF2 : Hid (T = (rowW 8).take 1 ++ F') := Lib.hid (by rw [HF.out, hxe]; rfl)
                  have HT2 := Lib.hid HS'.out.tail
                  subst hxe
                  have d1 : ((txt [112, 111, 119, 101, 114]).toList == (txt [112, 111, 119, 101, 114]).toList) = true := by simp
                  clear HF hl'
                  by_cases hc1 : c' = 1
                  · have hm' : m' = 1 := by omega
                    rw [if_pos hc1] at HT2
                    subst hc1 hm'
                    go_wp2_with (fail)
                    first | exact ⟨⟨1, F', _, _, _, by omega, rfl, rfl, HT2.out, HF2.out, trivial⟩, by simp [intOf]⟩ | exact ⟨⟨_, _, _, ⟨1, by omega, rfl, F', _, _, _, rfl, HT2.out, HF2.out⟩, rfl, rfl, rfl⟩, by simp [intOf]⟩
                  · rw [if_neg hc1] at HT2
                    have e8 : ¬ (c' : Int) = 1 := by omega
                    go_wp2_with (fail)
                    first | exact ⟨⟨1, F', _, _, _, by omega, rfl, rfl, HT2.out, HF2.out, trivial⟩, by simp [intOf]⟩ | exact ⟨⟨_, _, _, ⟨1, by omega, rfl, F', _, _, _, rfl, HT2.out, HF2.out⟩, rfl, rfl, rfl⟩, by simp [intOf]⟩
                · have HNO : Hid (matchK T 8 = false) := Lib.hid (match_no (j := 0) HF.out (by decide) (by intro h; exact hxe (Option.some.inj h)))
                  have d1 : ((txt x).toList == (txt [112, 111, 119, 101, 114]).toList) = false := strNe hxe
                  have d2 : (x == [112, 111, 119, 101, 114]) = false := by rw [beq_eq_false_iff_ne]; exact hxe
                  have d3 : (x != [112, 111, 119, 101, 114]) = true := by rw [bne, d2]; rfl
                  clear HF hl' hxe HS'
                  go_wp2_with (fail)
                  exact ⟨⟨9, by omega, rfl, fun q hq => (Nat.lt_or_ge q 8).elim (HN.out q) (fun h => (show q = 8 by omega) ▸ HNO.out), HB3.out⟩, by simp [intOf]⟩
          · obtain rfl : j = 1 := by omega
            have HRW : Hid (readW T = (fieldsE false false true F).map fun r => ((8 : Int), r.2.1, r.2.2, r.1)) := Lib.hid (readW_at (k := 8) (by omega) HN.out HF.out)
            have HFL : Hid (∀ x ∈ F, x.length ≤ 100000000) := Lib.hid (fun x hx => HPL.out x (by rw [HF.out]; exact List.mem_append_right _ hx))
            have x0 : w3.cell? ⟨gb, 0, none⟩ = some (.string ⟨#[112, 111, 119, 101, 114]⟩) := cell_of_row w3 gb 0 _ _ _ HX3.out
            have x1 : w3.cell? ⟨gb, 1, none⟩ = some (.bool false) := cell_of_row w3 gb 1 _ _ _ HX3.out
            have x2 : w3.cell? ⟨gb, 2, none⟩ = some (.bool false) := cell_of_row w3 gb 2 _ _ _ HX3.out
            have x3 : w3.cell? ⟨gb, 3, none⟩ = some (.bool true) := cell_of_row w3 gb 3 _ _ _ HX3.out
            clear hlt hj HF HN hl' hle' hmx' cw0
            go_wp2_with (fail)
            clear x0 x1 x2 x3
            refine (read001 ⟨#[112, 111, 119, 101, 114]⟩ A' m' c' F w3 HS'.out HFL.out).mono ?_
            rintro e w4 (⟨k5, n5, p5, A5, m5, c5, l5, hfe, rfl, hB5, hb5⟩ | ⟨l5, n5, p5, A5, m5, c5, hfe, rfl, hB5, hf5, hb5⟩)
            · as_aux_lemma =>
              have HNR : Hid (readW T = none) := Lib.hid (by rw [HRW.out, hfe]; rfl)
              have HB4 : Hid (Below w.heap.size w (w4.alloc (.cells (evC k5 n5 p5 (.slice A5 m5 c5)) TE))) := Lib.hid ((HB1.out.trans (HB3.out.mono HB1.out.size)).trans (hb5.mono (Nat.le_trans HB1.out.size HB3.out.size)) |>.alloc (Nat.le_trans (Nat.le_trans HB1.out.size HB3.out.size) hb5.size) _)
              have HZF : Hid ((w4.alloc (.cells (evC k5 n5 p5 (.slice A5 m5 c5)) TE)).heap[G]? = some (.cells (evC 0 0 0 nilE) TE)) := Lib.hid (heap_keep ((hb5.block _ (Nat.lt_of_lt_of_le HGL.out HB3.out.size)).trans HZ3.out) _)
              clear hfe hB5 hb5
              have z0 : (w4.alloc (.cells (evC k5 n5 p5 (.slice A5 m5 c5)) TE)).cell? ⟨G, 0, none⟩ = some (.int .i64 0) := cell_of_row _ G 0 _ _ _ HZF.out
              have z1 : (w4.alloc (.cells (evC k5 n5 p5 (.slice A5 m5 c5)) TE)).cell? ⟨G, 1, none⟩ = some (.int .i64 0) := cell_of_row _ G 1 _ _ _ HZF.out
              have z2 : (w4.alloc (.cells (evC k5 n5 p5 (.slice A5 m5 c5)) TE)).cell? ⟨G, 2, none⟩ = some (.int .i64 0) := cell_of_row _ G 2 _ _ _ HZF.out
              have z3 : (w4.alloc (.cells (evC k5 n5 p5 (.slice A5 m5 c5)) TE)).cell? ⟨G, 3, none⟩ = some nilE := cell_of_row _ G 3 _ _ _ HZF.out
              have y0 := frozen_row (j := 0) HZF.out
              have y1 := frozen_row (j := 1) HZF.out
              have y2 := frozen_row (j := 2) HZF.out
              have y3 := frozen_row (j := 3) HZF.out
              have HBF : Hid (Below w.heap.size w (((((w4.alloc (.cells (evC k5 n5 p5 (.slice A5 m5 c5)) TE)).setCell ⟨G, 0, none⟩ (.int .i64 0)).setCell ⟨G, 1, none⟩ (.int .i64 0)).setCell ⟨G, 2, none⟩ (.int .i64 0)).setCell ⟨G, 3, none⟩ nilE)) := Lib.hid (((((HB4.out).setCell (p := ⟨G, 0, none⟩) (Nat.le_of_eq HG.out.symm) _).setCell (p := ⟨G, 1, none⟩) (Nat.le_of_eq HG.out.symm) _).setCell (p := ⟨G, 2, none⟩) (Nat.le_of_eq HG.out.symm) _).setCell (p := ⟨G, 3, none⟩) (Nat.le_of_eq HG.out.symm) _)
              go_wp2_with (fail)
              refine bodyPost_ret (v := .tuple #[evV 0 0 0 nilE, .int .i64 10]) ?_ rfl (.inl ⟨HNR.out, rfl, HBF.out⟩)
              exact resultsE Tryd.results13 _ _ G _ _ _ _ _ _ _ (by kernel_rfl) (by kernel_rfl) (finish_heap HZF.out rfl)
            · as_aux_lemma =>
              have HNR : Hid (readW T = some (8, n5, p5, l5)) := Lib.hid (by rw [HRW.out, hfe]; rfl)
              have HF5 : Hid (∀ x, A5 = some x → w.heap.size ≤ x.block) := Lib.hid (fun x hx => Nat.le_trans (Nat.le_trans HB1.out.size HB3.out.size) (hf5 x hx))
              clear hf5
              have HB4 : Hid (Below w.heap.size w (w4.alloc (.cells (evC 8 n5 p5 (.slice A5 m5 c5)) TE))) := Lib.hid ((HB1.out.trans (HB3.out.mono HB1.out.size)).trans (hb5.mono (Nat.le_trans HB1.out.size HB3.out.size)) |>.alloc (Nat.le_trans (Nat.le_trans HB1.out.size HB3.out.size) hb5.size) _)
              have HZF : Hid ((w4.alloc (.cells (evC 8 n5 p5 (.slice A5 m5 c5)) TE)).heap[G]? = some (.cells (evC 0 0 0 nilE) TE)) := Lib.hid (heap_keep ((hb5.block _ (Nat.lt_of_lt_of_le HGL.out HB3.out.size)).trans HZ3.out) _)
              have HBS5 := Lib.hid (hB5.alloc (.cells (evC 8 n5 p5 (.slice A5 m5 c5)) TE))
              clear hfe hB5 hb5
              have z0 : (w4.alloc (.cells (evC 8 n5 p5 (.slice A5 m5 c5)) TE)).cell? ⟨G, 0, none⟩ = some (.int .i64 0) := cell_of_row _ G 0 _ _ _ HZF.out
              have z1 : (w4.alloc (.cells (evC 8 n5 p5 (.slice A5 m5 c5)) TE)).cell? ⟨G, 1, none⟩ = some (.int .i64 0) := cell_of_row _ G 1 _ _ _ HZF.out
              have z2 : (w4.alloc (.cells (evC 8 n5 p5 (.slice A5 m5 c5)) TE)).cell? ⟨G, 2, none⟩ = some (.int .i64 0) := cell_of_row _ G 2 _ _ _ HZF.out
              have z3 : (w4.alloc (.cells (evC 8 n5 p5 (.slice A5 m5 c5)) TE)).cell? ⟨G, 3, none⟩ = some nilE := cell_of_row _ G 3 _ _ _ HZF.out
              have y0 := frozen_row (j := 0) HZF.out
              have y1 := frozen_row (j := 1) HZF.out
              have y2 := frozen_row (j := 2) HZF.out
              have y3 := frozen_row (j := 3) HZF.out
              have HBF : Hid (Below w.heap.size w (((((w4.alloc (.cells (evC 8 n5 p5 (.slice A5 m5 c5)) TE)).setCell ⟨G, 0, none⟩ (.int .i64 8)).setCell ⟨G, 1, none⟩ (.int .i64 n5)).setCell ⟨G, 2, none⟩ (.int .i64 p5)).setCell ⟨G, 3, none⟩ (.slice A5 m5 c5))) := Lib.hid ((((HB4.out.setCell (p := ⟨G, 0, none⟩) (Nat.le_of_eq HG.out.symm) _).setCell (p := ⟨G, 1, none⟩) (Nat.le_of_eq HG.out.symm) _).setCell (p := ⟨G, 2, none⟩) (Nat.le_of_eq HG.out.symm) _).setCell (p := ⟨G, 3, none⟩) (Nat.le_of_eq HG.out.symm) _)
              go_wp2_with (fail)
              refine bodyPost_ret (v := .tuple #[evV 8 n5 p5 (.slice A5 m5 c5), .int .i64 0]) ?_ rfl (.inr ⟨_, _, _, _, _, _, _, HNR.out, rfl, HBS5.out.ev4 HZF.out _ _ _ _, HF5.out, HBF.out⟩)
              exact resultsE Tryd.results13 _ _ G _ _ _ _ _ _ _ (by kernel_rfl) (by kernel_rfl) (finish_heap HZF.out rfl)
    · obtain rfl : k = 9 := by omega
      as_aux_lemma =>
      have HNR : Hid (readW T = none) := Lib.hid (readW_none HN.out)
      have HZF := Lib.hid HZ.out
      clear hlt hk HN
      have z0 : wo.cell? ⟨G, 0, none⟩ = some (.int .i64 0) := cell_of_row _ G 0 _ _ _ HZF.out
      have z1 : wo.cell? ⟨G, 1, none⟩ = some (.int .i64 0) := cell_of_row _ G 1 _ _ _ HZF.out
      have z2 : wo.cell? ⟨G, 2, none⟩ = some (.int .i64 0) := cell_of_row _ G 2 _ _ _ HZF.out
      have z3 : wo.cell? ⟨G, 3, none⟩ = some nilE := cell_of_row _ G 3 _ _ _ HZF.out
      have y0 := frozen_row (j := 0) HZF.out
      have y1 := frozen_row (j := 1) HZF.out
      have y2 := frozen_row (j := 2) HZF.out
      have y3 := frozen_row (j := 3) HZF.out
      have HBF : Hid (Below w.heap.size w ((((wo.setCell ⟨G, 0, none⟩ (.int .i64 0)).setCell ⟨G, 1, none⟩ (.int .i64 0)).setCell ⟨G, 2, none⟩ (.int .i64 0)).setCell ⟨G, 3, none⟩ nilE)) := Lib.hid (((((HB1.out.trans (HB.out.mono HB1.out.size)).setCell (p := ⟨G, 0, none⟩) (Nat.le_of_eq HG.out.symm) _).setCell (p := ⟨G, 1, none⟩) (Nat.le_of_eq HG.out.symm) _).setCell (p := ⟨G, 2, none⟩) (Nat.le_of_eq HG.out.symm) _).setCell (p := ⟨G, 3, none⟩) (Nat.le_of_eq HG.out.symm) _)
      go_wp2_with (fail)
      refine bodyPost_ret (v := .tuple #[evV 0 0 0 nilE, .int .i64 10]) ?_ rfl (.inl ⟨HNR.out, rfl, HBF.out⟩)
      exact resultsE Tryd.results13 _ _ G _ _ _ _ _ _ _ (by kernel_rfl) (by kernel_rfl) (finish_heap HZF.out rfl)
end Go.Proofs.YtnoppnnpennddaaDoor
