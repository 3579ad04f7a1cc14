/- Layer 19: a line parsed, walked, whatever stands ahead. -/
import Derived.Test.YtnoppnnpennddaaDoorTrQ
import Derived.Test.YtnoppnnpennddaaDoorTr7
namespace Go.Proofs.YtnoppnnpennddaaDoor
open Go.RowKit

abbrev goneB : List UInt8 := [103, 111, 110, 101]
/-- what a line makes of the steps ahead -/
def lineT (L : List TStep) (s : List UInt8) : Option (List TStep) :=
  match outD s with
  | some (b, l) => match L.getLast? with
    | none => none
    | some x => if x.cr = true then none else some (L.dropLast ++ [{ x with outs := x.outs ++ [⟨b, l⟩] }])
  | none => if s = goneB then match L.getLast? with
      | none => none
      | some x => if x.cr = true then none else some (L.dropLast ++ [{ x with cr := true }])
    else match readW (wordsN s) with
      | none => none
      | some (k, n, kp, l) => some (L ++ [⟨k, n, kp, l, [], false⟩])
theorem lineT_out {L : List TStep} {x : TStep} {s : List UInt8} {b : Bool} {l : List UInt8} (h : outD s = some (b, l)) : lineT (L ++ [x]) s = if x.cr = true then none else some (L ++ [{ x with outs := x.outs ++ [⟨b, l⟩] }]) := by
  unfold lineT
  rw [h]
  simp
theorem lineT_gone {L : List TStep} {x : TStep} {s : List UInt8} (h : outD s = none) (hs : s = goneB) : lineT (L ++ [x]) s = if x.cr = true then none else some (L ++ [{ x with cr := true }]) := by
  unfold lineT
  rw [h]
  simp only
  rw [if_pos hs]
  simp
theorem lineT_ev {L : List TStep} {s : List UInt8} (h : outD s = none) (hs : s ≠ goneB) : lineT L s = match readW (wordsN s) with
      | none => none
      | some (k, n, kp, l) => some (L ++ [⟨k, n, kp, l, [], false⟩]) := by
  unfold lineT
  rw [h]
  simp only
  rw [if_neg hs]
theorem lineT_nil {s : List UInt8} (h : (∃ b l, outD s = some (b, l)) ∨ (outD s = none ∧ s = goneB)) : lineT [] s = none := by
  unfold lineT
  rcases h with ⟨b, l, h⟩ | ⟨h, hs⟩
  · rw [h]; rfl
  · rw [h]
    simp only
    rw [if_pos hs]
    rfl
def RetPL (B : Nat) (r : Option (List TStep)) (w : World) (e : Ending) (w' : World) : Prop :=
  (r = none ∧ (∃ v, e = .returned (.tuple #[v, .bool false])) ∧ Below B w w') ∨ ∃ v L', r = some L' ∧ e = .returned (.tuple #[v, .bool true]) ∧ PSt w' B v L' ∧ Below B w w'

set_option maxHeartbeats 4000000 in
set_option maxRecDepth 100000 in
/-- nothing stands ahead -/
theorem lineNil (x : ByteArray) (B : Nat) (w : World) (hx : x.size ≤ 100000000) (hB : B ≤ w.heap.size) (h : (∃ b l, outD x.data.toList = some (b, l)) ∨ (outD x.data.toList = none ∧ x.data.toList = goneB)) :
    Calls Tryd.prog 41 #[nilE, .string x] w (RetPL B none w) := by
  have HBW := Lib.hid hB
  have HQ := Lib.hid h
  clear h
  go_enter Tryd.func41, Tryd.ntmps41
  go_wp2_with (fail)
  refine (readOutput_ x w hx).mono ?_
  rcases HQ.out with ⟨b, l, h1⟩ | ⟨h1, h2⟩
  · as_aux_lemma =>
    rw [h1]
    clear h1 HQ
    rintro e w1 (⟨hne, _⟩ | ⟨b', l', A5, m5, c5, he, rfl, _, _, hb1⟩)
    · cases hne
    · have HB1 : Hid (Below B w (w1.alloc (.cells (ouC b' (.slice A5 m5 c5)) TO))) := Lib.hid ((hb1.mono HBW.out).alloc (Nat.le_trans HBW.out hb1.size) _)
      clear hb1 he
      go_wp2_with (fail)
      go_ret2
      exact .inl ⟨rfl, ⟨_, rfl⟩, HB1.out⟩
  · as_aux_lemma =>
    rw [h1]
    have e1 : (x.toList == goneB) = true := by rw [Go.ByteArray.toList_eq, h2]; rfl
    have e2 : (x.toList != goneB) = false := by rw [bne, e1]; rfl
    clear h1 h2 HQ
    rintro e w1 (⟨_, rfl, hb1⟩ | ⟨b', l', A5, m5, c5, he, _⟩)
    · have HB1 : Hid (Below B w (w1.alloc (.cells (ouC false nilE) TO))) := Lib.hid ((hb1.mono HBW.out).alloc (Nat.le_trans HBW.out hb1.size) _)
      clear hb1
      go_wp2_with (fail)
      go_ret2
      exact .inl ⟨rfl, ⟨_, rfl⟩, HB1.out⟩
    · cases he

set_option maxHeartbeats 4000000 in
set_option maxRecDepth 100000 in
/-- an output or the power's loss, behind a step -/
theorem lineOut (x : ByteArray) (B g cap : Nat) (L0 : List TStep) (P0 : List (Value × Value)) (y : TStep) (dv ov : Value) (D : List Value) (w : World) (hx : x.size ≤ 100000000) (hB : B ≤ w.heap.size) (hL : L0.length ≤ 100000000) (hy : y.outs.length ≤ 100000000) (h : PSt1 w B g cap L0 P0 y dv ov D) (b : Bool) (l : List UInt8) (h1 : outD x.data.toList = some (b, l)) :
    Calls Tryd.prog 41 #[.slice (some ⟨g, 0, none⟩) (L0.length + 1) cap, .string x] w (RetPL B (lineT (L0 ++ [y]) x.data.toList) w) := by
  have HBW := Lib.hid hB
  have HP := Lib.hid h
  have HLT := Lib.hid (lineT_out (L := L0) (x := y) h1)
  have HLN := Lib.hid hL
  have HYN := Lib.hid hy
  have HC1 : Hid (L0.length + 1 ≤ cap ∧ cap ≤ maxLen) := Lib.hid ⟨h.sts.2.1, h.sts.2.2.1⟩
  clear h hL hy
  go_enter Tryd.func41, Tryd.ntmps41
  go_wp2_with (fail)
  refine (readOutput_ x w hx).mono ?_
  rw [h1]
  clear h1
  rintro e w1 (⟨hne, _⟩ | ⟨b', l', A5, m5, c5, he, rfl, hB5, hf5, hb1⟩)
  · cases hne
  injection he with he
  simp only [Prod.mk.injEq] at he
  obtain ⟨rfl, rfl⟩ := he
  have HP1 := Lib.hid (HP.out.below hb1)
  have HBS := Lib.hid hB5
  have HFR := Lib.hid hf5
  have HB1 := Lib.hid hb1
  have hbA : Below w1.heap.size w1 (w1.alloc (.cells (ouC b (.slice A5 m5 c5)) TO)) := (Below.refl _ w1).alloc (Nat.le_refl _) _
  have HBA := Lib.hid (hb1.trans (hbA.mono hb1.size))
  have HPA := Lib.hid (HP1.out.below hbA)
  clear hB5 hf5 hb1
  generalize hq : L0.length = q at *
  have hcap : (q : Int) + 1 ≤ (cap : Int) := by have := HC1.out.1; omega
  have hmx : cap ≤ 9223372036854775807 := by have := HC1.out.2; simpa only [maxLen] using this
  have hw1 : IntKind.i64.wrap (q : Int) = (q : Int) := IntWalk.i64_in _ (by have := HLN.out; omega)
  have hz : ((q : Int) + 1 == 0) = false := by rw [beq_eq_false_iff_ne]; omega
  have c5' : (w1.alloc (.cells (ouC b (.slice A5 m5 c5)) TO)).cell? ⟨g, q * 6 + 5, none⟩ = some (.bool y.cr) := by
    have := HPA.out.sts.2.2.2 (by omega)
    obtain ⟨b', o', e', hc⟩ := this
    injection e' with e'
    injection e' with e1 e2
    subst e1 e2
    have := (hc q y (by rw [← hq]; simp)).2.2.2.2.2
    simpa using this
  have hg1 : g < w1.heap.size := (World.ownsRow.lt HP1.out.2.1 g rfl).2
  have HGW : Hid (g < w.heap.size) := Lib.hid (World.ownsRow.lt HP.out.2.1 g rfl).2
  have HGB : Hid (B ≤ g) := Lib.hid (World.ownsRow.lt HP.out.2.1 g rfl).1
  have HOW : Hid (∀ k, ov.ownBlock = some k → B ≤ k ∧ k < w.heap.size) := Lib.hid (World.ownsRow.lt HP.out.2.2.2.2.2.1)
  cases hcr : y.cr
  · as_aux_lemma =>
    rw [hcr] at c5'
    have HC4 : Hid (∀ W : World, W.ownsRow B TS 6 (.slice (some ⟨g, 0, none⟩) (q + 1) cap) (q + 1) (stepsC L0 P0 ++ stepC y (dv, ov)) → W.cell? ⟨g, q * 6 + 4, none⟩ = some ov) := Lib.hid (fun W h => by
      rw [h.cellAt (q * 6 + 4) (by omega), List.getElem?_append_right (by rw [stepsC_len HP.out.1]; omega), stepsC_len HP.out.1, show q * 6 + 4 - L0.length * 6 = 4 from by omega]
      rfl)
    have HROW : Hid (w1.ownsRow B TS 6 (.slice (some ⟨g, 0, none⟩) (q + 1) cap) (q + 1) (stepsC L0 P0 ++ stepC y (dv, ov))) := Lib.hid (hq ▸ HP1.out.2.1)
    have q4 : ∀ o, (w1.alloc o).cell? ⟨g, q * 6 + 4, none⟩ = some ov := fun o => HC4.out _ (HROW.out.alloc o)
    have p4 : ∀ o, (w1.alloc o).frozen? ⟨g, q * 6 + 4, none⟩ = false := fun o => (HROW.out.alloc o).frozenAt _
    have HC : Hid (((w1.alloc (.cells (ouC b (.slice A5 m5 c5)) TO)).alloc (.cells (ouC b (.slice A5 m5 c5)) TO)).heap[w1.heap.size + 1]? = some (.cells [Value.bool b, .slice A5 m5 c5].toArray TO)) := Lib.hid (by
      have h := heap_alloc_new (w1.alloc (.cells (ouC b (.slice A5 m5 c5)) TO)) (.cells (ouC b (.slice A5 m5 c5)) TO)
      rwa [World.size_alloc] at h)
    have HBL : Hid (Below w.heap.size w ((w1.alloc (.cells (ouC b (.slice A5 m5 c5)) TO)).alloc (.cells (ouC b (.slice A5 m5 c5)) TO)).drew) := Lib.hid (HBA.out.alloc HBA.out.size _).drew
    have HBL1 : Hid (Below w1.heap.size w1 ((w1.alloc (.cells (ouC b (.slice A5 m5 c5)) TO)).alloc (.cells (ouC b (.slice A5 m5 c5)) TO)).drew) := Lib.hid (((Below.refl _ w1).alloc (Nat.le_refl _) _).alloc (by rw [World.size_alloc]; omega) _).drew
    have HSZ : Hid (B ≤ ((w1.alloc (.cells (ouC b (.slice A5 m5 c5)) TO)).alloc (.cells (ouC b (.slice A5 m5 c5)) TO)).drew.heap.size) := Lib.hid (Nat.le_trans HBW.out HBL.out.size)
    have HPW : Hid (PSt1 ((w1.alloc (.cells (ouC b (.slice A5 m5 c5)) TO)).alloc (.cells (ouC b (.slice A5 m5 c5)) TO)).drew B g cap L0 P0 y dv ov D) := Lib.hid (HP1.out.below HBL1.out)
    have HOWN : Hid (((w1.alloc (.cells (ouC b (.slice A5 m5 c5)) TO)).alloc (.cells (ouC b (.slice A5 m5 c5)) TO)).drew.ownsRow B TO 2 ov y.outs.length (outsC y.outs D)) := Lib.hid HPW.out.2.2.2.2.2.1
    have HW1 : Hid (((w1.alloc (.cells (ouC b (.slice A5 m5 c5)) TO)).alloc (.cells (ouC b (.slice A5 m5 c5)) TO)).drew.ownsRow B TS 6 (.slice (some ⟨g, 0, none⟩) (q + 1) cap) (q + 1) (stepsC L0 P0 ++ stepC y (dv, ov))) := Lib.hid (hq ▸ HPW.out.2.1)
    have HNG : Hid (∀ k, (Value.slice (some ⟨g, 0, none⟩) (q + 1) cap).ownBlock = some k → ¬ ov.ownBlock = some k) := Lib.hid (fun k hk hx => by
      simp only [Value.ownBlock, Option.some.injEq] at hk
      subst hk
      exact own_apart HOWN.out HW1.out (by decide) rfl hx)
    have HDX : Hid (BsX (XS g ov) ((w1.alloc (.cells (ouC b (.slice A5 m5 c5)) TO)).alloc (.cells (ouC b (.slice A5 m5 c5)) TO)).drew (.slice A5 m5 c5) l) := Lib.hid (BsX.ch (X := XS g ov) (w := w1) ⟨A5, m5, c5, rfl, HBS.out, fun a ha => .inr (by
      have h1 := HFR.out a ha
      rintro (h | h)
      · have := HGW.out; omega
      · have := (HOW.out _ h).2; omega)⟩ (Ch.of_below HBL1.out) (fun _ _ h => h))
    have tok1 : Hid True := Lib.hid trivial
    obtain ⟨N, hN⟩ : ∃ N, N = y.outs.length := ⟨_, rfl⟩
    have HNN := Lib.hid hN
    have HNL : Hid (N ≤ 100000000) := Lib.hid (hN ▸ HYN.out)
    rw [← hN] at HOWN
    have HQ := Lib.hid hq
    have HLT' : Hid (lineT (L0 ++ [y]) x.data.toList = some (L0 ++ [{ y with outs := y.outs ++ [⟨b, l⟩] }])) := Lib.hid (by rw [HLT.out, if_neg (by rw [hcr]; decide)])
    clear hN hq HLT
    go_wp2_with (fail)
    go_region_law (first | (have _t := tok1; refine step_appOne rfl (.tmp 57) (.tmp 59) 36 rfl B TO (ouV false nilE) 2 32 Tryd.underlying36 ouInfo rfl (by decide) ov N (outsC y.outs D) rfl HOWN.out [.bool b, .slice A5 m5 c5] _ (w1.heap.size + 1) HC.out rfl rfl (ouC_one _ _ _ _) (by have := HNL.out; omega) (by decide) HSZ.out ?_; intro gO cO w5 ho5 hg5 hat5 hlt5; have HO5 := Lib.hid ho5; have HCH := Lib.hid (Ch.of_grown (S := fun b => ov.ownBlock = some b) hg5 (fun k hk => hk)); have HW5 := Lib.hid (row_ch HW1.out HCH.out HNG.out); have s4 : w5.cell? ⟨g, q * 6 + 4, none⟩ = some ov := HC4.out _ HW5.out; have t4 : w5.frozen? ⟨g, q * 6 + 4, none⟩ = false := HW5.out.frozenAt _; have HAT := Lib.hid hat5; clear tok1 _t ho5 hg5 hat5))
    all_goals
      have HF : Hid (PSt1 (w5.setCell ⟨g, q * 6 + 4, none⟩ (.slice (some ⟨gO, 0, none⟩) (N + 1) cO)) B g cap L0 P0 { y with outs := y.outs ++ [⟨b, l⟩] } dv (.slice (some ⟨gO, 0, none⟩) (N + 1) cO) (D ++ [.slice A5 m5 c5])) := Lib.hid (by
        have h := PSt1.out HPW.out ⟨b, l⟩ (.slice A5 m5 c5) (.slice (some ⟨gO, 0, none⟩) (N + 1) cO) (by rw [← HNN.out]; exact HO5.out) HCH.out (fun k hk => by
          simp only [Value.ownBlock, Option.some.injEq] at hk
          subst hk
          rcases HAT.out with h | h
          · exact .inl h
          · exact .inr (Nat.le_of_eq h.symm)) (HDX.out.ch (HCH.out.wide (fun z h => .inr h)) (fun z hz hx => by
          rcases hx with h | h
          · exact .inl h
          · simp only [Value.ownBlock, Option.some.injEq] at h
            subst h
            rcases HAT.out with h | h
            · exact .inr h
            · exact absurd hz (by rw [h]; exact Nat.lt_irrefl _)))
        rwa [HQ.out] at h)
      have HBF : Hid (Below B w (w5.setCell ⟨g, q * 6 + 4, none⟩ (.slice (some ⟨gO, 0, none⟩) (N + 1) cO))) := Lib.hid (((HBL.out.mono HBW.out).trans (HCH.out.below (fun k hk => (HOW.out k hk).1) HSZ.out)).setCell (p := ⟨g, q * 6 + 4, none⟩) HGB.out _)
      go_wp2_with (fail)
      go_ret2
      exact .inr ⟨_, _, HLT'.out, rfl, .inr ⟨L0, _, P0, dv, _, _, g, cap, rfl, (by rw [HQ.out]; rfl), HF.out⟩, HBF.out⟩
  · as_aux_lemma =>
    rw [hcr] at c5' HLT
    have HLT' : Hid (lineT (L0 ++ [y]) x.data.toList = none) := Lib.hid (by rw [HLT.out]; rfl)
    have HBE := Lib.hid (HBA.out.mono HBW.out)
    go_wp2_with (fail)
    go_ret2
    exact .inl ⟨HLT'.out, ⟨_, rfl⟩, HBE.out⟩

set_option maxHeartbeats 4000000 in
set_option maxRecDepth 100000 in
theorem lineGone (x : ByteArray) (B g cap : Nat) (L0 : List TStep) (P0 : List (Value × Value)) (y : TStep) (dv ov : Value) (D : List Value) (w : World) (hx : x.size ≤ 100000000) (hB : B ≤ w.heap.size) (hL : L0.length ≤ 100000000) (h : PSt1 w B g cap L0 P0 y dv ov D) (h1 : outD x.data.toList = none) (h2 : x.data.toList = goneB) :
    Calls Tryd.prog 41 #[.slice (some ⟨g, 0, none⟩) (L0.length + 1) cap, .string x] w (RetPL B (lineT (L0 ++ [y]) x.data.toList) w) := by
  have HBW := Lib.hid hB
  have HP := Lib.hid h
  have HLT := Lib.hid (lineT_gone (L := L0) (x := y) h1 h2)
  have HLN := Lib.hid hL
  have HC1 : Hid (L0.length + 1 ≤ cap ∧ cap ≤ maxLen) := Lib.hid ⟨h.sts.2.1, h.sts.2.2.1⟩
  have e1 : (x.toList == goneB) = true := by rw [Go.ByteArray.toList_eq, h2]; rfl
  have e2 : (x.toList != goneB) = false := by rw [bne, e1]; rfl
  clear h hL h2
  go_enter Tryd.func41, Tryd.ntmps41
  go_wp2_with (fail)
  refine (readOutput_ x w hx).mono ?_
  rw [h1]
  clear h1
  rintro e w1 (⟨_, rfl, hb1⟩ | ⟨b', l', A5, m5, c5, he, _⟩)
  rotate_left
  · cases he
  have hbA : Below w.heap.size w (w1.alloc (.cells (ouC false nilE) TO)) := hb1.alloc hb1.size _
  have HBA := Lib.hid (hbA.mono HBW.out)
  have HPA := Lib.hid (HP.out.below hbA)
  clear hb1 hbA
  generalize hq : L0.length = q at *
  have hcap : (q : Int) + 1 ≤ (cap : Int) := by have := HC1.out.1; omega
  have hmx : cap ≤ 9223372036854775807 := by have := HC1.out.2; simpa only [maxLen] using this
  have hw1 : IntKind.i64.wrap (q : Int) = (q : Int) := IntWalk.i64_in _ (by have := HLN.out; omega)
  have hz : ((q : Int) + 1 == 0) = false := by rw [beq_eq_false_iff_ne]; omega
  have HROW : Hid ((w1.alloc (.cells (ouC false nilE) TO)).ownsRow B TS 6 (.slice (some ⟨g, 0, none⟩) (q + 1) cap) (q + 1) (stepsC L0 P0 ++ stepC y (dv, ov))) := Lib.hid (hq ▸ HPA.out.2.1)
  have c5' : (w1.alloc (.cells (ouC false nilE) TO)).cell? ⟨g, q * 6 + 5, none⟩ = some (.bool y.cr) := by
    rw [HROW.out.cellAt (q * 6 + 5) (by omega), List.getElem?_append_right (by rw [stepsC_len HP.out.1]; omega), stepsC_len HP.out.1, show q * 6 + 5 - L0.length * 6 = 5 from by omega]
    rfl
  have f5' : (w1.alloc (.cells (ouC false nilE) TO)).frozen? ⟨g, q * 6 + 5, none⟩ = false := HROW.out.frozenAt _
  have HGB : Hid (B ≤ g) := Lib.hid (World.ownsRow.lt HP.out.2.1 g rfl).1
  cases hcr : y.cr
  · as_aux_lemma =>
    rw [hcr] at c5'
    have HQ := Lib.hid hq
    have HLT' : Hid (lineT (L0 ++ [y]) x.data.toList = some (L0 ++ [{ y with cr := true }])) := Lib.hid (by rw [HLT.out, if_neg (by rw [hcr]; decide)])
    have HF : Hid (PSt1 ((w1.alloc (.cells (ouC false nilE) TO)).setCell ⟨g, q * 6 + 5, none⟩ (.bool true)) B g cap L0 P0 { y with cr := true } dv ov D) := Lib.hid (hq ▸ HPA.out.crash)
    have HBF : Hid (Below B w ((w1.alloc (.cells (ouC false nilE) TO)).setCell ⟨g, q * 6 + 5, none⟩ (.bool true))) := Lib.hid (HBA.out.setCell (p := ⟨g, q * 6 + 5, none⟩) HGB.out _)
    clear hq HLT
    go_wp2_with (fail)
    go_ret2
    exact .inr ⟨_, _, HLT'.out, rfl, .inr ⟨L0, _, P0, dv, _, _, g, cap, rfl, (by rw [HQ.out]; rfl), HF.out⟩, HBF.out⟩
  · as_aux_lemma =>
    rw [hcr] at c5' HLT
    have HLT' : Hid (lineT (L0 ++ [y]) x.data.toList = none) := Lib.hid (by rw [HLT.out]; rfl)
    go_wp2_with (fail)
    go_ret2
    exact .inl ⟨HLT'.out, ⟨_, rfl⟩, HBA.out⟩
end Go.Proofs.YtnoppnnpennddaaDoor
