/- Layer 19: a line of an event parsed, walked, whatever stands ahead; any line. -/
import Derived.Test.YtnoppnnpennddaaDoorTrL
namespace Go.Proofs.YtnoppnnpennddaaDoor
open Go.RowKit

theorem RetRd.each {r : Option (Int × Int × Int × List UInt8)} {w w' : World} {e : Ending} (h : RetRd r w e w') : ∃ k n kp l A m c er, e = .returned (.tuple #[evV k n kp (.slice A m c), .int .i64 er]) ∧ Bs w' A m c l ∧ (∀ x, A = some x → w.heap.size ≤ x.block) ∧ Below w.heap.size w w' ∧ ((er = 10 ∧ r = none) ∨ (er = 0 ∧ r = some (k, n, kp, l))) := by
  rcases h with ⟨rfl, h1, h2⟩ | ⟨k, n, kp, l, A, m, c, rfl, h1, h2, h3, h4⟩
  · exact ⟨0, 0, 0, [], none, 0, 0, 10, h1, Bs.none_ _, (fun x hx => by cases hx), h2, .inl ⟨rfl, rfl⟩⟩
  · exact ⟨k, n, kp, l, A, m, c, 0, h1, h2, h3, h4, .inr ⟨rfl, rfl⟩⟩
/-- the row of steps, and what one more makes of it -/
theorem PSt.row {w : World} {B : Nat} {v : Value} {L : List TStep} (h : PSt w B v L) : ∃ xs, w.ownsRow B TS 6 v L.length xs ∧ ∀ (W w5 : World) (g5 c5 : Nat) (y : TStep) (dv' : Value), Below w.heap.size w W → y.outs = [] → w5.ownsRow B TS 6 (.slice (some ⟨g5, 0, none⟩) (L.length + 1) c5) (L.length + 1) (xs ++ stepC y (dv', nilE)) → W.grownBy w5 v.ownBlock → (v.ownBlock = some g5 ∨ g5 = W.heap.size) → BsX (fun b => v.ownBlock = some b) W dv' y.l → PSt w5 B (.slice (some ⟨g5, 0, none⟩) (L.length + 1) c5) (L ++ [y]) := by
  rcases h with ⟨rfl, rfl⟩ | ⟨L0, x, P0, dv, ov, D, g, cap, rfl, rfl, h⟩
  · refine ⟨[], World.ownsRow_nil _ _ _ _, fun W w5 g5 c5 y dv' hb hy ho hg hat hd => ?_⟩
    refine .inr ⟨[], y, [], dv', nilE, [], g5, c5, rfl, rfl, PSt1.first y dv' hy (by simpa using ho) ?_⟩
    refine BsX.ch hd (Ch.of_grown hg (fun k hk => hk)) (fun b hb hx => ?_)
    rcases hx with h | h
    · rcases hat with h' | h'
      · simp [Value.ownBlock] at h'
      · omega
    · simp [Value.ownBlock] at h
  · refine ⟨stepsC L0 P0 ++ stepC x (dv, ov), by simpa using h.2.1, fun W w5 g5 c5 y dv' hb hy ho hg hat hd => ?_⟩
    have hW := h.below hb
    have hown : (Value.slice (some ⟨g, 0, none⟩) (L0.length + 1) cap).ownBlock = some g := rfl
    have hc : Ch (fun b => b = g) W w5 := Ch.of_grown hg (fun k hk => by rw [hown] at hk; exact (Option.some.inj hk).symm)
    have hgg : g5 = g ∨ W.heap.size ≤ g5 := by
      rcases hat with h' | h'
      · rw [hown] at h'; exact .inl (Option.some.inj h').symm
      · exact .inr (Nat.le_of_eq h'.symm)
    have hd' : BsX (XS g5 nilE) w5 dv' y.l := by
      refine BsX.ch hd (Ch.wide hc (fun b hb => by rw [hb]; rfl)) (fun b hb hx => ?_)
      rcases hx with h' | h'
      · rcases hgg with h2 | h2
        · rw [h', h2]; rfl
        · omega
      · simp [Value.ownBlock] at h'
    have := hW.app y dv' hy (by simpa using ho) hc hgg hd'
    exact .inr ⟨L0 ++ [x], y, P0 ++ [(dv, ov)], dv', nilE, [], g5, c5, rfl, by simp, this⟩
theorem grown_below {B : Nat} {W w5 : World} {v : Value} (hg : W.grownBy w5 v.ownBlock) (hv : ∀ k, v.ownBlock = some k → B ≤ k) (hB : B ≤ W.heap.size) : Below B W w5 := (Ch.of_grown (S := fun b => v.ownBlock = some b) hg (fun _ hk => hk)).below hv hB

set_option maxHeartbeats 4000000 in
set_option maxRecDepth 100000 in
theorem lineEv (x : ByteArray) (B : Nat) (v : Value) (L : List TStep) (w : World) (hx : x.size ≤ 100000000) (hB : B ≤ w.heap.size) (hL : L.length ≤ 100000000) (h : PSt w B v L) (hm : MaxLen w) (hr : TRows w) (h1 : outD x.data.toList = none) (h2 : x.data.toList ≠ goneB) :
    Calls Tryd.prog 41 #[v, .string x] w (RetPL B (lineT L x.data.toList) w) := by
  have HM := Lib.hid (fun W (hb : Below w.heap.size w W) => hm.below hb)
  have HR := Lib.hid (fun W (hb : Below w.heap.size w W) => hr.below hb)
  have HBW := Lib.hid hB
  have HP := Lib.hid h
  have HLT := Lib.hid (lineT_ev (L := L) h1 h2)
  have HLN := Lib.hid hL
  have HX := Lib.hid hx
  have e1 : (x.toList == goneB) = false := by rw [Go.ByteArray.toList_eq, beq_eq_false_iff_ne]; exact h2
  have e2 : (x.toList != goneB) = true := by rw [bne, e1]; rfl
  clear h hL h2 hm hr
  go_enter Tryd.func41, Tryd.ntmps41
  go_wp2_with (fail)
  refine (readOutput_ x w hx).mono ?_
  rw [h1]
  clear h1
  rintro e w1 (⟨_, rfl, hb1⟩ | ⟨b', l', A5, m5, c5, he, _⟩)
  rotate_left
  · cases he
  have HB2 : Hid (Below w.heap.size w (w1.alloc (.cells (ouC false nilE) TO))) := Lib.hid (hb1.alloc hb1.size _)
  clear hb1
  go_wp2_with (fail)
  generalize w1.alloc (.cells (ouC false nilE) TO) = w2 at *
  generalize w1.heap.size = g1 at *
  refine (read_ x w2 HX.out (HM.out _ HB2.out) (HR.out _ HB2.out)).mono ?_
  intro e w3 hret
  obtain ⟨k, n, kp, l, A, m, c, er, rfl, hB3, hf3, hb3, hcase⟩ := hret.each
  have hb4 : Below w.heap.size w (w3.alloc (.cells (evC k n kp (.slice A m c)) TE)) := (HB2.out.trans (hb3.mono HB2.out.size)).alloc (Nat.le_trans HB2.out.size hb3.size) _
  have HB4 := Lib.hid hb4
  have HBS4 := Lib.hid (hB3.alloc (.cells (evC k n kp (.slice A m c)) TE))
  have HFR : Hid (∀ a, A = some a → w.heap.size ≤ a.block) := Lib.hid (fun a ha => Nat.le_trans HB2.out.size (hf3 a ha))
  have HCASE := Lib.hid hcase
  clear hret hB3 hb3 hb4 hf3 hcase
  have tok1 : Hid True := Lib.hid trivial
  obtain ⟨w4, hw4⟩ : ∃ W, W = w3.alloc (.cells (evC k n kp (.slice A m c)) TE) := ⟨_, rfl⟩
  rw [← hw4] at HB4 HBS4
  have HW4 := Lib.hid hw4
  clear hw4
  obtain ⟨xs, hown, hnext⟩ := (HP.out.below HB4.out).row
  have HOWN := Lib.hid hown
  have HNX := Lib.hid hnext
  have HLT4 : Hid (∀ j, v.ownBlock = some j → B ≤ j ∧ j < w.heap.size) := Lib.hid (by obtain ⟨ys, ho, _⟩ := HP.out.row; exact World.ownsRow.lt ho)
  have HSZ : Hid (B ≤ w4.heap.size) := Lib.hid (Nat.le_trans HBW.out HB4.out.size)
  clear hown hnext
  obtain ⟨N, hN⟩ : ∃ N, N = L.length := ⟨_, rfl⟩
  have HNN := Lib.hid hN
  have HNL : Hid (N ≤ 100000000) := Lib.hid (hN ▸ HLN.out)
  rw [← hN] at HOWN
  clear hN
  rcases HCASE.out with ⟨rfl, hre⟩ | ⟨rfl, hre⟩
  · have HRE := Lib.hid hre
    clear hre HCASE
    go_wp2_with (at_builtin; have _t := tok1; go_loud ((rw [← HW4.out]; refine wpList_appOne rfl (.tmp 27) (.tmp 30) 39 rfl B TS (.agg (stC 0 0 0 nilE nilE false).toArray) 6 80 Tryd.underlying39 stInfo rfl (by decide) v N xs rfl HOWN.out (stC k n kp (.slice A m c) nilE false) _ (w3.heap.size + 1) (by rw [HW4.out]; exact World.size_alloc _ _) rfl rfl (stC_one _ _ _ _ _ _ _ _ _ _) (by have := HNL.out; omega) (by decide) HSZ.out ?_; intro g5 c5 w5 ho5 hg5 hat5 hlt5; have HO5 := Lib.hid ho5; have HG5 := Lib.hid hg5; have HA5 := Lib.hid hat5; clear tok1 _t ho5 hg5 hat5)))
    go_ret2
    have hbA : Below w4.heap.size w4 (w4.alloc (.cells (stC k n kp (.slice A m c) nilE false).toArray TS)) := (Below.refl _ w4).alloc (Nat.le_refl _) _
    have hbl : Below B (w4.alloc (.cells (stC k n kp (.slice A m c) nilE false).toArray TS)) w5 := grown_below HG5.out (fun j hj => (HLT4.out j hj).1) (Nat.le_trans HSZ.out hbA.size)
    have hbF : Below B w w5 := ((HB4.out.mono HBW.out).trans (hbA.mono HSZ.out)).trans hbl
    have hlt : lineT L x.data.toList = none := by rw [HLT.out, HRE.out]
    exact .inl ⟨hlt, ⟨.slice (some ⟨g5, 0, none⟩) (N + 1) c5, rfl⟩, hbF⟩
  · have HRE := Lib.hid hre
    clear hre HCASE
    go_wp2_with (at_builtin; have _t := tok1; go_loud ((rw [← HW4.out]; refine wpList_appOne rfl (.tmp 27) (.tmp 30) 39 rfl B TS (.agg (stC 0 0 0 nilE nilE false).toArray) 6 80 Tryd.underlying39 stInfo rfl (by decide) v N xs rfl HOWN.out (stC k n kp (.slice A m c) nilE false) _ (w3.heap.size + 1) (by rw [HW4.out]; exact World.size_alloc _ _) rfl rfl (stC_one _ _ _ _ _ _ _ _ _ _) (by have := HNL.out; omega) (by decide) HSZ.out ?_; intro g5 c5 w5 ho5 hg5 hat5 hlt5; have HO5 := Lib.hid ho5; have HG5 := Lib.hid hg5; have HA5 := Lib.hid hat5; clear tok1 _t ho5 hg5 hat5)))
    go_ret2
    have hbA : Below w4.heap.size w4 (w4.alloc (.cells (stC k n kp (.slice A m c) nilE false).toArray TS)) := (Below.refl _ w4).alloc (Nat.le_refl _) _
    have hbl : Below B (w4.alloc (.cells (stC k n kp (.slice A m c) nilE false).toArray TS)) w5 := grown_below HG5.out (fun j hj => (HLT4.out j hj).1) (Nat.le_trans HSZ.out hbA.size)
    have hbF : Below B w w5 := ((HB4.out.mono HBW.out).trans (hbA.mono HSZ.out)).trans hbl
    have hd : BsX (fun b => v.ownBlock = some b) (w4.alloc (.cells (stC k n kp (.slice A m c) nilE false).toArray TS)) (.slice A m c) l := ⟨A, m, c, rfl, HBS4.out.below hbA, fun a ha => .inr (fun hx => by have h1 := (HLT4.out _ hx).2; have h2 := HFR.out a ha; omega)⟩
    have := HNX.out _ w5 g5 c5 ⟨k, n, kp, l, [], false⟩ (.slice A m c) hbA rfl (by rw [← HNN.out]; exact HO5.out) HG5.out (by rw [World.size_alloc]; exact HA5.out) hd
    rw [← HNN.out] at this
    have hlt : lineT L x.data.toList = some (L ++ [⟨k, n, kp, l, [], false⟩]) := by rw [HLT.out, HRE.out]
    exact .inr ⟨.slice (some ⟨g5, 0, none⟩) (N + 1) c5, L ++ [⟨k, n, kp, l, [], false⟩], hlt, rfl, this, hbF⟩

/-- any line -/
theorem line_ (x : ByteArray) (B : Nat) (v : Value) (L : List TStep) (w : World) (hx : x.size ≤ 100000000) (hB : B ≤ w.heap.size) (hL : L.length ≤ 100000000) (ho : ∀ y ∈ L, y.outs.length ≤ 100000000) (h : PSt w B v L) (hm : MaxLen w) (hr : TRows w) :
    Calls Tryd.prog 41 #[v, .string x] w (RetPL B (lineT L x.data.toList) w) := by
  rcases hq : outD x.data.toList with _ | ⟨b, l⟩
  · by_cases hg : x.data.toList = goneB
    · rcases h with ⟨rfl, rfl⟩ | ⟨L0, y, P0, dv, ov, D, g, cap, rfl, rfl, h⟩
      · rw [lineT_nil (.inr ⟨hq, hg⟩)]
        exact lineNil x B w hx hB (.inr ⟨hq, hg⟩)
      · exact lineGone x B g cap L0 P0 y dv ov D w hx hB (by simp at hL; omega) h hq hg
    · exact lineEv x B v L w hx hB hL h hm hr hq hg
  · rcases h with ⟨rfl, rfl⟩ | ⟨L0, y, P0, dv, ov, D, g, cap, rfl, rfl, h⟩
    · rw [lineT_nil (.inl ⟨b, l, hq⟩)]
      exact lineNil x B w hx hB (.inl ⟨b, l, hq⟩)
    · exact lineOut x B g cap L0 P0 y dv ov D w hx hB (by simp at hL; omega) (ho y (by simp)) h b l hq
end Go.Proofs.YtnoppnnpennddaaDoor
