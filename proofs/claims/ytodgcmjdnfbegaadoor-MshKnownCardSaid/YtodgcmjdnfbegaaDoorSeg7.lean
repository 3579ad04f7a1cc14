/- Layer 8: segments of a message, walked. -/
import Derived.Test.YtodgcmjdnfbegaaDoorSeg6
import Derived.RangeFuncBox
import Derived.Maps.AppendAt
namespace Go.Proofs.YtodgcmjdnfbegaaDoor
open Go.RowKit Go.Shelf
attribute [local go_sem] Oper.semAt_some

/-- the segments -/
def splitD (l : List UInt8) : List (List UInt8) := if (cutAt 13 l).getLastD [] = [] then (cutAt 13 l).dropLast else cutAt 13 l

theorem Ss.take {w : World} {A : Option Addr} {n c k : Nat} {T : List (List UInt8)} (h : Ss w A n c T) (hk : k ≤ n) : Ss w A k c (T.take k) := by
  refine ⟨by rw [List.length_take, h.len]; omega, Nat.le_trans hk h.le, h.2.2.1, fun h0 => ?_⟩
  obtain ⟨b, o, e, _, hc⟩ := h.at_ (by omega)
  refine ⟨b, o, e, fun i x hx => hc i x ?_⟩
  rw [List.getElem?_take] at hx
  split at hx
  · exact hx
  · cases hx

theorem OwnS.ss' {w : World} {base g c : Nat} {T : List (List UInt8)} (h : OwnS w base (.slice (some ⟨g, 0, none⟩) T.length c) T) : Ss w (some ⟨g, 0, none⟩) T.length c T := by
  obtain ⟨A4, c4, e4, h4, _⟩ := h.ss
  injection e4 with e5 _ e6
  rw [e5, e6]; exact h4

set_option maxHeartbeats 4000000 in
set_option maxRecDepth 100000 in
theorem split_ (A : Option Addr) (n cp : Nat) (l : List UInt8) (w : World) (hb : Bs w A n cp l) (hn : n ≤ 1000000) : Calls Tryd.prog 21 #[.slice A n cp] w (RetSs w (splitD l)) := by
  refine (callsIn_wide (n := 9)).1 ?_
  obtain ⟨i0, hi, hz0, hz1, hz2⟩ := info_parts (show (Tryd.prog.info? 9).map (fun i => (i.zero, i.size, i.bytes)) = some (some (.string ByteArray.empty), 1, 16) from by kernel_rfl)
  have hln := hb.len
  have hcv := (hb.below ((Below.refl _ w).alloc (Nat.le_refl _) (.cells #[.slice none 0 0] 39))).str (P := Tryd.prog) 22 5 9 Tryd.underlying22 Tryd.underlying5 Tryd.underlying9
  obtain ⟨s, hs⟩ : ∃ s : ByteArray, s = txt l := ⟨_, rfl⟩
  have hsl : s.data.toList = l := by rw [hs]
  have HS : Hid (s.size = n) := Lib.hid (by rw [hs, txt_size', hln])
  have HL : Hid ((cutAt 13 l).length ≤ n + 1) := Lib.hid (by have := cut_le 13 s; rw [hsl] at this; have := HS.out; omega)
  have HT : Hid (0 < (cutAt 13 l).length) := Lib.hid (by rw [cutAt_length]; omega)
  rw [← hs] at hcv
  clear hb hs
  have HSL := Lib.hid hsl
  clear hsl hln
  refine callsIn_of_wp_marks Tryd.func21 rfl trivial ?_ rfl
  simp only [Tryd.ntmps21, List.size_toArray, List.length_cons, List.length_nil, Nat.reduceAdd, Nat.reduceSub, Array.replicate_succ, Array.replicate_zero, List.push_toArray, List.append_toArray, List.nil_append, List.cons_append]
  gi_wp2
  refine ⟨trivial, (callsIn_wide.2 (texts_ s 13 _)).mono ?_⟩
  rintro e w1 ⟨rfl, rfl⟩
  gi_wp2
  obtain ⟨N, hN⟩ : ∃ N, N = w.heap.size := ⟨_, rfl⟩
  obtain ⟨W0, hW0⟩ : ∃ W0, (((w.alloc (.cells #[.slice none 0 0] 39)).alloc (.cells #[.string s] 9)).alloc (.cells #[u8 13] 5)) = W0 := ⟨_, rfl⟩
  have bo : Boxed W0 N 39 (.slice none 0 0) := by rw [← hW0, hN]; exact ((Boxed.new w 39 _).alloc _).alloc _
  have cs : Boxed W0 (N + 1) 9 (.string s) := by
    have := Boxed.new (w.alloc (.cells #[.slice none 0 0] 39)) 9 (.string s)
    simp only [World.size_alloc] at this
    rw [← hW0, hN]; exact this.alloc _
  have cc : Boxed W0 (N + 1 + 1) 5 (u8 13) := by
    have := Boxed.new ((w.alloc (.cells #[.slice none 0 0] 39)).alloc (.cells #[.string s] 9)) 5 (u8 13)
    simp only [World.size_alloc] at this
    rw [← hW0, hN]; exact this
  have hsz : W0.heap.size = N + 3 := by rw [← hW0, hN]; simp
  have hb0 : Below N w W0 := by
    rw [← hW0, hN]
    exact ((((Below.refl _ w).alloc (Nat.le_refl _) _).alloc (by simp) _).alloc (by simp; omega) _)
  rw [show u8 13 = .int .u8 13 from rfl] at hW0
  rw [show (.int .u8 13 : Value) = u8 13 from rfl] at hW0
  rw [hW0, ← hN]
  have HN := Lib.hid hN
  clear hW0 hN hcv
  refine wpIn_rangeFunc_ownG rfl (by decide) (gf := 65) (lb := #[.pointer (some ⟨N + 1, 0, none⟩), .pointer (some ⟨N + 1 + 1, 0, none⟩)]) rfl trivial (enters_of Tryd.func65 (by kernel_rfl) rfl)
    (texts_stops _ (by decide) (N + 1) (N + 1 + 1) s 13 (by have := HS.out; omega) cs.cell cc.cell (by omega) (by omega)) keepsB_t (keepsB_b (by omega)) (Below.refl _ _) (fun _ => rfl)
    (fun pre W => ((∃ v, Boxed W N 39 v ∧ W.ownsRow N 9 1 v pre.length (pre.map str) ∧ True) ∧ Below N w W) ∧ Boxed W (N + 1 + 1) 5 (u8 13))
    (fun _ _ _ => False)
    (OwnFrom.and (OwnFrom.and (Own.from (holdsRow_own N N 39 9 1 (fun pre : List (List UInt8) => pre.length) (fun pre => pre.map str) (fun _ _ => True)) _) (ownFrom_below (by rw [HN.out]; exact Nat.le_refl _) (by omega))) (Own.from (boxed_own (N + 1 + 1) _ (fun _ => u8 13)) _))
    (fun _ _ _ _ _ hs _ _ => hs)
    ⟨⟨⟨_, bo, World.ownsRow_nil _ _ _ _, trivial⟩, hb0⟩, cc⟩
    (fun x => { tmps := #[.slice A n cp, undef, .slice none 0 0, .pointer (some ⟨N, 0, none⟩), str x, undef, .slice A n cp, .string s, .func (.func 65) #[] #[.pointer (some ⟨N + 1, 0, none⟩), .pointer (some ⟨N + 1 + 1, 0, none⟩)], str x, undef, undef, undef, undef, undef, undef, undef, undef, undef, undef, undef, undef, undef, undef, undef, undef], defers := [] }) ?assign ?body ?done ?stop
  case assign =>
    intro l x W K hK
    gi_wp2
    simpa using hK
  case body =>
    rintro l' pre x W ⟨⟨⟨v, hv, hrow, _⟩, hB⟩, hbc⟩ hlt
    have hc := hv.cell
    have HLT : Hid (pre.length ≤ 1000001) := Lib.hid (by have h1 := HL.out; rw [HSL.out] at hlt; omega)
    have HB := Lib.hid hB
    have HROW := Lib.hid hrow
    have HV := Lib.hid hv
    have HBC := Lib.hid hbc
    have HSB : Hid (N ≤ W.heap.size) := Lib.hid (Nat.le_trans (by rw [HN.out]; exact Nat.le_refl _) hB.size)
    clear hB hrow hv hbc hlt
    gi_wp2_with (gi_at_builtin; refine wpListIn_append_own _ rfl _ _ 39 rfl N 9 i0 (.string ByteArray.empty) 1 16 Tryd.underlying39 hi hz0 hz1 hz2 rfl (by decide) _ _ _ rfl (HROW.out.alloc _) ⟨W.heap.size, 0, none⟩ 1 1 [str x] rfl rfl (cell_one_new _ _ _) (by simp [Value.oneCell']) (by have := HLT.out; simp [maxLen]; omega) (by have := HLT.out; simp; omega) (by have := HSB.out; simp; omega) ?_; intro v' w1 hown' hgrow _; obtain ⟨g', cap', rfl⟩ := ownsRow_succ hown'; obtain ⟨hv1, hv2, hr2, hk2, hb2⟩ := HV.out.appended (by decide) HROW.out HSB.out (Nat.le_refl _) hown' hgrow; have hc1 := hv1.cell; have hf1 := hv1.frozen; have HBC2 := Lib.hid (((HBC.out.alloc _).kept hgrow (HBC.out.not_row (by decide) HROW.out)).other (show N + 1 + 1 ≠ N by omega) (.slice (some ⟨g', 0, none⟩) (pre.length + 1) cap')))
    refine ⟨hk2.from _, ?_, ⟨⟨_, hv2, by simpa using hr2, trivial⟩, HB.out.trans hb2⟩, HBC2.out⟩
    exact HBC2.out.trans HBC.out.symm
  case done =>
    rintro D ys W hD rfl ⟨⟨⟨v, hv, hrow, _⟩, hB⟩, _⟩ hK
    have HOW : Hid (OwnS W N v (cutAt 13 l)) := Lib.hid (by rw [← HSL.out]; exact hrow)
    obtain ⟨g, cap, rfl, hgN, hgW, hcap, hcm⟩ := HOW.out.form HT.out
    have hc := hv.cell
    have hf := hv.frozen
    have HV := Lib.hid hv
    have HB := Lib.hid hB
    have HK := Lib.hid hK
    obtain ⟨A3, c3, e3, hSs, _⟩ := HOW.out.ss
    have hSs2 : Ss W (some ⟨g, 0, none⟩) (cutAt 13 l).length cap (cutAt 13 l) := by
      injection e3 with e1 e2 e4
      rw [e1, e4]
      exact hSs
    have HSS := Lib.hid hSs2
    obtain ⟨m1, hm1⟩ : ∃ m1 : Nat, ((cutAt 13 l).length : Int) - 1 = (m1 : Int) := ⟨(cutAt 13 l).length - 1, by have := HT.out; omega⟩
    have hlast : ((cutAt 13 l))[m1]? = some ((cutAt 13 l).getLastD []) := by
      rw [List.getLastD_eq_getLast?, List.getLast?_eq_getElem?, show (cutAt 13 l).length - 1 = m1 by omega, List.getElem?_eq_getElem (by have := HT.out; omega)]
      rfl
    have hcell := HOW.out.cell hlast
    have HSP : Hid (splitD l = if (cutAt 13 l).getLastD [] = [] then (cutAt 13 l).dropLast else cutAt 13 l) := Lib.hid rfl
    have HDL : Hid ((cutAt 13 l).dropLast = (cutAt 13 l).take m1) := Lib.hid (by rw [List.dropLast_eq_take, show (cutAt 13 l).length - 1 = m1 by omega])
    have HM1 : Hid (m1 + 1 = (cutAt 13 l).length) := Lib.hid (by have := HT.out; omega)
    rw [HSL.out] at *
    generalize cutAt 13 l = T at *
    generalize T.getLastD [] = x at *
    have ew : IntKind.i64.wrap (m1 : Int) = (m1 : Int) := by rw [IntKind.wrap_i64]; have := HL.out; omega
    have hlt1 : (m1 : Int) < (T.length : Int) := by have := HM1.out; omega
    have hlt2 : (m1 : Int) ≤ (cap : Int) := by have := HM1.out; omega
    clear hrow hB hv hK e3 hSs hSs2 hlast
    by_cases hx : x = []
    · have dx : x.isEmpty = true := by rw [hx]; rfl
      have HX := Lib.hid hx
      clear hx
      gi_wp2
      have HK2 : Hid ((W.setCell ⟨N, 0, none⟩ (.slice (some ⟨g, 0, none⟩) m1 cap)).heap[D]? = some (.deferred (some []))) := Lib.hid ((KeepsOthers.setCell W _ _).same D _ HK.out rfl)
      refine ⟨by simp, .inl ⟨_, _, rfl, run_takeDeferred HK2.out, ?_⟩⟩
      have hg2 : W.grownBy (W.setCell ⟨N, 0, none⟩ (.slice (some ⟨g, 0, none⟩) m1 cap)) (some N) := grownBy_setCell' W N _
      have hN := HN.out
      have hB2 : Below N w (W.setCell ⟨N, 0, none⟩ (.slice (some ⟨g, 0, none⟩) m1 cap)) := HB.out.setCell (p := ⟨N, 0, none⟩) (Nat.le_refl _) _
      have hfin := fun (W2 : World) (h2 : Below N w W2) (hk : W2.heap[D]? = some (.deferred (some []))) => h2.trans (belowK_b (w := W0) (n₀ := N) (by omega) W2 D _ (.deferred none) (by omega) hk rfl rfl)
      have hS3 := OwnS.ss' (show OwnS ((W.setCell ⟨N, 0, none⟩ (.slice (some ⟨g, 0, none⟩) m1 cap)).putObj D (.deferred none)) N (.slice (some ⟨g, 0, none⟩) T.length cap) T from ownsRow_putObj (show OwnS (W.setCell ⟨N, 0, none⟩ (.slice (some ⟨g, 0, none⟩) m1 cap)) N (.slice (some ⟨g, 0, none⟩) T.length cap) T from (HOW.out.kept hg2 (.inr (HV.out.not_row (by decide) HOW.out).symm))) (.deferred none) HK2.out rfl)
      have hsp : splitD l = T.take m1 := by rw [HSP.out, if_pos HX.out, HDL.out]
      have hS4 := hS3.take (k := m1) (by have := HM1.out; omega)
      have hl4 : (T.take m1).length = m1 := by rw [List.length_take]; have := HM1.out; omega
      refine ⟨_, results_tmp rfl _ _ _, ⟨some ⟨g, 0, none⟩, cap, ?_, ?_, ?_⟩⟩
      · rw [hsp, hl4]; rfl
      · rw [hsp, hl4]; exact hS4
      · rw [← hN]; exact hfin _ hB2 HK2.out
    · have dx : x.isEmpty = false := by
        cases x with
        | nil => exact absurd rfl hx
        | cons => rfl
      have HX := Lib.hid hx
      clear hx
      gi_wp2
      refine ⟨by simp, .inl ⟨_, _, rfl, run_takeDeferred HK.out, ?_⟩⟩
      have hN := HN.out
      have hsp : splitD l = T := by rw [HSP.out, if_neg HX.out]
      have hS3 := OwnS.ss' (show OwnS (W.putObj D (.deferred none)) N (.slice (some ⟨g, 0, none⟩) T.length cap) T from ownsRow_putObj HOW.out (.deferred none) HK.out rfl)
      refine ⟨_, results_tmp rfl _ _ _, ⟨some ⟨g, 0, none⟩, cap, ?_, ?_, ?_⟩⟩
      · rw [hsp]; rfl
      · rw [hsp]; exact hS3
      · rw [← hN]; exact HB.out.trans (belowK_b (w := W0) (by omega) W D _ _ (by omega) HK.out rfl rfl)
  case stop =>
    rintro D c pre W _ _ h _
    exact h.elim
end Go.Proofs.YtodgcmjdnfbegaaDoor
