/- Layer 19's answers: any text parsed, walked. -/
import Derived.Test.YtnoppnnpennddaaDoorTrRo
namespace Go.Proofs.YtnoppnnpennddaaDoor
open Go.RowKit

/-- by the lines -/
def goL : List TStep → Nat → List (List UInt8) → List TStep × Nat × Int
  | _, n, [] => ([], n, 10)
  | L, n, [a] => if a = [] then (L, n, 0) else ([], n, 10)
  | L, n, a :: b :: r => match lineT L a with
    | none => ([], n, 10)
    | some L' => goL L' (n + 1) (b :: r)
theorem goL_more (L : List TStep) (n : Nat) (a : List UInt8) {r : List (List UInt8)} (hr : r ≠ []) : goL L n (a :: r) = match lineT L a with
    | none => ([], n, 10)
    | some L' => goL L' (n + 1) r := by
  cases r with
  | nil => exact absurd rfl hr
  | cons b r => rw [goL]
theorem parseT_goL : ∀ (s : List UInt8) (L : List TStep) (n : Nat), parseT L n s = goL L n (cutAt 10 s) := by
  refine byLines ?_ ?_ ?_
  · intro L n; rw [parseT_nil]; rfl
  · intro a h0 ha L n
    rw [parseT_open L n a h0 ha, cutAt_none 10 a ha, goL, if_neg h0]
  · intro a r ha ih L n
    rw [parseT_line L n a r ha, cutAt_clean 10 r a ha, goL_more L n a (cutAt_ne 10 r)]
    cases lineT L a with
    | none => rfl
    | some L' => exact ih L' (n + 1)
theorem cutAt_le10 (l x : List UInt8) (h : x ∈ cutAt 10 l) : x.length ≤ l.length := by
  induction l generalizing x with
  | nil => simp [cutAt] at h; simp [h]
  | cons y r ih =>
    by_cases hy : y = 10
    · subst hy
      rw [cutAt_eq] at h
      rcases List.mem_cons.1 h with rfl | h
      · simp
      · have := ih x h; simp; omega
    · obtain ⟨p, t, h1, h2⟩ := cutAt_cons hy r
      rw [h2] at h
      rcases List.mem_cons.1 h with rfl | h
      · have := ih p (by rw [h1]; simp); simp; omega
      · have := ih x (by rw [h1]; simp [h]); simp; omega
theorem lineT_len' {L L' : List TStep} {s : List UInt8} {n : Nat} (h : lineT L s = some L') (hn : L.length ≤ n) (ho : ∀ y ∈ L, y.outs.length ≤ n) : L'.length ≤ n + 1 ∧ ∀ y ∈ L', y.outs.length ≤ n + 1 := lineT_len h hn ho
theorem own_mono {w : World} {B B' n s : Nat} {e : TypeId} {v : Value} {xs : List Value} (h : w.ownsRow B e s v n xs) (hB : B' ≤ B) : w.ownsRow B' e s v n xs := by
  refine ⟨h.1, ?_⟩
  rcases h.2 with h0 | ⟨g, cap, cur, h1, h2, h3⟩
  · exact .inl h0
  · exact .inr ⟨g, cap, cur, h1, Nat.le_trans hB h2, h3⟩
theorem PSt.mono {w : World} {B B' : Nat} {v : Value} {L : List TStep} (h : PSt w B v L) (hB : B' ≤ B) : PSt w B' v L := by
  rcases h with h | ⟨L0, x, P0, dv, ov, D, g, cap, e, ev, h1, h2, h3, h4, h5, h6, h7⟩
  · exact .inl h
  · exact .inr ⟨L0, x, P0, dv, ov, D, g, cap, e, ev, h1, own_mono h2 hB, h3, h4, h5, own_mono h6 hB, h7⟩
abbrev boxO (w : World) (b : Bool) (A : Option Addr) (m c : Nat) : World := w.alloc (.cells (ouC b (.slice A m c)) TO)

set_option maxHeartbeats 32000000 in
set_option maxRecDepth 100000 in
theorem refParse (s : ByteArray) (w : World) (hs : s.size ≤ 1000000) : Calls Tryd.prog 24 #[.string s] w (RetPa w.heap.size (parseT [] 0 s.data.toList) w) := by
  have HS := Lib.hid hs
  obtain ⟨S, hS⟩ : ∃ S, S = s.data.toList := ⟨_, rfl⟩
  have HSS := Lib.hid hS
  have HSZ : Hid (S.length ≤ 1000000) := Lib.hid (by rw [hS]; simpa using hs)
  rw [← hS]
  obtain ⟨R, hR0⟩ : ∃ R, R = parseT [] 0 S := ⟨_, rfl⟩
  have HR0 := Lib.hid hR0
  rw [← hR0]
  clear hs hS hR0
  go_enter Tryd.func24, Tryd.ntmps24
  go_wp2_with (fail)
  refine (refCut s 10 w (by have := HS.out; omega)).mono ?_
  rintro e w1 ⟨A, c, rfl, hSs, hb⟩
  rw [← HSS.out] at hSs ⊢
  have HB1 := Lib.hid hb
  obtain ⟨T, hT⟩ : ∃ T, T = cutAt 10 S := ⟨_, rfl⟩
  have HTL : Hid (T.length ≤ 1000001) := Lib.hid (by rw [hT, cutAt_length]; have := List.count_le_length (a := (10 : UInt8)) (l := S); have := HSZ.out; omega)
  have HTN : Hid (0 < T.length) := Lib.hid (by rw [hT, cutAt_length]; omega)
  have HPL : Hid (∀ x ∈ T, x.length ≤ 1000000) := Lib.hid (fun x hx => by have := cutAt_le10 S x (hT ▸ hx); have := HSZ.out; omega)
  have HRR : Hid (R = goL [] 0 T) := Lib.hid (by rw [HR0.out, hT]; exact parseT_goL S [] 0)
  rw [← hT] at hSs ⊢
  have HST := Lib.hid hSs
  obtain ⟨n, hn⟩ : ∃ n, n = T.length := ⟨_, rfl⟩
  have HN := Lib.hid hn
  rw [← hn] at HTL HTN HST ⊢
  obtain ⟨b0, o0, rfl, hlt0, _⟩ := HST.out.at_ HTN.out
  have HLT0 := Lib.hid hlt0
  have hnc : (n : Int) ≤ (c : Int) := by have := HST.out.le; omega
  have hcm : c ≤ 9223372036854775807 := HST.out.max
  have hwn : IntKind.i64.wrap ((n : Int) - 1) = (n : Int) - 1 := IntWalk.i64_in _ (by have := HTL.out; omega)
  clear hb hT hSs hn hlt0
  go_wp2_with (fail)
  go_loopw [7, 6, 8, 9, 10, 11, 12, 13] (fun i v _ _ _ _ _ _ wr => ∃ (k : Nat) (L : List TStep), i = .int .i64 (k : Int) ∧ k + 1 ≤ n ∧ L.length ≤ k ∧ (∀ y ∈ L, y.outs.length ≤ k) ∧ goL L k (T.drop k) = R ∧ PSt wr w1.heap.size v L ∧ Below w1.heap.size w1 wr) (fun i _ _ _ _ _ _ _ _ => n - (intOf i).toNat)
  case atStart => exact ⟨0, [], rfl, by have := HTN.out; omega, by simp, (fun y hy => by cases hy), HRR.out.symm, .inl ⟨rfl, rfl⟩, Below.refl _ _⟩
  case round =>
    obtain ⟨wo, rfl⟩ : ∃ wo : World, wo = wr := ⟨_, rfl⟩
    obtain ⟨k, L, rfl, hk, hL, hO, hg, hst, hb⟩ := hrel
    have HB := Lib.hid hb
    have HST' := Lib.hid hst
    have HG := Lib.hid hg
    have HLL := Lib.hid hL
    have HOO := Lib.hid hO
    clear hb hst hg hL hO
    by_cases hlt : k + 1 < n
    · have hkT : k < T.length := by have := HN.out; omega
      obtain ⟨a, ha⟩ : ∃ a, a = T[k] := ⟨_, rfl⟩
      have HGO : Hid (R = match lineT L a with
          | none => ([], k, 10)
          | some L' => goL L' (k + 1) (T.drop (k + 1))) := Lib.hid (by
        rw [← HG.out, List.drop_eq_getElem_cons hkT, ← ha]
        exact goL_more L k a (by intro e; have := congrArg List.length e; simp at this; have := HN.out; omega))
      have HAL : Hid (a.length ≤ 1000000) := Lib.hid (ha ▸ HPL.out _ (List.getElem_mem hkT))
      have HX : Hid (∀ W, Below w1.heap.size w1 W → W.cell? ⟨b0, o0 + k, none⟩ = some (.string (txt a))) := Lib.hid (fun W hW => by
        obtain ⟨b', o', e', _, hc⟩ := HST.out.at_ HTN.out
        injection e' with e'
        injection e' with e1 e2
        subst e1 e2
        exact (hW.cell (p := ⟨b0, o0 + k, none⟩) HLT0.out).trans (hc k _ (by rw [List.getElem?_eq_getElem hkT, ← ha])))
      have hw5 : IntKind.i64.wrap ((k : Int) + 1) = (k : Int) + 1 := IntWalk.i64_in _ (by have := HTL.out; omega)
      have hkn : (k : Int) < (n : Int) - 1 := by omega
      have x1 := HX.out wo HB.out
      clear ha hkT
      rcases HST'.out with ⟨rfl, rfl⟩ | ⟨L0, y, P0, dv, ov, D, g, cap, rfl, rfl, hP⟩
      · have hw8 : IntKind.i64.wrap ((0 : Int) - 1) = -1 := by decide
        have HPX : Hid (∀ W, Below wo.heap.size wo W → PSt W w1.heap.size nilE []) := Lib.hid (fun W _ => .inl ⟨rfl, rfl⟩)
        rcases hod : outD a with _ | ⟨ob, ol⟩
        · by_cases hgn : a = goneB
          · have e1 : ((txt a).toList == goneB) = true := by rw [Go.ByteArray.toList_eq]; exact beq_iff_eq.2 hgn
            have HOD := Lib.hid hod
            have HGN := Lib.hid hgn
            clear hod hgn
            go_wp2_with (fail)
            refine (refOutput (txt a) wo (by rw [size_txt]; have := HAL.out; omega)).mono ?_
            rw [show (txt a).data.toList = a from rfl, HOD.out]
            rintro e w2 ⟨bb, ll, A5, m5, c5, rfl, hpp, hB5, hf5, hb2⟩
            have HB2 := Lib.hid (HB.out.trans (hb2.mono HB.out.size))
            have HPP := Lib.hid hpp
            have HB2W := Lib.hid hb2.size
            have HW2 := Lib.hid (hb2.alloc hb2.size (.cells (ouC bb (.slice A5 m5 c5)) TO))
            have hZ2 := heap_alloc_new w2 (.cells (ouC bb (.slice A5 m5 c5)) TO)
            have HZ2 := Lib.hid hZ2
            clear hZ2
            have HBE := Lib.hid (HB2.out.alloc HB2.out.size (.cells (ouC bb (.slice A5 m5 c5)) TO))
            have x2 := HX.out _ HBE.out
            have HBS := Lib.hid hB5
            have HFR := Lib.hid hf5
            clear hpp hB5 hf5 hb2 x1
            go_wp2_with (fail)
            refine (refRead19 (txt a) _ (by rw [size_txt]; have := HAL.out; omega)).mono ?_
            rw [show (txt a).data.toList = a from rfl]
            rintro e w3 hret
            obtain ⟨ek, en, ekp, el, A6, m6, c6, er, rfl, hB6, hf6, hb3, hcase⟩ := hret.each
            have HB3 := Lib.hid (HBE.out.trans (hb3.mono HBE.out.size))
            have HB3' := Lib.hid hb3
            have HB4 := Lib.hid (HB3.out.alloc HB3.out.size (.cells (evC ek en ekp (.slice A6 m6 c6)) TE))
            have HW3 := Lib.hid (HW2.out.trans (hb3.mono HW2.out.size))
            have HW4 := Lib.hid (HW3.out.alloc HW3.out.size (.cells (evC ek en ekp (.slice A6 m6 c6)) TE))
            have HZ3 := Lib.hid ((hb3.block _ (Array.getElem?_eq_some_iff.1 HZ2.out).1).trans HZ2.out)
            have HV2 : Hid (Below w2.heap.size w2 (w3.alloc (.cells (evC ek en ekp (.slice A6 m6 c6)) TE))) := Lib.hid (by
              have h1 : Below w2.heap.size w2 (w2.alloc (.cells (ouC bb (.slice A5 m5 c5)) TO)) := (Below.refl _ w2).alloc (Nat.le_refl _) _
              have h2 := h1.trans (hb3.mono h1.size)
              exact h2.alloc h2.size _)
            have HBS6 := Lib.hid hB6
            have HF6 : Hid (∀ x, A6 = some x → wo.heap.size ≤ x.block) := Lib.hid (fun x hx => Nat.le_trans (by rw [World.size_alloc]; have := HB2W.out; omega) (hf6 x hx))
            have HCASE := Lib.hid hcase
            have x3 := HX.out _ HB4.out
            clear hret hB6 hf6 hb3 hcase x2
            obtain ⟨rfl, _⟩ | ⟨rfl, hre⟩ := HCASE.out
            rotate_left
            · rw [HGN.out, gone_noread] at hre; cases hre
            have HRT : Hid (R = ([], k, 10)) := Lib.hid (by rw [HGO.out, lineT_nil (.inr ⟨HOD.out, HGN.out⟩)])
            clear HCASE
            go_wp2_with (fail)
            refine bodyPost_ret (v := .tuple #[nilE, .int .i64 (k : Int), .int .i64 10]) (results_tmp3 Tryd.results24 _ _ _) rfl ?_
            exact ⟨_, by rw [HRT.out], by rw [HRT.out]; exact .inl ⟨rfl, rfl⟩, HB1.out.trans (HB4.out.mono HB1.out.size)⟩
          · have e1 : ((txt a).toList == goneB) = false := by rw [Go.ByteArray.toList_eq, beq_eq_false_iff_ne]; exact hgn
            have HOD := Lib.hid hod
            have HGN := Lib.hid hgn
            clear hod hgn
            go_wp2_with (fail)
            refine (refOutput (txt a) wo (by rw [size_txt]; have := HAL.out; omega)).mono ?_
            rw [show (txt a).data.toList = a from rfl, HOD.out]
            rintro e w2 ⟨bb, ll, A5, m5, c5, rfl, hpp, hB5, hf5, hb2⟩
            have HB2 := Lib.hid (HB.out.trans (hb2.mono HB.out.size))
            have HPP := Lib.hid hpp
            have HB2W := Lib.hid hb2.size
            have HW2 := Lib.hid (hb2.alloc hb2.size (.cells (ouC bb (.slice A5 m5 c5)) TO))
            have hZ2 := heap_alloc_new w2 (.cells (ouC bb (.slice A5 m5 c5)) TO)
            have HZ2 := Lib.hid hZ2
            clear hZ2
            have HBE := Lib.hid (HB2.out.alloc HB2.out.size (.cells (ouC bb (.slice A5 m5 c5)) TO))
            have x2 := HX.out _ HBE.out
            have HBS := Lib.hid hB5
            have HFR := Lib.hid hf5
            clear hpp hB5 hf5 hb2 x1
            go_wp2_with (fail)
            refine (refRead19 (txt a) _ (by rw [size_txt]; have := HAL.out; omega)).mono ?_
            rw [show (txt a).data.toList = a from rfl]
            rintro e w3 hret
            obtain ⟨ek, en, ekp, el, A6, m6, c6, er, rfl, hB6, hf6, hb3, hcase⟩ := hret.each
            have HB3 := Lib.hid (HBE.out.trans (hb3.mono HBE.out.size))
            have HB3' := Lib.hid hb3
            have HB4 := Lib.hid (HB3.out.alloc HB3.out.size (.cells (evC ek en ekp (.slice A6 m6 c6)) TE))
            have HW3 := Lib.hid (HW2.out.trans (hb3.mono HW2.out.size))
            have HW4 := Lib.hid (HW3.out.alloc HW3.out.size (.cells (evC ek en ekp (.slice A6 m6 c6)) TE))
            have HZ3 := Lib.hid ((hb3.block _ (Array.getElem?_eq_some_iff.1 HZ2.out).1).trans HZ2.out)
            have HV2 : Hid (Below w2.heap.size w2 (w3.alloc (.cells (evC ek en ekp (.slice A6 m6 c6)) TE))) := Lib.hid (by
              have h1 : Below w2.heap.size w2 (w2.alloc (.cells (ouC bb (.slice A5 m5 c5)) TO)) := (Below.refl _ w2).alloc (Nat.le_refl _) _
              have h2 := h1.trans (hb3.mono h1.size)
              exact h2.alloc h2.size _)
            have HBS6 := Lib.hid hB6
            have HF6 : Hid (∀ x, A6 = some x → wo.heap.size ≤ x.block) := Lib.hid (fun x hx => Nat.le_trans (by rw [World.size_alloc]; have := HB2W.out; omega) (hf6 x hx))
            have HCASE := Lib.hid hcase
            have x3 := HX.out _ HB4.out
            clear hret hB6 hf6 hb3 hcase x2
            obtain ⟨rfl, hre⟩ | ⟨rfl, hre⟩ := HCASE.out
            · have HRT : Hid (R = ([], k, 10)) := Lib.hid (by rw [HGO.out, lineT_ev HOD.out HGN.out, hre])
              clear HCASE
              go_wp2_with (fail)
              refine bodyPost_ret (v := .tuple #[nilE, .int .i64 (k : Int), .int .i64 10]) (results_tmp3 Tryd.results24 _ _ _) rfl ?_
              exact ⟨_, by rw [HRT.out], by rw [HRT.out]; exact .inl ⟨rfl, rfl⟩, HB1.out.trans (HB4.out.mono HB1.out.size)⟩
            · obtain ⟨xs, hown, hnext⟩ := (HPX.out _ HW4.out).row
              have HOWN := Lib.hid hown
              have HNX := Lib.hid hnext
              have HLT4 : Hid (∀ j, (nilE).ownBlock = some j → w1.heap.size ≤ j ∧ j < wo.heap.size) := Lib.hid (by obtain ⟨ys, ho, _⟩ := (HPX.out _ (Below.refl _ _)).row; exact World.ownsRow.lt ho)
              have HSZ4 : Hid (w1.heap.size ≤ (w3.alloc (.cells (evC ek en ekp (.slice A6 m6 c6)) TE)).heap.size) := Lib.hid HB4.out.size
              clear hown hnext
              have HE4 : Hid ((w3.alloc (.cells (evC ek en ekp (.slice A6 m6 c6)) TE)).heap[w3.heap.size]? = some (.cells (evC ek en ekp (.slice A6 m6 c6)) TE)) := Lib.hid (heap_alloc_new w3 _)
              have z0 := cell_of_row _ w3.heap.size 0 _ _ _ HE4.out
              have z1 := cell_of_row _ w3.heap.size 1 _ _ _ HE4.out
              have z2 := cell_of_row _ w3.heap.size 2 _ _ _ HE4.out
              have z3 := cell_of_row _ w3.heap.size 3 _ _ _ HE4.out
              simp only [List.getElem?_toArray, List.getElem?_cons_zero, List.getElem?_cons_succ] at z0 z1 z2 z3
              obtain ⟨N, hN⟩ : ∃ N, N = ([]).length := ⟨_, rfl⟩
              have HNN := Lib.hid hN
              have HNL : Hid (N ≤ 100000000) := Lib.hid (by rw [hN]; have := HLL.out; have := HTL.out; omega)
              rw [← hN] at HOWN
              clear hN
              have HLN' : Hid (lineT ([]) a = some (([]) ++ [⟨ek, en, ekp, el, [], false⟩])) := Lib.hid (by rw [lineT_ev HOD.out HGN.out, hre])
              have HLEN := Lib.hid (lineT_len' HLN'.out HLL.out HOO.out)
              have HGF : Hid (goL (([]) ++ [⟨ek, en, ekp, el, [], false⟩]) (k + 1) (T.drop (k + 1)) = R) := Lib.hid (by rw [HGO.out, HLN'.out])
              have HB6' := Lib.hid (HBS6.out.below ((Below.refl _ w3).alloc (Nat.le_refl _) (.cells (evC ek en ekp (.slice A6 m6 c6)) TE)))
              have tok1 : Hid True := Lib.hid trivial
              clear hre HGO HCASE
              go_wp2_with (at_builtin; have _t := tok1; go_loud ((refine wpList_appOne rfl (.tmp 86) (.tmp 89) 39 rfl w1.heap.size TS (.agg (stC 0 0 0 nilE nilE false).toArray) 6 80 Tryd.underlying39 stInfo rfl (by decide) (nilE) N xs rfl HOWN.out (stC ek en ekp (.slice A6 m6 c6) nilE false) _ (w3.heap.size + 1) (World.size_alloc _ _) rfl rfl (stC_one _ _ _ _ _ _ _ _ _ _) (by have := HNL.out; omega) (by decide) HSZ4.out ?_; intro g5 c5' w5 ho5 hg5 hat5 hlt5; have HO5 := Lib.hid ho5; have HG5 := Lib.hid hg5; have HA5 := Lib.hid hat5; clear tok1 _t ho5 hg5 hat5)))
              have hbA : Below (w3.alloc (.cells (evC ek en ekp (.slice A6 m6 c6)) TE)).heap.size (w3.alloc (.cells (evC ek en ekp (.slice A6 m6 c6)) TE)) ((w3.alloc (.cells (evC ek en ekp (.slice A6 m6 c6)) TE)).alloc (.cells (stC ek en ekp (.slice A6 m6 c6) nilE false).toArray TS)) := (Below.refl _ _).alloc (Nat.le_refl _) _
              have hbl : Below w1.heap.size ((w3.alloc (.cells (evC ek en ekp (.slice A6 m6 c6)) TE)).alloc (.cells (stC ek en ekp (.slice A6 m6 c6) nilE false).toArray TS)) w5 := grown_below HG5.out (fun j hj => (HLT4.out j hj).1) (Nat.le_trans HSZ4.out hbA.size)
              have hbF : Below w1.heap.size w1 w5 := (HB4.out.trans (hbA.mono HSZ4.out)).trans hbl
              have hd : BsX (fun b => (nilE).ownBlock = some b) ((w3.alloc (.cells (evC ek en ekp (.slice A6 m6 c6)) TE)).alloc (.cells (stC ek en ekp (.slice A6 m6 c6) nilE false).toArray TS)) (.slice A6 m6 c6) el := ⟨A6, m6, c6, rfl, HB6'.out.below hbA, fun a ha => .inr (fun hx => by have h1 := (HLT4.out _ hx).2; have h2 := HF6.out a ha; omega)⟩
              have hps := HNX.out _ w5 g5 c5' ⟨ek, en, ekp, el, [], false⟩ (.slice A6 m6 c6) hbA rfl (by rw [← HNN.out]; exact HO5.out) HG5.out (by rw [World.size_alloc]; exact HA5.out) hd
              rw [← HNN.out] at hps
              exact ⟨⟨k + 1, _, rfl, by omega, HLEN.out.1, HLEN.out.2, HGF.out, hps, hbF⟩, by simp [intOf]; omega⟩
        · have hgn : a ≠ goneB := by rintro rfl; cases hod
          have e1 : ((txt a).toList == goneB) = false := by rw [Go.ByteArray.toList_eq, beq_eq_false_iff_ne]; exact hgn
          have HOD := Lib.hid hod
          have HGN := Lib.hid hgn
          clear hod hgn
          go_wp2_with (fail)
          refine (refOutput (txt a) wo (by rw [size_txt]; have := HAL.out; omega)).mono ?_
          rw [show (txt a).data.toList = a from rfl, HOD.out]
          rintro e w2 ⟨bb, ll, A5, m5, c5, rfl, hpp, hB5, hf5, hb2⟩
          have HB2 := Lib.hid (HB.out.trans (hb2.mono HB.out.size))
          have HPP := Lib.hid hpp
          have HB2W := Lib.hid hb2.size
          have HW2 := Lib.hid (hb2.alloc hb2.size (.cells (ouC bb (.slice A5 m5 c5)) TO))
          have hZ2 := heap_alloc_new w2 (.cells (ouC bb (.slice A5 m5 c5)) TO)
          have HZ2 := Lib.hid hZ2
          clear hZ2
          have HBE := Lib.hid (HB2.out.alloc HB2.out.size (.cells (ouC bb (.slice A5 m5 c5)) TO))
          have x2 := HX.out _ HBE.out
          have HBS := Lib.hid hB5
          have HFR := Lib.hid hf5
          clear hpp hB5 hf5 hb2 x1
          go_wp2_with (fail)
          refine (refRead19 (txt a) _ (by rw [size_txt]; have := HAL.out; omega)).mono ?_
          rw [show (txt a).data.toList = a from rfl]
          rintro e w3 hret
          obtain ⟨ek, en, ekp, el, A6, m6, c6, er, rfl, hB6, hf6, hb3, hcase⟩ := hret.each
          have HB3 := Lib.hid (HBE.out.trans (hb3.mono HBE.out.size))
          have HB3' := Lib.hid hb3
          have HB4 := Lib.hid (HB3.out.alloc HB3.out.size (.cells (evC ek en ekp (.slice A6 m6 c6)) TE))
          have HW3 := Lib.hid (HW2.out.trans (hb3.mono HW2.out.size))
          have HW4 := Lib.hid (HW3.out.alloc HW3.out.size (.cells (evC ek en ekp (.slice A6 m6 c6)) TE))
          have HZ3 := Lib.hid ((hb3.block _ (Array.getElem?_eq_some_iff.1 HZ2.out).1).trans HZ2.out)
          have HV2 : Hid (Below w2.heap.size w2 (w3.alloc (.cells (evC ek en ekp (.slice A6 m6 c6)) TE))) := Lib.hid (by
            have h1 : Below w2.heap.size w2 (w2.alloc (.cells (ouC bb (.slice A5 m5 c5)) TO)) := (Below.refl _ w2).alloc (Nat.le_refl _) _
            have h2 := h1.trans (hb3.mono h1.size)
            exact h2.alloc h2.size _)
          have HBS6 := Lib.hid hB6
          have HF6 : Hid (∀ x, A6 = some x → wo.heap.size ≤ x.block) := Lib.hid (fun x hx => Nat.le_trans (by rw [World.size_alloc]; have := HB2W.out; omega) (hf6 x hx))
          have HCASE := Lib.hid hcase
          have x3 := HX.out _ HB4.out
          clear hret hB6 hf6 hb3 hcase x2
          obtain ⟨rfl, _⟩ | ⟨rfl, hre⟩ := HCASE.out
          rotate_left
          · rw [out_noread HOD.out] at hre; cases hre
          have HRT : Hid (R = ([], k, 10)) := Lib.hid (by rw [HGO.out, lineT_nil (.inl ⟨_, _, HOD.out⟩)])
          clear HCASE
          go_wp2_with (fail)
          refine bodyPost_ret (v := .tuple #[nilE, .int .i64 (k : Int), .int .i64 10]) (results_tmp3 Tryd.results24 _ _ _) rfl ?_
          exact ⟨_, by rw [HRT.out], by rw [HRT.out]; exact .inl ⟨rfl, rfl⟩, HB1.out.trans (HB4.out.mono HB1.out.size)⟩
      · have HP := Lib.hid hP
        have HC1 : Hid (L0.length + 1 ≤ cap ∧ cap ≤ maxLen) := Lib.hid ⟨hP.sts.2.1, hP.sts.2.2.1⟩
        have HGW : Hid (g < wo.heap.size) := Lib.hid (World.ownsRow.lt hP.2.1 g rfl).2
        have HGB : Hid (w1.heap.size ≤ g) := Lib.hid (World.ownsRow.lt hP.2.1 g rfl).1
        have HOW : Hid (∀ k, ov.ownBlock = some k → w1.heap.size ≤ k ∧ k < wo.heap.size) := Lib.hid (World.ownsRow.lt hP.2.2.2.2.2.1)
        have HYN : Hid (y.outs.length ≤ 100000000) := Lib.hid (by have := HOO.out y (by simp); have := HTL.out; omega)
        obtain ⟨q, hq⟩ : ∃ q, L0.length = q := ⟨_, rfl⟩
        have HQ := Lib.hid hq
        have hR0 : wo.ownsRow w1.heap.size TS 6 (.slice (some ⟨g, 0, none⟩) (q + 1) cap) (q + 1) (stepsC L0 P0 ++ stepC y (dv, ov)) := hq ▸ hP.2.1
        have HC5 : Hid (∀ W : World, W.ownsRow w1.heap.size TS 6 (.slice (some ⟨g, 0, none⟩) (q + 1) cap) (q + 1) (stepsC L0 P0 ++ stepC y (dv, ov)) → W.cell? ⟨g, q * 6 + 5, none⟩ = some (.bool y.cr)) := Lib.hid (fun W h => by
          rw [h.cellAt (q * 6 + 5) (by omega), List.getElem?_append_right (by rw [stepsC_len HP.out.1]; have := HQ.out; omega), stepsC_len HP.out.1, show q * 6 + 5 - L0.length * 6 = 5 from by have := HQ.out; omega]
          rfl)
        have HC4 : Hid (∀ W : World, W.ownsRow w1.heap.size TS 6 (.slice (some ⟨g, 0, none⟩) (q + 1) cap) (q + 1) (stepsC L0 P0 ++ stepC y (dv, ov)) → W.cell? ⟨g, q * 6 + 4, none⟩ = some ov) := Lib.hid (fun W h => by
          rw [h.cellAt (q * 6 + 4) (by omega), List.getElem?_append_right (by rw [stepsC_len HP.out.1]; have := HQ.out; omega), stepsC_len HP.out.1, show q * 6 + 4 - L0.length * 6 = 4 from by have := HQ.out; omega]
          rfl)
        have HRW : Hid (∀ W : World, PSt1 W w1.heap.size g cap L0 P0 y dv ov D → W.ownsRow w1.heap.size TS 6 (.slice (some ⟨g, 0, none⟩) (q + 1) cap) (q + 1) (stepsC L0 P0 ++ stepC y (dv, ov))) := Lib.hid (fun W h => HQ.out ▸ h.2.1)
        have c5' := HC5.out wo hR0
        have hcap : (q : Int) + 1 ≤ (cap : Int) := by have := HC1.out.1; omega
        have hmx : cap ≤ 9223372036854775807 := by have := HC1.out.2; simpa only [maxLen] using this
        have hw1 : IntKind.i64.wrap (q : Int) = (q : Int) := IntWalk.i64_in _ (by have := HLL.out; simp at this; have := HTL.out; omega)
        have hge : decide ((0 : Int) ≤ (q : Int)) = true := by rw [decide_eq_true_iff]; omega
        have HPX : Hid (∀ W, Below wo.heap.size wo W → PSt W w1.heap.size (.slice (some ⟨g, 0, none⟩) (q + 1) cap) (L0 ++ [y])) := Lib.hid (fun W hW => .inr ⟨L0, y, P0, dv, ov, D, g, cap, rfl, by rw [HQ.out], HP.out.below hW⟩)
        rw [hq]
        clear hq hP hR0
        cases hcr : y.cr
        · have HCR := Lib.hid hcr
          rw [hcr] at c5'
          clear hcr
          rcases hod : outD a with _ | ⟨ob, ol⟩
          · by_cases hgn : a = goneB
            · have e1 : ((txt a).toList == goneB) = true := by rw [Go.ByteArray.toList_eq]; exact beq_iff_eq.2 hgn
              have HOD := Lib.hid hod
              have HGN := Lib.hid hgn
              clear hod hgn
              go_wp2_with (fail)
              refine (refOutput (txt a) wo (by rw [size_txt]; have := HAL.out; omega)).mono ?_
              rw [show (txt a).data.toList = a from rfl, HOD.out]
              rintro e w2 ⟨bb, ll, A5, m5, c5, rfl, hpp, hB5, hf5, hb2⟩
              have HB2 := Lib.hid (HB.out.trans (hb2.mono HB.out.size))
              have HPP := Lib.hid hpp
              have HB2W := Lib.hid hb2.size
              have HW2 := Lib.hid (hb2.alloc hb2.size (.cells (ouC bb (.slice A5 m5 c5)) TO))
              have hZ2 := heap_alloc_new w2 (.cells (ouC bb (.slice A5 m5 c5)) TO)
              have HZ2 := Lib.hid hZ2
              clear hZ2
              have HBE := Lib.hid (HB2.out.alloc HB2.out.size (.cells (ouC bb (.slice A5 m5 c5)) TO))
              have x2 := HX.out _ HBE.out
              have HBS := Lib.hid hB5
              have HFR := Lib.hid hf5
              clear hpp hB5 hf5 hb2 x1
              go_wp2_with (fail)
              refine (refRead19 (txt a) _ (by rw [size_txt]; have := HAL.out; omega)).mono ?_
              rw [show (txt a).data.toList = a from rfl]
              rintro e w3 hret
              obtain ⟨ek, en, ekp, el, A6, m6, c6, er, rfl, hB6, hf6, hb3, hcase⟩ := hret.each
              have HB3 := Lib.hid (HBE.out.trans (hb3.mono HBE.out.size))
              have HB3' := Lib.hid hb3
              have HB4 := Lib.hid (HB3.out.alloc HB3.out.size (.cells (evC ek en ekp (.slice A6 m6 c6)) TE))
              have HW3 := Lib.hid (HW2.out.trans (hb3.mono HW2.out.size))
              have HW4 := Lib.hid (HW3.out.alloc HW3.out.size (.cells (evC ek en ekp (.slice A6 m6 c6)) TE))
              have HZ3 := Lib.hid ((hb3.block _ (Array.getElem?_eq_some_iff.1 HZ2.out).1).trans HZ2.out)
              have HV2 : Hid (Below w2.heap.size w2 (w3.alloc (.cells (evC ek en ekp (.slice A6 m6 c6)) TE))) := Lib.hid (by
                have h1 : Below w2.heap.size w2 (w2.alloc (.cells (ouC bb (.slice A5 m5 c5)) TO)) := (Below.refl _ w2).alloc (Nat.le_refl _) _
                have h2 := h1.trans (hb3.mono h1.size)
                exact h2.alloc h2.size _)
              have HBS6 := Lib.hid hB6
              have HF6 : Hid (∀ x, A6 = some x → wo.heap.size ≤ x.block) := Lib.hid (fun x hx => Nat.le_trans (by rw [World.size_alloc]; have := HB2W.out; omega) (hf6 x hx))
              have HCASE := Lib.hid hcase
              have x3 := HX.out _ HB4.out
              clear hret hB6 hf6 hb3 hcase x2
              obtain ⟨rfl, _⟩ | ⟨rfl, hre⟩ := HCASE.out
              rotate_left
              · rw [HGN.out, gone_noread] at hre; cases hre
              have HPA := Lib.hid (HP.out.below HW4.out)
              have HROW := Lib.hid (HRW.out _ HPA.out)
              have s5 := HC5.out _ HROW.out
              rw [HCR.out] at s5
              have f5 := HROW.out.frozenAt (q * 6 + 5)
              have HF : Hid (PSt1 ((w3.alloc (.cells (evC ek en ekp (.slice A6 m6 c6)) TE)).setCell ⟨g, q * 6 + 5, none⟩ (.bool true)) w1.heap.size g cap L0 P0 { y with cr := true } dv ov D) := Lib.hid (HQ.out ▸ HPA.out.crash)
              have HLN' : Hid (lineT (L0 ++ [y]) a = some (L0 ++ [{ y with cr := true }])) := Lib.hid (by rw [lineT_gone HOD.out HGN.out, if_neg (by rw [HCR.out]; decide)])
              have HLEN := Lib.hid (lineT_len' HLN'.out HLL.out HOO.out)
              have HGF : Hid (goL (L0 ++ [{ y with cr := true }]) (k + 1) (T.drop (k + 1)) = R) := Lib.hid (by rw [HGO.out, HLN'.out])
              have HBF : Hid (Below w1.heap.size w1 ((w3.alloc (.cells (evC ek en ekp (.slice A6 m6 c6)) TE)).setCell ⟨g, q * 6 + 5, none⟩ (.bool true))) := Lib.hid (HB4.out.setCell (p := ⟨g, q * 6 + 5, none⟩) HGB.out _)
              clear HCASE HGO
              go_wp2_with (fail)
              exact ⟨⟨k + 1, _, rfl, by omega, HLEN.out.1, HLEN.out.2, HGF.out, .inr ⟨L0, _, P0, dv, _, _, g, cap, rfl, (by rw [HQ.out]), HF.out⟩, HBF.out⟩, by simp [intOf]; omega⟩
            · have e1 : ((txt a).toList == goneB) = false := by rw [Go.ByteArray.toList_eq, beq_eq_false_iff_ne]; exact hgn
              have HOD := Lib.hid hod
              have HGN := Lib.hid hgn
              clear hod hgn
              go_wp2_with (fail)
              refine (refOutput (txt a) wo (by rw [size_txt]; have := HAL.out; omega)).mono ?_
              rw [show (txt a).data.toList = a from rfl, HOD.out]
              rintro e w2 ⟨bb, ll, A5, m5, c5, rfl, hpp, hB5, hf5, hb2⟩
              have HB2 := Lib.hid (HB.out.trans (hb2.mono HB.out.size))
              have HPP := Lib.hid hpp
              have HB2W := Lib.hid hb2.size
              have HW2 := Lib.hid (hb2.alloc hb2.size (.cells (ouC bb (.slice A5 m5 c5)) TO))
              have hZ2 := heap_alloc_new w2 (.cells (ouC bb (.slice A5 m5 c5)) TO)
              have HZ2 := Lib.hid hZ2
              clear hZ2
              have HBE := Lib.hid (HB2.out.alloc HB2.out.size (.cells (ouC bb (.slice A5 m5 c5)) TO))
              have x2 := HX.out _ HBE.out
              have HBS := Lib.hid hB5
              have HFR := Lib.hid hf5
              clear hpp hB5 hf5 hb2 x1
              go_wp2_with (fail)
              refine (refRead19 (txt a) _ (by rw [size_txt]; have := HAL.out; omega)).mono ?_
              rw [show (txt a).data.toList = a from rfl]
              rintro e w3 hret
              obtain ⟨ek, en, ekp, el, A6, m6, c6, er, rfl, hB6, hf6, hb3, hcase⟩ := hret.each
              have HB3 := Lib.hid (HBE.out.trans (hb3.mono HBE.out.size))
              have HB3' := Lib.hid hb3
              have HB4 := Lib.hid (HB3.out.alloc HB3.out.size (.cells (evC ek en ekp (.slice A6 m6 c6)) TE))
              have HW3 := Lib.hid (HW2.out.trans (hb3.mono HW2.out.size))
              have HW4 := Lib.hid (HW3.out.alloc HW3.out.size (.cells (evC ek en ekp (.slice A6 m6 c6)) TE))
              have HZ3 := Lib.hid ((hb3.block _ (Array.getElem?_eq_some_iff.1 HZ2.out).1).trans HZ2.out)
              have HV2 : Hid (Below w2.heap.size w2 (w3.alloc (.cells (evC ek en ekp (.slice A6 m6 c6)) TE))) := Lib.hid (by
                have h1 : Below w2.heap.size w2 (w2.alloc (.cells (ouC bb (.slice A5 m5 c5)) TO)) := (Below.refl _ w2).alloc (Nat.le_refl _) _
                have h2 := h1.trans (hb3.mono h1.size)
                exact h2.alloc h2.size _)
              have HBS6 := Lib.hid hB6
              have HF6 : Hid (∀ x, A6 = some x → wo.heap.size ≤ x.block) := Lib.hid (fun x hx => Nat.le_trans (by rw [World.size_alloc]; have := HB2W.out; omega) (hf6 x hx))
              have HCASE := Lib.hid hcase
              have x3 := HX.out _ HB4.out
              clear hret hB6 hf6 hb3 hcase x2
              obtain ⟨rfl, hre⟩ | ⟨rfl, hre⟩ := HCASE.out
              · have HRT : Hid (R = ([], k, 10)) := Lib.hid (by rw [HGO.out, lineT_ev HOD.out HGN.out, hre])
                clear HCASE
                go_wp2_with (fail)
                refine bodyPost_ret (v := .tuple #[nilE, .int .i64 (k : Int), .int .i64 10]) (results_tmp3 Tryd.results24 _ _ _) rfl ?_
                exact ⟨_, by rw [HRT.out], by rw [HRT.out]; exact .inl ⟨rfl, rfl⟩, HB1.out.trans (HB4.out.mono HB1.out.size)⟩
              · obtain ⟨xs, hown, hnext⟩ := (HPX.out _ HW4.out).row
                have HOWN := Lib.hid hown
                have HNX := Lib.hid hnext
                have HLT4 : Hid (∀ j, (Value.slice (some ⟨g, 0, none⟩) (q + 1) cap).ownBlock = some j → w1.heap.size ≤ j ∧ j < wo.heap.size) := Lib.hid (by obtain ⟨ys, ho, _⟩ := (HPX.out _ (Below.refl _ _)).row; exact World.ownsRow.lt ho)
                have HSZ4 : Hid (w1.heap.size ≤ (w3.alloc (.cells (evC ek en ekp (.slice A6 m6 c6)) TE)).heap.size) := Lib.hid HB4.out.size
                clear hown hnext
                have HE4 : Hid ((w3.alloc (.cells (evC ek en ekp (.slice A6 m6 c6)) TE)).heap[w3.heap.size]? = some (.cells (evC ek en ekp (.slice A6 m6 c6)) TE)) := Lib.hid (heap_alloc_new w3 _)
                have z0 := cell_of_row _ w3.heap.size 0 _ _ _ HE4.out
                have z1 := cell_of_row _ w3.heap.size 1 _ _ _ HE4.out
                have z2 := cell_of_row _ w3.heap.size 2 _ _ _ HE4.out
                have z3 := cell_of_row _ w3.heap.size 3 _ _ _ HE4.out
                simp only [List.getElem?_toArray, List.getElem?_cons_zero, List.getElem?_cons_succ] at z0 z1 z2 z3
                obtain ⟨N, hN⟩ : ∃ N, N = (L0 ++ [y]).length := ⟨_, rfl⟩
                have HNN := Lib.hid hN
                have HNL : Hid (N ≤ 100000000) := Lib.hid (by rw [hN]; have := HLL.out; have := HTL.out; omega)
                rw [← hN] at HOWN
                clear hN
                have HLN' : Hid (lineT (L0 ++ [y]) a = some ((L0 ++ [y]) ++ [⟨ek, en, ekp, el, [], false⟩])) := Lib.hid (by rw [lineT_ev HOD.out HGN.out, hre])
                have HLEN := Lib.hid (lineT_len' HLN'.out HLL.out HOO.out)
                have HGF : Hid (goL ((L0 ++ [y]) ++ [⟨ek, en, ekp, el, [], false⟩]) (k + 1) (T.drop (k + 1)) = R) := Lib.hid (by rw [HGO.out, HLN'.out])
                have HB6' := Lib.hid (HBS6.out.below ((Below.refl _ w3).alloc (Nat.le_refl _) (.cells (evC ek en ekp (.slice A6 m6 c6)) TE)))
                have tok1 : Hid True := Lib.hid trivial
                clear hre HGO HCASE
                go_wp2_with (at_builtin; have _t := tok1; go_loud ((refine wpList_appOne rfl (.tmp 86) (.tmp 89) 39 rfl w1.heap.size TS (.agg (stC 0 0 0 nilE nilE false).toArray) 6 80 Tryd.underlying39 stInfo rfl (by decide) (Value.slice (some ⟨g, 0, none⟩) (q + 1) cap) N xs rfl HOWN.out (stC ek en ekp (.slice A6 m6 c6) nilE false) _ (w3.heap.size + 1) (World.size_alloc _ _) rfl rfl (stC_one _ _ _ _ _ _ _ _ _ _) (by have := HNL.out; omega) (by decide) HSZ4.out ?_; intro g5 c5' w5 ho5 hg5 hat5 hlt5; have HO5 := Lib.hid ho5; have HG5 := Lib.hid hg5; have HA5 := Lib.hid hat5; clear tok1 _t ho5 hg5 hat5)))
                have hbA : Below (w3.alloc (.cells (evC ek en ekp (.slice A6 m6 c6)) TE)).heap.size (w3.alloc (.cells (evC ek en ekp (.slice A6 m6 c6)) TE)) ((w3.alloc (.cells (evC ek en ekp (.slice A6 m6 c6)) TE)).alloc (.cells (stC ek en ekp (.slice A6 m6 c6) nilE false).toArray TS)) := (Below.refl _ _).alloc (Nat.le_refl _) _
                have hbl : Below w1.heap.size ((w3.alloc (.cells (evC ek en ekp (.slice A6 m6 c6)) TE)).alloc (.cells (stC ek en ekp (.slice A6 m6 c6) nilE false).toArray TS)) w5 := grown_below HG5.out (fun j hj => (HLT4.out j hj).1) (Nat.le_trans HSZ4.out hbA.size)
                have hbF : Below w1.heap.size w1 w5 := (HB4.out.trans (hbA.mono HSZ4.out)).trans hbl
                have hd : BsX (fun b => (Value.slice (some ⟨g, 0, none⟩) (q + 1) cap).ownBlock = some b) ((w3.alloc (.cells (evC ek en ekp (.slice A6 m6 c6)) TE)).alloc (.cells (stC ek en ekp (.slice A6 m6 c6) nilE false).toArray TS)) (.slice A6 m6 c6) el := ⟨A6, m6, c6, rfl, HB6'.out.below hbA, fun a ha => .inr (fun hx => by have h1 := (HLT4.out _ hx).2; have h2 := HF6.out a ha; omega)⟩
                have hps := HNX.out _ w5 g5 c5' ⟨ek, en, ekp, el, [], false⟩ (.slice A6 m6 c6) hbA rfl (by rw [← HNN.out]; exact HO5.out) HG5.out (by rw [World.size_alloc]; exact HA5.out) hd
                rw [← HNN.out] at hps
                exact ⟨⟨k + 1, _, rfl, by omega, HLEN.out.1, HLEN.out.2, HGF.out, hps, hbF⟩, by simp [intOf]; omega⟩
          · have hgn : a ≠ goneB := by rintro rfl; cases hod
            have e1 : ((txt a).toList == goneB) = false := by rw [Go.ByteArray.toList_eq, beq_eq_false_iff_ne]; exact hgn
            have HOD := Lib.hid hod
            have HGN := Lib.hid hgn
            clear hod hgn
            go_wp2_with (fail)
            refine (refOutput (txt a) wo (by rw [size_txt]; have := HAL.out; omega)).mono ?_
            rw [show (txt a).data.toList = a from rfl, HOD.out]
            rintro e w2 ⟨bb, ll, A5, m5, c5, rfl, hpp, hB5, hf5, hb2⟩
            have HB2 := Lib.hid (HB.out.trans (hb2.mono HB.out.size))
            have HPP := Lib.hid hpp
            have HB2W := Lib.hid hb2.size
            have HW2 := Lib.hid (hb2.alloc hb2.size (.cells (ouC bb (.slice A5 m5 c5)) TO))
            have hZ2 := heap_alloc_new w2 (.cells (ouC bb (.slice A5 m5 c5)) TO)
            have HZ2 := Lib.hid hZ2
            clear hZ2
            have HBE := Lib.hid (HB2.out.alloc HB2.out.size (.cells (ouC bb (.slice A5 m5 c5)) TO))
            have x2 := HX.out _ HBE.out
            have HBS := Lib.hid hB5
            have HFR := Lib.hid hf5
            clear hpp hB5 hf5 hb2 x1
            go_wp2_with (fail)
            refine (refRead19 (txt a) _ (by rw [size_txt]; have := HAL.out; omega)).mono ?_
            rw [show (txt a).data.toList = a from rfl]
            rintro e w3 hret
            obtain ⟨ek, en, ekp, el, A6, m6, c6, er, rfl, hB6, hf6, hb3, hcase⟩ := hret.each
            have HB3 := Lib.hid (HBE.out.trans (hb3.mono HBE.out.size))
            have HB3' := Lib.hid hb3
            have HB4 := Lib.hid (HB3.out.alloc HB3.out.size (.cells (evC ek en ekp (.slice A6 m6 c6)) TE))
            have HW3 := Lib.hid (HW2.out.trans (hb3.mono HW2.out.size))
            have HW4 := Lib.hid (HW3.out.alloc HW3.out.size (.cells (evC ek en ekp (.slice A6 m6 c6)) TE))
            have HZ3 := Lib.hid ((hb3.block _ (Array.getElem?_eq_some_iff.1 HZ2.out).1).trans HZ2.out)
            have HV2 : Hid (Below w2.heap.size w2 (w3.alloc (.cells (evC ek en ekp (.slice A6 m6 c6)) TE))) := Lib.hid (by
              have h1 : Below w2.heap.size w2 (w2.alloc (.cells (ouC bb (.slice A5 m5 c5)) TO)) := (Below.refl _ w2).alloc (Nat.le_refl _) _
              have h2 := h1.trans (hb3.mono h1.size)
              exact h2.alloc h2.size _)
            have HBS6 := Lib.hid hB6
            have HF6 : Hid (∀ x, A6 = some x → wo.heap.size ≤ x.block) := Lib.hid (fun x hx => Nat.le_trans (by rw [World.size_alloc]; have := HB2W.out; omega) (hf6 x hx))
            have HCASE := Lib.hid hcase
            have x3 := HX.out _ HB4.out
            clear hret hB6 hf6 hb3 hcase x2
            have hpq := HPP.out _ rfl
            simp only [Prod.mk.injEq] at hpq
            obtain ⟨rfl, rfl⟩ := hpq
            obtain ⟨rfl, _⟩ | ⟨rfl, hre⟩ := HCASE.out
            rotate_left
            · rw [out_noread HOD.out] at hre; cases hre
            have HPA := Lib.hid (HP.out.below HW4.out)
            have HROW := Lib.hid (HRW.out _ HPA.out)
            have q4' : (w3.alloc (.cells (evC ek en ekp (.slice A6 m6 c6)) TE)).cell? ⟨g, q * 6 + 4, none⟩ = some ov := HC4.out _ HROW.out
            have q4 : ∀ o, ((w3.alloc (.cells (evC ek en ekp (.slice A6 m6 c6)) TE)).alloc o).cell? ⟨g, q * 6 + 4, none⟩ = some ov := fun o => HC4.out _ (HROW.out.alloc o)
            have p4 : ∀ o, ((w3.alloc (.cells (evC ek en ekp (.slice A6 m6 c6)) TE)).alloc o).frozen? ⟨g, q * 6 + 4, none⟩ = false := fun o => (HROW.out.alloc o).frozenAt _
            have HZ4 : Hid ((w3.alloc (.cells (evC ek en ekp (.slice A6 m6 c6)) TE)).heap[w2.heap.size]? = some (.cells (ouC ob (.slice A5 m5 c5)) TO)) := Lib.hid (heap_keep HZ3.out _)
            have zo0 := cell_of_row _ w2.heap.size 0 _ _ _ HZ4.out
            have zo1 := cell_of_row _ w2.heap.size 1 _ _ _ HZ4.out
            simp only [List.getElem?_toArray, List.getElem?_cons_zero, List.getElem?_cons_succ] at zo0 zo1
            have hqq : (q : Int) < (q : Int) + 1 := by omega
            have HC : Hid (((w3.alloc (.cells (evC ek en ekp (.slice A6 m6 c6)) TE)).alloc (.cells (ouC ob (.slice A5 m5 c5)) TO)).heap[w3.heap.size + 1]? = some (.cells [Value.bool ob, .slice A5 m5 c5].toArray TO)) := Lib.hid (by
              have h := heap_alloc_new (w3.alloc (.cells (evC ek en ekp (.slice A6 m6 c6)) TE)) (.cells (ouC ob (.slice A5 m5 c5)) TO)
              rwa [World.size_alloc] at h)
            have HBL : Hid (Below w1.heap.size w1 ((w3.alloc (.cells (evC ek en ekp (.slice A6 m6 c6)) TE)).alloc (.cells (ouC ob (.slice A5 m5 c5)) TO)).drew) := Lib.hid (HB4.out.alloc HB4.out.size _).drew
            have HBL1 : Hid (Below wo.heap.size wo ((w3.alloc (.cells (evC ek en ekp (.slice A6 m6 c6)) TE)).alloc (.cells (ouC ob (.slice A5 m5 c5)) TO)).drew) := Lib.hid (HW4.out.alloc HW4.out.size _).drew
            have HBL2 : Hid (Below w2.heap.size w2 ((w3.alloc (.cells (evC ek en ekp (.slice A6 m6 c6)) TE)).alloc (.cells (ouC ob (.slice A5 m5 c5)) TO)).drew) := Lib.hid (HV2.out.alloc HV2.out.size _).drew
            have HSZ5 : Hid (w1.heap.size ≤ ((w3.alloc (.cells (evC ek en ekp (.slice A6 m6 c6)) TE)).alloc (.cells (ouC ob (.slice A5 m5 c5)) TO)).drew.heap.size) := Lib.hid HBL.out.size
            have HPW : Hid (PSt1 ((w3.alloc (.cells (evC ek en ekp (.slice A6 m6 c6)) TE)).alloc (.cells (ouC ob (.slice A5 m5 c5)) TO)).drew w1.heap.size g cap L0 P0 y dv ov D) := Lib.hid (HP.out.below HBL1.out)
            have HOWN : Hid (((w3.alloc (.cells (evC ek en ekp (.slice A6 m6 c6)) TE)).alloc (.cells (ouC ob (.slice A5 m5 c5)) TO)).drew.ownsRow w1.heap.size TO 2 ov y.outs.length (outsC y.outs D)) := Lib.hid HPW.out.2.2.2.2.2.1
            have HW1 := Lib.hid (HRW.out _ HPW.out)
            have HNG : Hid (∀ k, (Value.slice (some ⟨g, 0, none⟩) (q + 1) cap).ownBlock = some k → ¬ ov.ownBlock = some k) := Lib.hid (fun k hk hx => by
              simp only [Value.ownBlock, Option.some.injEq] at hk
              subst hk
              exact own_apart HOWN.out HW1.out (by decide) rfl hx)
            have HDX : Hid (BsX (XS g ov) ((w3.alloc (.cells (evC ek en ekp (.slice A6 m6 c6)) TE)).alloc (.cells (ouC ob (.slice A5 m5 c5)) TO)).drew (.slice A5 m5 c5) ol) := Lib.hid (BsX.ch (X := XS g ov) (w := w2) ⟨A5, m5, c5, rfl, HBS.out, fun a ha => .inr (by
              have h1 := HFR.out a ha
              rintro (h | h)
              · have := HGW.out; omega
              · have := (HOW.out _ h).2; omega)⟩ (Ch.of_below HBL2.out) (fun _ _ h => h))
            have tok1 : Hid True := Lib.hid trivial
            obtain ⟨N, hN⟩ : ∃ N, N = y.outs.length := ⟨_, rfl⟩
            have HNN := Lib.hid hN
            have HNL : Hid (N ≤ 100000000) := Lib.hid (hN ▸ HYN.out)
            rw [← hN] at HOWN
            have HLN' : Hid (lineT (L0 ++ [y]) a = some (L0 ++ [{ y with outs := y.outs ++ [⟨ob, ol⟩] }])) := Lib.hid (by rw [lineT_out HOD.out, if_neg (by rw [HCR.out]; decide)])
            have HLEN := Lib.hid (lineT_len' HLN'.out HLL.out HOO.out)
            have HGF : Hid (goL (L0 ++ [{ y with outs := y.outs ++ [⟨ob, ol⟩] }]) (k + 1) (T.drop (k + 1)) = R) := Lib.hid (by rw [HGO.out, HLN'.out])
            clear hN HCASE HGO
            go_wp2_with (fail)
            go_region_law (first | (have _t := tok1; refine step_appOne rfl (.tmp 64) (.tmp 66) 36 rfl w1.heap.size TO (ouV false nilE) 2 32 Tryd.underlying36 ouInfo rfl (by decide) ov N (outsC y.outs D) rfl HOWN.out [.bool ob, .slice A5 m5 c5] _ (w3.heap.size + 1) HC.out rfl rfl (ouC_one _ _ _ _) (by have := HNL.out; omega) (by decide) HSZ5.out ?_; intro gO cO w5 ho5 hg5 hat5 hlt5; have HO5 := Lib.hid ho5; have HCH := Lib.hid (Ch.of_grown (S := fun b => ov.ownBlock = some b) hg5 (fun k hk => hk)); have HW5 := Lib.hid (row_ch HW1.out HCH.out HNG.out); have s4 : w5.cell? ⟨g, q * 6 + 4, none⟩ = some ov := HC4.out _ HW5.out; have t4 : w5.frozen? ⟨g, q * 6 + 4, none⟩ = false := HW5.out.frozenAt _; have HAT := Lib.hid hat5; clear tok1 _t ho5 hg5 hat5))
            all_goals
              have HF : Hid (PSt1 (w5.setCell ⟨g, q * 6 + 4, none⟩ (.slice (some ⟨gO, 0, none⟩) (N + 1) cO)) w1.heap.size g cap L0 P0 { y with outs := y.outs ++ [⟨ob, ol⟩] } dv (.slice (some ⟨gO, 0, none⟩) (N + 1) cO) (D ++ [.slice A5 m5 c5])) := Lib.hid (by
                have h := PSt1.out HPW.out ⟨ob, ol⟩ (.slice A5 m5 c5) (.slice (some ⟨gO, 0, none⟩) (N + 1) cO) (by rw [← HNN.out]; exact HO5.out) HCH.out (fun k hk => by
                  simp only [Value.ownBlock, Option.some.injEq] at hk
                  subst hk
                  rcases HAT.out with h | h
                  · exact .inl h
                  · exact .inr (Nat.le_of_eq h.symm)) (HDX.out.ch (HCH.out.wide (fun z h => .inr h)) (fun z hz hx => by
                  rcases hx with h | h
                  · exact .inl h
                  · simp only [Value.ownBlock, Option.some.injEq] at h
                    subst h
                    rcases HAT.out with h | h
                    · exact .inr h
                    · exact absurd hz (by rw [h]; exact Nat.lt_irrefl _)))
                rwa [HQ.out] at h)
              have HBF : Hid (Below w1.heap.size w1 (w5.setCell ⟨g, q * 6 + 4, none⟩ (.slice (some ⟨gO, 0, none⟩) (N + 1) cO))) := Lib.hid ((HBL.out.trans (HCH.out.below (fun k hk => (HOW.out k hk).1) HSZ5.out)).setCell (p := ⟨g, q * 6 + 4, none⟩) HGB.out _)
              go_wp2_with (fail)
              exact ⟨⟨k + 1, _, rfl, by omega, HLEN.out.1, HLEN.out.2, HGF.out, .inr ⟨L0, _, P0, dv, _, _, g, cap, rfl, (by rw [HQ.out]), HF.out⟩, HBF.out⟩, by simp [intOf]; omega⟩
        · have HCR := Lib.hid hcr
          rw [hcr] at c5'
          clear hcr
          rcases hod : outD a with _ | ⟨ob, ol⟩
          · by_cases hgn : a = goneB
            · have e1 : ((txt a).toList == goneB) = true := by rw [Go.ByteArray.toList_eq]; exact beq_iff_eq.2 hgn
              have HOD := Lib.hid hod
              have HGN := Lib.hid hgn
              clear hod hgn
              go_wp2_with (fail)
              refine (refOutput (txt a) wo (by rw [size_txt]; have := HAL.out; omega)).mono ?_
              rw [show (txt a).data.toList = a from rfl, HOD.out]
              rintro e w2 ⟨bb, ll, A5, m5, c5, rfl, hpp, hB5, hf5, hb2⟩
              have HB2 := Lib.hid (HB.out.trans (hb2.mono HB.out.size))
              have HPP := Lib.hid hpp
              have HB2W := Lib.hid hb2.size
              have HW2 := Lib.hid (hb2.alloc hb2.size (.cells (ouC bb (.slice A5 m5 c5)) TO))
              have hZ2 := heap_alloc_new w2 (.cells (ouC bb (.slice A5 m5 c5)) TO)
              have HZ2 := Lib.hid hZ2
              clear hZ2
              have HBE := Lib.hid (HB2.out.alloc HB2.out.size (.cells (ouC bb (.slice A5 m5 c5)) TO))
              have x2 := HX.out _ HBE.out
              have HBS := Lib.hid hB5
              have HFR := Lib.hid hf5
              clear hpp hB5 hf5 hb2 x1
              go_wp2_with (fail)
              refine (refRead19 (txt a) _ (by rw [size_txt]; have := HAL.out; omega)).mono ?_
              rw [show (txt a).data.toList = a from rfl]
              rintro e w3 hret
              obtain ⟨ek, en, ekp, el, A6, m6, c6, er, rfl, hB6, hf6, hb3, hcase⟩ := hret.each
              have HB3 := Lib.hid (HBE.out.trans (hb3.mono HBE.out.size))
              have HB3' := Lib.hid hb3
              have HB4 := Lib.hid (HB3.out.alloc HB3.out.size (.cells (evC ek en ekp (.slice A6 m6 c6)) TE))
              have HW3 := Lib.hid (HW2.out.trans (hb3.mono HW2.out.size))
              have HW4 := Lib.hid (HW3.out.alloc HW3.out.size (.cells (evC ek en ekp (.slice A6 m6 c6)) TE))
              have HZ3 := Lib.hid ((hb3.block _ (Array.getElem?_eq_some_iff.1 HZ2.out).1).trans HZ2.out)
              have HV2 : Hid (Below w2.heap.size w2 (w3.alloc (.cells (evC ek en ekp (.slice A6 m6 c6)) TE))) := Lib.hid (by
                have h1 : Below w2.heap.size w2 (w2.alloc (.cells (ouC bb (.slice A5 m5 c5)) TO)) := (Below.refl _ w2).alloc (Nat.le_refl _) _
                have h2 := h1.trans (hb3.mono h1.size)
                exact h2.alloc h2.size _)
              have HBS6 := Lib.hid hB6
              have HF6 : Hid (∀ x, A6 = some x → wo.heap.size ≤ x.block) := Lib.hid (fun x hx => Nat.le_trans (by rw [World.size_alloc]; have := HB2W.out; omega) (hf6 x hx))
              have HCASE := Lib.hid hcase
              have x3 := HX.out _ HB4.out
              clear hret hB6 hf6 hb3 hcase x2
              obtain ⟨rfl, _⟩ | ⟨rfl, hre⟩ := HCASE.out
              rotate_left
              · rw [HGN.out, gone_noread] at hre; cases hre
              have HRT : Hid (R = ([], k, 10)) := Lib.hid (by rw [HGO.out, lineT_gone HOD.out HGN.out, if_pos HCR.out])
              clear HCASE
              go_wp2_with (fail)
              refine bodyPost_ret (v := .tuple #[nilE, .int .i64 (k : Int), .int .i64 10]) (results_tmp3 Tryd.results24 _ _ _) rfl ?_
              exact ⟨_, by rw [HRT.out], by rw [HRT.out]; exact .inl ⟨rfl, rfl⟩, HB1.out.trans (HB4.out.mono HB1.out.size)⟩
            · have e1 : ((txt a).toList == goneB) = false := by rw [Go.ByteArray.toList_eq, beq_eq_false_iff_ne]; exact hgn
              have HOD := Lib.hid hod
              have HGN := Lib.hid hgn
              clear hod hgn
              go_wp2_with (fail)
              refine (refOutput (txt a) wo (by rw [size_txt]; have := HAL.out; omega)).mono ?_
              rw [show (txt a).data.toList = a from rfl, HOD.out]
              rintro e w2 ⟨bb, ll, A5, m5, c5, rfl, hpp, hB5, hf5, hb2⟩
              have HB2 := Lib.hid (HB.out.trans (hb2.mono HB.out.size))
              have HPP := Lib.hid hpp
              have HB2W := Lib.hid hb2.size
              have HW2 := Lib.hid (hb2.alloc hb2.size (.cells (ouC bb (.slice A5 m5 c5)) TO))
              have hZ2 := heap_alloc_new w2 (.cells (ouC bb (.slice A5 m5 c5)) TO)
              have HZ2 := Lib.hid hZ2
              clear hZ2
              have HBE := Lib.hid (HB2.out.alloc HB2.out.size (.cells (ouC bb (.slice A5 m5 c5)) TO))
              have x2 := HX.out _ HBE.out
              have HBS := Lib.hid hB5
              have HFR := Lib.hid hf5
              clear hpp hB5 hf5 hb2 x1
              go_wp2_with (fail)
              refine (refRead19 (txt a) _ (by rw [size_txt]; have := HAL.out; omega)).mono ?_
              rw [show (txt a).data.toList = a from rfl]
              rintro e w3 hret
              obtain ⟨ek, en, ekp, el, A6, m6, c6, er, rfl, hB6, hf6, hb3, hcase⟩ := hret.each
              have HB3 := Lib.hid (HBE.out.trans (hb3.mono HBE.out.size))
              have HB3' := Lib.hid hb3
              have HB4 := Lib.hid (HB3.out.alloc HB3.out.size (.cells (evC ek en ekp (.slice A6 m6 c6)) TE))
              have HW3 := Lib.hid (HW2.out.trans (hb3.mono HW2.out.size))
              have HW4 := Lib.hid (HW3.out.alloc HW3.out.size (.cells (evC ek en ekp (.slice A6 m6 c6)) TE))
              have HZ3 := Lib.hid ((hb3.block _ (Array.getElem?_eq_some_iff.1 HZ2.out).1).trans HZ2.out)
              have HV2 : Hid (Below w2.heap.size w2 (w3.alloc (.cells (evC ek en ekp (.slice A6 m6 c6)) TE))) := Lib.hid (by
                have h1 : Below w2.heap.size w2 (w2.alloc (.cells (ouC bb (.slice A5 m5 c5)) TO)) := (Below.refl _ w2).alloc (Nat.le_refl _) _
                have h2 := h1.trans (hb3.mono h1.size)
                exact h2.alloc h2.size _)
              have HBS6 := Lib.hid hB6
              have HF6 : Hid (∀ x, A6 = some x → wo.heap.size ≤ x.block) := Lib.hid (fun x hx => Nat.le_trans (by rw [World.size_alloc]; have := HB2W.out; omega) (hf6 x hx))
              have HCASE := Lib.hid hcase
              have x3 := HX.out _ HB4.out
              clear hret hB6 hf6 hb3 hcase x2
              obtain ⟨rfl, hre⟩ | ⟨rfl, hre⟩ := HCASE.out
              · have HRT : Hid (R = ([], k, 10)) := Lib.hid (by rw [HGO.out, lineT_ev HOD.out HGN.out, hre])
                clear HCASE
                go_wp2_with (fail)
                refine bodyPost_ret (v := .tuple #[nilE, .int .i64 (k : Int), .int .i64 10]) (results_tmp3 Tryd.results24 _ _ _) rfl ?_
                exact ⟨_, by rw [HRT.out], by rw [HRT.out]; exact .inl ⟨rfl, rfl⟩, HB1.out.trans (HB4.out.mono HB1.out.size)⟩
              · obtain ⟨xs, hown, hnext⟩ := (HPX.out _ HW4.out).row
                have HOWN := Lib.hid hown
                have HNX := Lib.hid hnext
                have HLT4 : Hid (∀ j, (Value.slice (some ⟨g, 0, none⟩) (q + 1) cap).ownBlock = some j → w1.heap.size ≤ j ∧ j < wo.heap.size) := Lib.hid (by obtain ⟨ys, ho, _⟩ := (HPX.out _ (Below.refl _ _)).row; exact World.ownsRow.lt ho)
                have HSZ4 : Hid (w1.heap.size ≤ (w3.alloc (.cells (evC ek en ekp (.slice A6 m6 c6)) TE)).heap.size) := Lib.hid HB4.out.size
                clear hown hnext
                have HE4 : Hid ((w3.alloc (.cells (evC ek en ekp (.slice A6 m6 c6)) TE)).heap[w3.heap.size]? = some (.cells (evC ek en ekp (.slice A6 m6 c6)) TE)) := Lib.hid (heap_alloc_new w3 _)
                have z0 := cell_of_row _ w3.heap.size 0 _ _ _ HE4.out
                have z1 := cell_of_row _ w3.heap.size 1 _ _ _ HE4.out
                have z2 := cell_of_row _ w3.heap.size 2 _ _ _ HE4.out
                have z3 := cell_of_row _ w3.heap.size 3 _ _ _ HE4.out
                simp only [List.getElem?_toArray, List.getElem?_cons_zero, List.getElem?_cons_succ] at z0 z1 z2 z3
                obtain ⟨N, hN⟩ : ∃ N, N = (L0 ++ [y]).length := ⟨_, rfl⟩
                have HNN := Lib.hid hN
                have HNL : Hid (N ≤ 100000000) := Lib.hid (by rw [hN]; have := HLL.out; have := HTL.out; omega)
                rw [← hN] at HOWN
                clear hN
                have HLN' : Hid (lineT (L0 ++ [y]) a = some ((L0 ++ [y]) ++ [⟨ek, en, ekp, el, [], false⟩])) := Lib.hid (by rw [lineT_ev HOD.out HGN.out, hre])
                have HLEN := Lib.hid (lineT_len' HLN'.out HLL.out HOO.out)
                have HGF : Hid (goL ((L0 ++ [y]) ++ [⟨ek, en, ekp, el, [], false⟩]) (k + 1) (T.drop (k + 1)) = R) := Lib.hid (by rw [HGO.out, HLN'.out])
                have HB6' := Lib.hid (HBS6.out.below ((Below.refl _ w3).alloc (Nat.le_refl _) (.cells (evC ek en ekp (.slice A6 m6 c6)) TE)))
                have tok1 : Hid True := Lib.hid trivial
                clear hre HGO HCASE
                go_wp2_with (at_builtin; have _t := tok1; go_loud ((refine wpList_appOne rfl (.tmp 86) (.tmp 89) 39 rfl w1.heap.size TS (.agg (stC 0 0 0 nilE nilE false).toArray) 6 80 Tryd.underlying39 stInfo rfl (by decide) (Value.slice (some ⟨g, 0, none⟩) (q + 1) cap) N xs rfl HOWN.out (stC ek en ekp (.slice A6 m6 c6) nilE false) _ (w3.heap.size + 1) (World.size_alloc _ _) rfl rfl (stC_one _ _ _ _ _ _ _ _ _ _) (by have := HNL.out; omega) (by decide) HSZ4.out ?_; intro g5 c5' w5 ho5 hg5 hat5 hlt5; have HO5 := Lib.hid ho5; have HG5 := Lib.hid hg5; have HA5 := Lib.hid hat5; clear tok1 _t ho5 hg5 hat5)))
                have hbA : Below (w3.alloc (.cells (evC ek en ekp (.slice A6 m6 c6)) TE)).heap.size (w3.alloc (.cells (evC ek en ekp (.slice A6 m6 c6)) TE)) ((w3.alloc (.cells (evC ek en ekp (.slice A6 m6 c6)) TE)).alloc (.cells (stC ek en ekp (.slice A6 m6 c6) nilE false).toArray TS)) := (Below.refl _ _).alloc (Nat.le_refl _) _
                have hbl : Below w1.heap.size ((w3.alloc (.cells (evC ek en ekp (.slice A6 m6 c6)) TE)).alloc (.cells (stC ek en ekp (.slice A6 m6 c6) nilE false).toArray TS)) w5 := grown_below HG5.out (fun j hj => (HLT4.out j hj).1) (Nat.le_trans HSZ4.out hbA.size)
                have hbF : Below w1.heap.size w1 w5 := (HB4.out.trans (hbA.mono HSZ4.out)).trans hbl
                have hd : BsX (fun b => (Value.slice (some ⟨g, 0, none⟩) (q + 1) cap).ownBlock = some b) ((w3.alloc (.cells (evC ek en ekp (.slice A6 m6 c6)) TE)).alloc (.cells (stC ek en ekp (.slice A6 m6 c6) nilE false).toArray TS)) (.slice A6 m6 c6) el := ⟨A6, m6, c6, rfl, HB6'.out.below hbA, fun a ha => .inr (fun hx => by have h1 := (HLT4.out _ hx).2; have h2 := HF6.out a ha; omega)⟩
                have hps := HNX.out _ w5 g5 c5' ⟨ek, en, ekp, el, [], false⟩ (.slice A6 m6 c6) hbA rfl (by rw [← HNN.out]; exact HO5.out) HG5.out (by rw [World.size_alloc]; exact HA5.out) hd
                rw [← HNN.out] at hps
                exact ⟨⟨k + 1, _, rfl, by omega, HLEN.out.1, HLEN.out.2, HGF.out, hps, hbF⟩, by simp [intOf]; omega⟩
          · have hgn : a ≠ goneB := by rintro rfl; cases hod
            have e1 : ((txt a).toList == goneB) = false := by rw [Go.ByteArray.toList_eq, beq_eq_false_iff_ne]; exact hgn
            have HOD := Lib.hid hod
            have HGN := Lib.hid hgn
            clear hod hgn
            go_wp2_with (fail)
            refine (refOutput (txt a) wo (by rw [size_txt]; have := HAL.out; omega)).mono ?_
            rw [show (txt a).data.toList = a from rfl, HOD.out]
            rintro e w2 ⟨bb, ll, A5, m5, c5, rfl, hpp, hB5, hf5, hb2⟩
            have HB2 := Lib.hid (HB.out.trans (hb2.mono HB.out.size))
            have HPP := Lib.hid hpp
            have HB2W := Lib.hid hb2.size
            have HW2 := Lib.hid (hb2.alloc hb2.size (.cells (ouC bb (.slice A5 m5 c5)) TO))
            have hZ2 := heap_alloc_new w2 (.cells (ouC bb (.slice A5 m5 c5)) TO)
            have HZ2 := Lib.hid hZ2
            clear hZ2
            have HBE := Lib.hid (HB2.out.alloc HB2.out.size (.cells (ouC bb (.slice A5 m5 c5)) TO))
            have x2 := HX.out _ HBE.out
            have HBS := Lib.hid hB5
            have HFR := Lib.hid hf5
            clear hpp hB5 hf5 hb2 x1
            go_wp2_with (fail)
            refine (refRead19 (txt a) _ (by rw [size_txt]; have := HAL.out; omega)).mono ?_
            rw [show (txt a).data.toList = a from rfl]
            rintro e w3 hret
            obtain ⟨ek, en, ekp, el, A6, m6, c6, er, rfl, hB6, hf6, hb3, hcase⟩ := hret.each
            have HB3 := Lib.hid (HBE.out.trans (hb3.mono HBE.out.size))
            have HB3' := Lib.hid hb3
            have HB4 := Lib.hid (HB3.out.alloc HB3.out.size (.cells (evC ek en ekp (.slice A6 m6 c6)) TE))
            have HW3 := Lib.hid (HW2.out.trans (hb3.mono HW2.out.size))
            have HW4 := Lib.hid (HW3.out.alloc HW3.out.size (.cells (evC ek en ekp (.slice A6 m6 c6)) TE))
            have HZ3 := Lib.hid ((hb3.block _ (Array.getElem?_eq_some_iff.1 HZ2.out).1).trans HZ2.out)
            have HV2 : Hid (Below w2.heap.size w2 (w3.alloc (.cells (evC ek en ekp (.slice A6 m6 c6)) TE))) := Lib.hid (by
              have h1 : Below w2.heap.size w2 (w2.alloc (.cells (ouC bb (.slice A5 m5 c5)) TO)) := (Below.refl _ w2).alloc (Nat.le_refl _) _
              have h2 := h1.trans (hb3.mono h1.size)
              exact h2.alloc h2.size _)
            have HBS6 := Lib.hid hB6
            have HF6 : Hid (∀ x, A6 = some x → wo.heap.size ≤ x.block) := Lib.hid (fun x hx => Nat.le_trans (by rw [World.size_alloc]; have := HB2W.out; omega) (hf6 x hx))
            have HCASE := Lib.hid hcase
            have x3 := HX.out _ HB4.out
            clear hret hB6 hf6 hb3 hcase x2
            obtain ⟨rfl, _⟩ | ⟨rfl, hre⟩ := HCASE.out
            rotate_left
            · rw [out_noread HOD.out] at hre; cases hre
            have HRT : Hid (R = ([], k, 10)) := Lib.hid (by rw [HGO.out, lineT_out HOD.out, if_pos HCR.out])
            clear HCASE
            go_wp2_with (fail)
            refine bodyPost_ret (v := .tuple #[nilE, .int .i64 (k : Int), .int .i64 10]) (results_tmp3 Tryd.results24 _ _ _) rfl ?_
            exact ⟨_, by rw [HRT.out], by rw [HRT.out]; exact .inl ⟨rfl, rfl⟩, HB1.out.trans (HB4.out.mono HB1.out.size)⟩
    · obtain rfl : n = k + 1 := by omega
      have hkT : k < T.length := by have := HN.out; omega
      obtain ⟨a, ha⟩ : ∃ a, a = T[k] := ⟨_, rfl⟩
      have HGE : Hid (R = goL L k [a]) := Lib.hid (by rw [← HG.out, List.drop_eq_getElem_cons hkT, ← ha, List.drop_eq_nil_of_le (by have := HN.out; omega)])
      have x1 : wo.cell? ⟨b0, o0 + k, none⟩ = some (.string (txt a)) := by
        obtain ⟨b', o', e', _, hc⟩ := HST.out.at_ HTN.out
        injection e' with e'
        injection e' with e1 e2
        subst e1 e2
        exact (HB.out.cell (p := ⟨b0, o0 + k, none⟩) HLT0.out).trans (hc k _ (by rw [List.getElem?_eq_getElem hkT, ← ha]))
      have hw9 : IntKind.i64.wrap (k : Int) = (k : Int) := IntWalk.i64_in _ (by have := HTL.out; omega)
      clear ha hkT hlt
      obtain ⟨A9, c9, rfl, _⟩ := HST'.out.sts
      by_cases h0 : a = []
      · have e1 : (txt a).toList.isEmpty = true := by rw [Go.ByteArray.toList_eq, h0]; rfl
        have HRT : Hid (R = (L, k, 0)) := Lib.hid (by rw [HGE.out, goL, if_pos h0])
        clear h0
        obtain ⟨u, hu⟩ : ∃ u, u = txt a := ⟨_, rfl⟩
        rw [← hu] at x1 e1
        clear hu
        go_wp2_with (fail)
        refine bodyPost_ret (v := .tuple #[.slice A9 L.length c9, .int .i64 (k : Int), .int .i64 0]) (results_tmp3 Tryd.results24 _ _ _) rfl ?_
        exact ⟨_, by rw [HRT.out], by rw [HRT.out]; exact HST'.out.mono HB1.out.size, HB1.out.trans (HB.out.mono HB1.out.size)⟩
      · have e1 : (txt a).toList.isEmpty = false := by rw [Go.ByteArray.toList_eq]; cases a with | nil => exact absurd rfl h0 | cons x r => rfl
        have HRT : Hid (R = ([], k, 10)) := Lib.hid (by rw [HGE.out, goL, if_neg h0])
        clear h0
        obtain ⟨u, hu⟩ : ∃ u, u = txt a := ⟨_, rfl⟩
        rw [← hu] at x1 e1
        clear hu
        go_wp2_with (fail)
        refine bodyPost_ret (v := .tuple #[nilE, .int .i64 (k : Int), .int .i64 10]) (results_tmp3 Tryd.results24 _ _ _) rfl ?_
        exact ⟨_, by rw [HRT.out], by rw [HRT.out]; exact .inl ⟨rfl, rfl⟩, HB1.out.trans (HB.out.mono HB1.out.size)⟩
end Go.Proofs.YtnoppnnpennddaaDoor
