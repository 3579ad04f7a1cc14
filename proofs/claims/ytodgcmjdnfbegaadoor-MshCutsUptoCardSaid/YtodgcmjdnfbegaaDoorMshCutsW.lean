/- MshCuts, walked. -/
import Derived.Test.YtodgcmjdnfbegaaDoorMshEG
import Derived.Test.YtodgcmjdnfbegaaDoorMsh5
import Derived.Test.YtodgcmjdnfbegaaDoorConv
import Derived.Test.YtodgcmjdnfbegaaDoorHeld
import Derived.Test.YtodgcmjdnfbegaaDoorMshBackM
import Derived.Test.YtodgcmjdnfbegaaDoorHdEq
import Derived.Test.YtodgcmjdnfbegaaDoorTxt
import Derived.Test.YtodgcmjdnfbegaaDoorRowM
namespace Go.Proofs.YtodgcmjdnfbegaaDoor
open Go.RowKit Lib

/-- a head's text number j -/
def tx (h : Hd) (j : Nat) : ByteArray := h.l.getD j ⟨#[]⟩
/-- a head of a cut segment: its texts are whole up to the i-th, which is a beginning; behind it there is none -/
def CutRel (g h : Hd) (i : Nat) : Prop := ∀ j, j < 10 → (j < i → tx g j = tx h j) ∧ (j = i → (tx g j).data.toList <+: (tx h j).data.toList) ∧ (i < j → tx g j = ⟨#[]⟩)
theorem hdTo_tx (d : Sgn) (T : Nat → ByteArray) (j : Nat) (hj : j < 10) : tx (hdTo d T 10) j = T j := by
  match j, hj with
  | 0, _ => rfl
  | 1, _ => rfl
  | 2, _ => rfl
  | 3, _ => rfl
  | 4, _ => rfl
  | 5, _ => rfl
  | 6, _ => rfl
  | 7, _ => rfl
  | 8, _ => rfl
  | 9, _ => rfl
theorem read_cut {h : Hd} (hg : h.d.good = true) (hs : h.l.all (standD h.d.a) = true) (k : Nat) (h1 : 9 ≤ k) (h2 : k ≤ (segH h).length) :
    ∃ g i, readH ((segH h).take k) = (g, 0) ∧ g.d = h.d ∧ CutRel g h i := by
  rw [segH_eq] at h2 ⊢
  rw [List.length_append] at h2
  have hk : ([77, 83, 72, h.d.a, h.d.b, h.d.c, h.d.d, h.d.e] : List UInt8).length = 8 := rfl
  rw [hk] at h2
  obtain ⟨i, x, e1, hi, hx⟩ := joinTail_cut h.d.a (rowK h) (k - 8) (by omega) (by omega)
  have e : ([77, 83, 72, h.d.a, h.d.b, h.d.c, h.d.d, h.d.e] ++ joinTail [h.d.a] (rowK h)).take k = rowSeg h.d ((rowK h).take i ++ [x]) ++ [] := by
    rw [List.take_append, hk, List.take_of_length_le (by rw [hk]; omega), e1, List.append_nil]
    rfl
  have hmem : ∀ y ∈ (rowK h).take i ++ [x], h.d.a ∉ y ∧ (13 : UInt8) ∉ y := fun y hy => by
    rcases List.mem_append.1 hy with hy | hy
    · exact rowK_mem hs (List.mem_of_mem_take hy)
    · rw [List.mem_singleton.1 hy]
      have hin : (rowK h).getD i [] ∈ rowK h := by
        rw [List.getD_eq_getElem?_getD, List.getElem?_eq_getElem hi]
        exact List.getElem_mem _
      have := rowK_mem hs hin
      exact ⟨fun hm => this.1 (hx.subset hm), fun hm => this.2 (hx.subset hm)⟩
  rw [e, read_row hg (by simp) hmem [] (.inl rfl)]
  refine ⟨_, i, rfl, rfl, fun j hj => ?_⟩
  rw [hdTo_tx _ _ j hj, textsD_any]
  have hh : tx h j = txt ((rowK h).getD j []) := by
    rw [← textsD_any [h.d.a] [h.d.b, h.d.c, h.d.d, h.d.e] (rowK h) j]
    exact (textsD_row h _ _ j hj).symm
  rw [hh]
  refine ⟨fun hlt => ?_, fun he => ?_, fun hlt => ?_⟩
  · congr 1
    rw [List.getD_eq_getElem?_getD, List.getD_eq_getElem?_getD, List.getElem?_append_left (by rw [List.length_take]; omega), List.getElem?_take, if_pos hlt]
  · subst he
    have : ((rowK h).take j ++ [x]).getD j [] = x := by
      rw [List.getD_eq_getElem?_getD, List.getElem?_append_right (by rw [List.length_take]; omega), List.length_take, show j - min j (rowK h).length = 0 by omega]
      rfl
    rw [this]
    simpa using hx
  · rw [List.getD_eq_getElem?_getD, List.getElem?_eq_none (by simp; omega)]
    rfl
abbrev pairs (g h : Hd) : Array Value := #[.string g.a0, .string h.a0, .string g.a1, .string h.a1, .string g.a2, .string h.a2, .string g.a3, .string h.a3, .string g.a4, .string h.a4, .string g.a5, .string h.a5, .string g.a6, .string h.a6, .string g.a7, .string h.a7, .string g.a8, .string h.a8, .string g.a9, .string h.a9]
theorem pairs_at (g h : Hd) (k : Nat) (hk : k < 10) : (pairs g h)[2 * k]? = some (.string (tx g k)) ∧ (pairs g h)[2 * k + 1]? = some (.string (tx h k)) := by
  match k, hk with
  | 0, _ => exact ⟨rfl, rfl⟩
  | 1, _ => exact ⟨rfl, rfl⟩
  | 2, _ => exact ⟨rfl, rfl⟩
  | 3, _ => exact ⟨rfl, rfl⟩
  | 4, _ => exact ⟨rfl, rfl⟩
  | 5, _ => exact ⟨rfl, rfl⟩
  | 6, _ => exact ⟨rfl, rfl⟩
  | 7, _ => exact ⟨rfl, rfl⟩
  | 8, _ => exact ⟨rfl, rfl⟩
  | 9, _ => exact ⟨rfl, rfl⟩
theorem slice_take (S : List UInt8) (k : Nat) (h : k ≤ S.length) (W : World) : (Instr.sliceAt 9 (.string (txt S)) none (some (.int .i64 (k : Int))) none).run Tryd.prog W = .ok (str (S.take k)) W := by
  have e : (txt S).extract 0 k = txt (S.take k) := by
    apply ByteArray.ext
    simp
  simp [Instr.sliceAt, go_sem, run_underlying Tryd.underlying9, h]
  first | rw [e] | skip

set_option maxHeartbeats 16000000 in
set_option maxRecDepth 100000 in
theorem mshCuts_walk (h : Hd) (cut : Int) (w : World) (hv : Vers w) (_wf : (Lit.int .i64 cut).wf = true) (ht : Lib.lens (h.l.map (·.data.toList)) ≤ 1048576) :
    Calls Tryd.prog 8 #[h.v, .int .i64 cut] w (True_ w) := by
  have hs : h.sum ≤ 1048576 := by rw [h.sum_eq]; exact ht
  have HS := Lib.hid hs
  have HX0 := Lib.hid (BoxH.new h w)
  have HB0 := Lib.hid (boxHd_below h w)
  have HV := Lib.hid (fun W (hb : Below w.heap.size w W) => hv.below hb)
  have HE := Lib.hid (writeH_cases h)
  have HSL := Lib.hid (segH_len h)
  have HSM := Lib.hid h.sum_eq
  clear hv ht hs
  go_enter Tryd.func8, Tryd.ntmps8
  go_wp2_with (with_reducible refine wpList_loadHG (dst := some 13) w.heap.size h (by kernel_rfl) (by kernel_rfl) HX0.out ?_)
  generalize w.alloc (.cells #[u8 h.d.a, u8 h.d.b, u8 h.d.c, u8 h.d.d, u8 h.d.e, .string h.a0, .string h.a1, .string h.a2, .string h.a3, .string h.a4, .string h.a5, .string h.a6, .string h.a7, .string h.a8, .string h.a9] TH) = w0 at *
  refine (great_head h w0 HS.out rfl rfl).mono ?_
  rintro e w1 ⟨rfl, hb1⟩
  have HX1 := Lib.hid (HX0.out.below hb1)
  have HB1 := Lib.hid (HB0.out.trans (hb1.mono HB0.out.size))
  clear hb1
  cases hgr : decide (3000 < h.sum)
  case true =>
    as_aux_lemma =>
    clear hgr
    go_wp2_with (fail)
    refine (alive09 w1 (HV.out w1 HB1.out)).mono ?_
    rintro e w2 ⟨rfl, hbA⟩
    have HBA := Lib.hid (HB1.out.trans (hbA.mono HB1.out.size))
    clear hbA
    go_wp2_with (fail)
    go_ret
    exact ⟨rfl, HBA.out⟩
  case false =>
    have HSM3 : Hid (h.sum ≤ 3000) := Lib.hid (by have := of_decide_eq_false hgr; omega)
    clear hgr
    go_wp2_with (with_reducible refine wpList_loadHG (dst := some 17) w.heap.size h (by kernel_rfl) (by kernel_rfl) HX1.out ?_)
    refine (write_ h w1 (by have := HSM3.out; have := HSM.out; omega)).mono ?_
    rintro e w2 ⟨rfl, hb2⟩
    have HX2 := Lib.hid (HX1.out.below hb2)
    have HB2 := Lib.hid (HB1.out.trans (hb2.mono HB1.out.size))
    clear hb2 HX1 HB1 HX0 HB0
    rcases HE.out with hw | hw | ⟨hw, hg, hst⟩
    · as_aux_lemma =>
      rw [hw]
      rw [show str (([], (11 : Int)) : List UInt8 × Int).1 = Value.string ⟨#[]⟩ from rfl]
      clear hw
      go_wp2_with (fail)
      refine (alive09 w2 (HV.out w2 HB2.out)).mono ?_
      rintro e w3 ⟨rfl, hbA⟩
      have HBA := Lib.hid (HB2.out.trans (hbA.mono HB2.out.size))
      clear hbA
      go_wp2_with (fail)
      go_ret
      exact ⟨rfl, HBA.out⟩
    · as_aux_lemma =>
      rw [hw]
      rw [show str (([], (10 : Int)) : List UInt8 × Int).1 = Value.string ⟨#[]⟩ from rfl]
      clear hw
      go_wp2_with (fail)
      refine (alive09 w2 (HV.out w2 HB2.out)).mono ?_
      rintro e w3 ⟨rfl, hbA⟩
      have HBA := Lib.hid (HB2.out.trans (hbA.mono HB2.out.size))
      clear hbA
      go_wp2_with (fail)
      go_ret
      exact ⟨rfl, HBA.out⟩
    · have HRC := Lib.hid (fun k => read_cut hg hst k)
      rw [hw]
      clear hw hg hst
      obtain ⟨S, hS⟩ : ∃ S, S = segH h := ⟨_, rfl⟩
      rw [← hS] at HRC HSL ⊢
      clear hS
      obtain ⟨N, hN⟩ : ∃ N, S.length = N := ⟨_, rfl⟩
      have HNN : Hid (N ≤ 3018) := Lib.hid (by have := HSL.out; have := HSM3.out; omega)
      have hts : (txt S).size = N := by rw [txt_size, hN]
      have HL := Lib.hid hN
      clear HSL hN
      by_cases hsm : N < 9
      · as_aux_lemma =>
        have d1 : decide (N < 9) = true := by simpa using hsm
        have d2 : decide ((N : Int) < 9) = true := by simp; omega
        go_wp2_with (fail)
        refine (alive09 w2 (HV.out w2 HB2.out)).mono ?_
        rintro e w3 ⟨rfl, hbA⟩
        have HBA := Lib.hid (HB2.out.trans (hbA.mono HB2.out.size))
        clear hbA
        go_wp2_with (fail)
        go_ret
        exact ⟨rfl, HBA.out⟩
      have d1 : decide (N < 9) = false := by simpa using hsm
      have d2 : decide ((N : Int) < 9) = false := by simp; omega
      obtain ⟨M, hM⟩ : ∃ M : Nat, N = M + 8 := ⟨N - 8, by omega⟩
      have hu0 : 0 ≤ IntKind.u64.wrap cut := by simp [IntKind.wrap, IntKind.bits, IntKind.signed]; omega
      obtain ⟨i, hi⟩ : ∃ i : Nat, (IntKind.u64.wrap cut).tmod (M : Int) = (i : Int) := ⟨((IntKind.u64.wrap cut) % (M : Int)).toNat, by
        rw [Int.tmod_eq_emod_of_nonneg hu0]; have := Int.emod_nonneg (IntKind.u64.wrap cut) (show (M : Int) ≠ 0 by omega); omega⟩
      have hiM : i < M := by
        rw [Int.tmod_eq_emod_of_nonneg hu0] at hi
        have := Int.emod_lt_of_pos (IntKind.u64.wrap cut) (show (0 : Int) < (M : Int) by omega)
        omega
      have HU1 : Hid (wrap64 ((N : Int) - 8) = (M : Int)) := Lib.hid (by rw [IntWalk.wrap64_in _ (by have := HNN.out; omega)]; omega)
      have HU2 : Hid (IntKind.u64.wrap (M : Int) = (M : Int)) := Lib.hid (by have := HNN.out; simp [IntKind.wrap, IntKind.bits, IntKind.signed]; omega)
      have HU4 : Hid (wrap64 (i : Int) = (i : Int)) := Lib.hid (IntWalk.wrap64_in _ (by have := HNN.out; omega))
      obtain ⟨K, hK⟩ : ∃ K, K = 9 + i := ⟨_, rfl⟩
      have HU5 : Hid (wrap64 (9 + (i : Int)) = (K : Int)) := Lib.hid (by rw [IntWalk.wrap64_in _ (by have := HNN.out; omega)]; omega)
      have HKN : Hid (9 ≤ K ∧ K ≤ N) := Lib.hid (by omega)
      obtain ⟨g, i0, hrd, hgd, hrel⟩ := HRC.out K HKN.out.1 (by rw [HL.out]; exact HKN.out.2)
      have HRD := Lib.hid hrd
      have HGD := Lib.hid hgd
      have HREL := Lib.hid hrel
      have hsl := slice_take S K (by rw [HL.out]; exact HKN.out.2)
      have HYL : Hid ((S.take K).length = K) := Lib.hid (by rw [List.length_take, HL.out]; have := HKN.out.2; omega)
      generalize S.take K = Y at *
      have hM0 : ((M : Int) == 0) = false := by rw [beq_eq_false_iff_ne]; omega
      have hM1 : ¬ ((M : Int) = 0) := by omega
      clear hsm hM hiM hK hrd hgd hrel hu0 HRC HE
      have u1 := HU1.out
      have u2 := HU2.out
      have u4 := HU4.out
      have u5 := HU5.out
      have tok1 : Hid True := Lib.hid trivial
      go_wp2_with (have _t := tok1; with_reducible refine wpList_convT Y K w2.heap.size (by kernel_rfl) HYL.out (by have h1 := HKN.out; have h2 := HNN.out; clear u1 u2 u4 u5 hi; simp only [maxLen]; omega) rfl ?_; intro cap3 w3 HC3 hb3; have HB3 := Lib.hid (HB2.out.trans (hb3.mono HB2.out.size)); have HX3 := Lib.hid (HX2.out.below hb3); clear tok1 hb3 _t)
      clear u1 u2 u4 u5 hi hM0 hM1 hsl hts d1 d2
      refine (read_ _ K cap3 Y w3 HC3.out.bs (by have := HKN.out; have := HNN.out; omega)).mono ?_
      rw [HRD.out]
      rintro e w4 ⟨rfl, hb4⟩
      have hb5 : Below w3.heap.size w3 (w4.alloc (.cells g.cells TH)) := hb4.alloc hb4.size _
      have HY5 : Hid (BoxH g w4.heap.size (w4.alloc (.cells g.cells TH))) := Lib.hid (BoxH.new g w4)
      have HX5 := Lib.hid (HX3.out.below hb5)
      have HB5 := Lib.hid (HB3.out.trans (hb5.mono HB3.out.size))
      clear hb4 hb5 HC3 HX3 HB3 HX2 HB2
      go_wp2_with (fail)
      obtain ⟨G, hG⟩ : ∃ y, y = w4.heap.size := ⟨_, rfl⟩
      rw [← hG] at HY5 ⊢
      clear hG
      generalize w4.alloc (.cells #[Go.Proofs.YtodgcmjdnfbegaaDoor.u8 g.d.a, Go.Proofs.YtodgcmjdnfbegaaDoor.u8 g.d.b, Go.Proofs.YtodgcmjdnfbegaaDoor.u8 g.d.c, Go.Proofs.YtodgcmjdnfbegaaDoor.u8 g.d.d, Go.Proofs.YtodgcmjdnfbegaaDoor.u8 g.d.e, .string g.a0, .string g.a1, .string g.a2, .string g.a3, .string g.a4, .string g.a5, .string g.a6, .string g.a7, .string g.a8, .string g.a9] TH) = w5 at *
      refine (alive09 w5 (HV.out w5 HB5.out)).mono ?_
      rintro e w6 ⟨rfl, hb6⟩
      have HX6 := Lib.hid (HX5.out.below hb6)
      have HY6 := Lib.hid (HY5.out.below hb6)
      have HB6 := Lib.hid (HB5.out.trans (hb6.mono HB5.out.size))
      clear hb6 HX5 HY5 HB5
      obtain ⟨c0, c1, c2, c3, c4, c5, c6, c7, c8, c9, c10, c11, c12, c13, c14⟩ := HX6.out.cells
      obtain ⟨q0, q1, q2, q3, q4, q5, q6, q7, q8, q9, q10, q11, q12, q13, q14⟩ := HY6.out.cells
      rw [HGD.out] at q0 q1 q2 q3 q4
      have HROW : Hid ((w6.alloc (.cells (pairs g h) 46)).heap[w6.heap.size]? = some (.cells (pairs g h) 46)) := Lib.hid (heap_alloc_new w6 _)
      have HB7 : Hid (Below w.heap.size w (w6.alloc (.cells (pairs g h) 46))) := Lib.hid (HB6.out.alloc HB6.out.size _)
      go_wp2_with (fail)
      clear c0 c1 c2 c3 c4 c5 c6 c7 c8 c9 c10 c11 c12 c13 c14 q0 q1 q2 q3 q4 q5 q6 q7 q8 q9 q10 q11 q12 q13 q14 HX6 HY6 HB6 HRD HGD
      obtain ⟨G2, hG2⟩ : ∃ y, y = w6.heap.size := ⟨_, rfl⟩
      rw [← hG2] at HROW ⊢
      clear hG2
      generalize w6.alloc (.cells (pairs g h) 46) = w7 at *
      go_loopw [111, 10, 12] (fun i sh _ wr => ∃ (k : Nat) (b : Bool), k ≤ 10 ∧ i = .int .i64 k ∧ sh = .bool b ∧ (b = true → i0 < k) ∧ Below w7.heap.size w7 wr) (fun i _ _ _ => 10 - (RowKit.intOf i).toNat)
      case atStart => exact ⟨0, false, by omega, rfl, rfl, (fun h => by cases h), Below.refl _ _⟩
      case round =>
        obtain ⟨wo, rfl⟩ : ∃ wo : World, wo = wr := ⟨_, rfl⟩
        obtain ⟨k, sh, hk, rfl, rfl, hsh, hbo⟩ := hrel
        have HBO := Lib.hid hbo
        have HSH := Lib.hid hsh
        have HRO := Lib.hid ((hbo.block G2 (Array.getElem?_eq_some_iff.1 HROW.out).1).trans HROW.out)
        clear hbo hsh
        by_cases hlt : k < 10
        · as_aux_lemma =>
          obtain ⟨r0, r1, r2⟩ := HREL.out k hlt
          obtain ⟨t1, t2⟩ := pairs_at g h k hlt
          have p0 : wo.cell? ⟨G2, 2 * k, none⟩ = some (.string (tx g k)) := by rw [cell_of_row wo G2 (2 * k) _ _ _ HRO.out]; exact t1
          have p1 : wo.cell? ⟨G2, 2 * k + 1, none⟩ = some (.string (tx h k)) := by rw [cell_of_row wo G2 (2 * k + 1) _ _ _ HRO.out]; exact t2
          have m0 : k * 2 = 2 * k := by omega
          have e1 : (k : Int) < 10 := by omega
          have e2 : (0 : Int) ≤ (k : Int) := by omega
          have HLT := Lib.hid hlt
          have HW1 : Hid (wrap64 ((k : Int) + 1) = (k : Int) + 1) := Lib.hid (IntWalk.wrap64_in _ (by omega))
          generalize tx g k = a at *
          generalize tx h k = b at *
          have HP : Hid (a.data.toList <+: b.data.toList) := Lib.hid (by
            rcases Nat.lt_trichotomy k i0 with h1 | h1 | h1
            · rw [r0 h1]; exact List.prefix_refl _
            · exact r1 h1
            · rw [r2 h1]; exact List.nil_prefix)
          have HAB : Hid (a.size ≤ b.size) := Lib.hid (by have := HP.out.length_le; simpa using this)
          have HSLC : Hid (∀ W, (Instr.sliceAt 9 (.string b) none (some (.int .i64 (a.size : Int))) none).run Tryd.prog W = .ok (.string a) W) := Lib.hid (fun W => by
            have h1 := slice_take b.data.toList a.size (by simpa using HAB.out) W
            have h2 : b.data.toList.take a.size = a.data.toList := by
              have h3 := List.prefix_iff_eq_take.1 HP.out
              have h4 : a.data.toList.length = a.size := by simp
              rw [h4] at h3
              exact h3.symm
            rw [h2] at h1
            exact h1)
          have HR0 := Lib.hid r0
          have HR2 := Lib.hid r2
          clear r0 r1 r2 hlt hk t1 t2
          go_wp2_with (fail)
          clear p0 p1 m0 e1 e2
          have HB8 : Hid (Below w7.heap.size w7 (wo.alloc (.cells #[.string a, .string b] 46))) := Lib.hid (HBO.out.alloc HBO.out.size _)
          have z0 : (wo.alloc (.cells #[.string a, .string b] 46)).cell? ⟨wo.heap.size, 0, none⟩ = some (.string a) := cell_of_row _ _ 0 _ _ _ (heap_alloc_new wo _)
          have z1 : (wo.alloc (.cells #[.string a, .string b] 46)).cell? ⟨wo.heap.size, 1, none⟩ = some (.string b) := cell_of_row _ _ 1 _ _ _ (heap_alloc_new wo _)
          generalize wo.alloc (.cells #[.string a, .string b] 46) = w8 at *
          have k1 : decide (b.size < a.size) = false := by have := HAB.out; simp; omega
          have k2 : (a.toList != a.toList) = false := by simp
          have sl := HSLC.out
          cases sh
          · by_cases hab : a = b
            · as_aux_lemma =>
              have k3 : (a.toList != b.toList) = false := by rw [hab]; simp
              have k5 : (a.toList == b.toList) = true := by rw [hab]; simp
              clear hab
              go_quiet (fail)
              have HBN := Lib.hid (drawN_below HB8.out nq)
              have w1' := HW1.out
              go_wp2_with (fail)
              exact ⟨⟨k + 1, false, HLT.out, by go_num, rfl, (fun h => by cases h), HBN.out⟩, by rw [w1']; clear w1'; have := HLT.out; simp [RowKit.intOf]; omega⟩
            · as_aux_lemma =>
              have hik : ¬ k < i0 := fun h1 => hab (HR0.out h1)
              have HIK : Hid (i0 < k + 1) := Lib.hid (by omega)
              have k3 : (a.toList != b.toList) = true := by
                rw [bne_iff_ne]; intro e
                rw [Go.ByteArray.toList_eq, Go.ByteArray.toList_eq] at e
                exact hab (ByteArray.ext (Array.toList_inj.1 e))
              have k5 : (a.toList == b.toList) = false := by simpa [bne] using k3
              clear hab hik
              go_quiet (fail)
              have HBN := Lib.hid (drawN_below HB8.out nq)
              have w1' := HW1.out
              go_wp2_with (fail)
              exact ⟨⟨k + 1, true, HLT.out, by go_num, rfl, (fun _ => HIK.out), HBN.out⟩, by rw [w1']; clear w1'; have := HLT.out; simp [RowKit.intOf]; omega⟩
          · as_aux_lemma =>
            have hik := HSH.out rfl
            have HIK : Hid (i0 < k + 1) := Lib.hid (by omega)
            have ha := HR2.out hik
            have k3 : a.toList.isEmpty = true := by rw [ha]; decide +kernel
            have k4 : (a.toList != []) = false := by rw [ha]; decide +kernel
            clear hik ha
            go_quiet (fail)
            have HBN := Lib.hid (drawN_below HB8.out nq)
            have w1' := HW1.out
            go_wp2_with (fail)
            exact ⟨⟨k + 1, true, HLT.out, by go_num, rfl, (fun _ => HIK.out), HBN.out⟩, by rw [w1']; clear w1'; have := HLT.out; simp [RowKit.intOf]; omega⟩
        · as_aux_lemma =>
          obtain rfl : k = 10 := by omega
          have e1 : decide (((10 : Nat) : Int) < 10) = false := by simp
          clear hlt hk
          go_wp2_with (fail)
          go_ret
          exact ⟨rfl, HB7.out.trans (HBO.out.mono HB7.out.size)⟩
end Go.Proofs.YtodgcmjdnfbegaaDoor
