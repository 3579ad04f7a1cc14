/- Layer 9's answer: a head written, and checked, walked. -/
import Derived.Test.YtbgjhpkjdcbclaaDoorMsh6
import Derived.Test.YtbgjhpkjdcbclaaDoorSegMA
import Derived.Test.YtbgjhpkjdcbclaaDoorRef09
import Derived.Test.YtbgjhpkjdcbclaaDoorHdRow
import Derived.Test.YtbgjhpkjdcbclaaDoorTxt
namespace Go.Proofs.YtbgjhpkjdcbclaaDoor
open Go.RowKit

theorem OwnS.cut {w : World} {B g c k : Nat} {T : List (List UInt8)} {n : Nat} (h : OwnS w B (.slice (some ⟨g, 0, none⟩) n c) T) (hk : k ≤ T.length) : OwnS w B (.slice (some ⟨g, 0, none⟩) k c) (T.take k) := by
  have hl : (T.take k).length = k := by rw [List.length_take]; omega
  obtain ⟨_, ⟨h0, _⟩ | ⟨g', cap, cur, e, h1, h2, h3, h4, h5, h6⟩⟩ := h
  · cases h0
  · injection e with e1 e2 e3
    injection e1 with e1
    injection e1 with e1
    subst e1 e2 e3
    refine ⟨by simp, .inr ⟨g, c, cur, by rw [hl], h1, h2, by omega, h4, h5, ?_⟩⟩
    rw [hl, List.map_take, ← h6, List.take_take]
    congr 1
    omega
theorem lensL2 (a b : List UInt8) (T : List (List UInt8)) : Lib.lens ([a, b] ++ T) = a.length + (b.length + Lib.lens T) := by simp [Lib.lens]

set_option maxHeartbeats 2000000 in
set_option maxRecDepth 100000 in
theorem refTexts (h : Hd) (w : World) : Calls Tryd.prog 44 #[h.v] w fun e w' => ∃ g, e = .returned (.slice (some ⟨g, 0, none⟩) 10 10) ∧ OwnS w' w.heap.size (.slice (some ⟨g, 0, none⟩) 10 10) (h.l.map (·.data.toList)) ∧ Below w.heap.size w w' := by
  have HB0 := Lib.hid (boxHd_below h w)
  have HRW : Hid (((w.alloc (.cells #[u8 h.d.a, u8 h.d.b, u8 h.d.c, u8 h.d.d, u8 h.d.e, .string h.a0, .string h.a1, .string h.a2, .string h.a3, .string h.a4, .string h.a5, .string h.a6, .string h.a7, .string h.a8, .string h.a9] TH)).alloc (.cells #[.string h.a0, .string h.a1, .string h.a2, .string h.a3, .string h.a4, .string h.a5, .string h.a6, .string h.a7, .string h.a8, .string h.a9] 9)).heap[w.heap.size + 1]? = some (.cells #[.string h.a0, .string h.a1, .string h.a2, .string h.a3, .string h.a4, .string h.a5, .string h.a6, .string h.a7, .string h.a8, .string h.a9] 9)) := Lib.hid (by
    have t := heap_alloc_new (w.alloc (.cells #[u8 h.d.a, u8 h.d.b, u8 h.d.c, u8 h.d.d, u8 h.d.e, .string h.a0, .string h.a1, .string h.a2, .string h.a3, .string h.a4, .string h.a5, .string h.a6, .string h.a7, .string h.a8, .string h.a9] TH)) (.cells #[.string h.a0, .string h.a1, .string h.a2, .string h.a3, .string h.a4, .string h.a5, .string h.a6, .string h.a7, .string h.a8, .string h.a9] 9)
    rw [World.size_alloc] at t
    exact t)
  go_enter Tryd.func44, Tryd.ntmps44
  go_wp2_with (fail)
  go_ret
  exact ⟨w.heap.size + 1, rfl, ⟨rfl, .inr ⟨w.heap.size + 1, 10, #[.string h.a0, .string h.a1, .string h.a2, .string h.a3, .string h.a4, .string h.a5, .string h.a6, .string h.a7, .string h.a8, .string h.a9], rfl, Nat.le_succ _, HRW.out, Nat.le_refl _, by simp [maxLen], rfl, rfl⟩⟩, HB0.out.alloc HB0.out.size _⟩

set_option maxHeartbeats 16000000 in
set_option maxRecDepth 100000 in
theorem refWrite09 (h : Hd) (w : World) (hb : Lib.lens (h.l.map (·.data.toList)) ≤ 1000000) :
    Calls Tryd.prog 24 #[h.v] w fun e w' => e = .returned (.tuple #[str (writeH h).1, .int .i64 (writeH h).2]) ∧ Below w.heap.size w w' := by
  have HX0 := Lib.hid (BoxH.new h w)
  have HB0 := Lib.hid (boxHd_below h w)
  have HLB := Lib.hid hb
  have HW : Hid (writeH h = if h.d.good = true then if h.l.all (standD h.d.a) = true then (makeD mshB h.d.a ((rowH h).take (filledD h.l 10)), 0) else ([], 10) else ([], 11)) := Lib.hid rfl
  clear hb
  go_enter Tryd.func24, Tryd.ntmps24
  obtain ⟨c0, c1, c2, c3, c4, hrest⟩ := HX0.out.cells
  clear hrest
  have HX1 : Hid (BoxH h w.heap.size ((w.alloc (.cells #[u8 h.d.a, u8 h.d.b, u8 h.d.c, u8 h.d.d, u8 h.d.e, .string h.a0, .string h.a1, .string h.a2, .string h.a3, .string h.a4, .string h.a5, .string h.a6, .string h.a7, .string h.a8, .string h.a9] TH)).alloc (.cells #[.int .u8 (h.d.a.toNat : Int), .int .u8 (h.d.b.toNat : Int), .int .u8 (h.d.c.toNat : Int), .int .u8 (h.d.d.toNat : Int), .int .u8 (h.d.e.toNat : Int)] 23))) := Lib.hid (HX0.out.below ((Below.refl _ _).alloc (Nat.le_refl _) _))
  have HD1 : Hid (BoxS h.d (w.heap.size + 1) ((w.alloc (.cells #[u8 h.d.a, u8 h.d.b, u8 h.d.c, u8 h.d.d, u8 h.d.e, .string h.a0, .string h.a1, .string h.a2, .string h.a3, .string h.a4, .string h.a5, .string h.a6, .string h.a7, .string h.a8, .string h.a9] TH)).alloc (.cells #[.int .u8 (h.d.a.toNat : Int), .int .u8 (h.d.b.toNat : Int), .int .u8 (h.d.c.toNat : Int), .int .u8 (h.d.d.toNat : Int), .int .u8 (h.d.e.toNat : Int)] 23))) := Lib.hid (by
    have t := heap_alloc_new (w.alloc (.cells #[u8 h.d.a, u8 h.d.b, u8 h.d.c, u8 h.d.d, u8 h.d.e, .string h.a0, .string h.a1, .string h.a2, .string h.a3, .string h.a4, .string h.a5, .string h.a6, .string h.a7, .string h.a8, .string h.a9] TH)) (.cells #[.int .u8 (h.d.a.toNat : Int), .int .u8 (h.d.b.toNat : Int), .int .u8 (h.d.c.toNat : Int), .int .u8 (h.d.d.toNat : Int), .int .u8 (h.d.e.toNat : Int)] 23)
    rw [World.size_alloc] at t
    exact t)
  have HB1 : Hid (Below w.heap.size w ((w.alloc (.cells #[u8 h.d.a, u8 h.d.b, u8 h.d.c, u8 h.d.d, u8 h.d.e, .string h.a0, .string h.a1, .string h.a2, .string h.a3, .string h.a4, .string h.a5, .string h.a6, .string h.a7, .string h.a8, .string h.a9] TH)).alloc (.cells #[.int .u8 (h.d.a.toNat : Int), .int .u8 (h.d.b.toNat : Int), .int .u8 (h.d.c.toNat : Int), .int .u8 (h.d.d.toNat : Int), .int .u8 (h.d.e.toNat : Int)] 23))) := Lib.hid (HB0.out.alloc HB0.out.size _)
  go_wp2_with (fail)
  generalize (w.alloc (.cells #[u8 h.d.a, u8 h.d.b, u8 h.d.c, u8 h.d.d, u8 h.d.e, .string h.a0, .string h.a1, .string h.a2, .string h.a3, .string h.a4, .string h.a5, .string h.a6, .string h.a7, .string h.a8, .string h.a9] TH)).alloc (.cells #[.int .u8 (h.d.a.toNat : Int), .int .u8 (h.d.b.toNat : Int), .int .u8 (h.d.c.toNat : Int), .int .u8 (h.d.d.toNat : Int), .int .u8 (h.d.e.toNat : Int)] 23) = w1 at *
  generalize w.heap.size + 1 = D at *
  clear c0 c1 c2 c3 c4 HX0 HB0
  refine (refRight h.d w1).mono ?_
  rintro e w2 ⟨rfl, hb2⟩
  have HX2 := Lib.hid (HX1.out.below hb2)
  have HD2 := Lib.hid (HD1.out.below hb2)
  have HB2 := Lib.hid (HB1.out.trans (hb2.mono HB1.out.size))
  clear hb2 HX1 HD1 HB1
  cases hg : h.d.good
  · have HE : Hid (writeH h = ([], 11)) := Lib.hid (by rw [HW.out, hg]; rfl)
    go_wp2_with (fail)
    go_ret2
    exact ⟨by rw [HE.out]; rfl, HB2.out⟩
  · have HE : Hid (writeH h = if h.l.all (standD h.d.a) = true then (makeD mshB h.d.a ((rowH h).take (filledD h.l 10)), 0) else ([], 10)) := Lib.hid (by rw [HW.out, hg]; rfl)
    clear hg HW
    go_wp2_with (with_reducible refine wpList_loadHG w.heap.size h (by kernel_rfl) (by kernel_rfl) HX2.out ?_)
    refine (refTexts h w2).mono ?_
    rintro e w3 ⟨g, rfl, hO, hb3⟩
    have HO3 := Lib.hid hO
    have HD3 := Lib.hid (HD2.out.below hb3)
    have HB3 := Lib.hid (HB2.out.trans (hb3.mono HB2.out.size))
    have HX2Z := Lib.hid hb3.size
    clear hO hb3 HX2 HD2 HB2
    go_wp2_with (fail)
    go_loopw [6, 7] (fun i _ wr => ∃ p : Nat, p ≤ 10 ∧ i = .int .i64 p ∧ (h.l.take p).all (standD h.d.a) = true ∧ Below w3.heap.size w3 wr) (fun i _ _ => 10 - (intOf i).toNat)
    case atStart => exact ⟨0, by omega, rfl, rfl, Below.refl _ _⟩
    case round =>
      obtain ⟨wo, rfl⟩ : ∃ wo : World, wo = wr := ⟨_, rfl⟩
      obtain ⟨p, hp, rfl, hst, hbo⟩ := hrel
      have HST := Lib.hid hst
      have HBO := Lib.hid hbo
      clear hst hbo
      by_cases hlt : p < 10
      · have HP := Lib.hid hlt
        have HYM : Hid (h.l.getD p ⟨#[]⟩ ∈ h.l) := Lib.hid (h.text_mem p hlt)
        have HTA : Hid (standD h.d.a (h.l.getD p ⟨#[]⟩) = true → (h.l.take (p + 1)).all (standD h.d.a) = true) := Lib.hid (h.take_all _ p hlt HST.out)
        have HCE : Hid (∀ W, Below w3.heap.size w3 W → W.cell? ⟨g, p, none⟩ = some (.string (h.l.getD p ⟨#[]⟩))) := Lib.hid (fun W hW => by
          have t := OwnS.cell (T := h.l.map (·.data.toList)) (HO3.out.below hW) (j := p) (x := (h.l.getD p ⟨#[]⟩).data.toList) (by rw [List.getElem?_map, List.getD_eq_getElem?_getD, List.getElem?_eq_getElem hlt]; rfl)
          exact t)
        have cy := HCE.out wo HBO.out
        obtain ⟨y, hy⟩ : ∃ y, y = h.l.getD p ⟨#[]⟩ := ⟨_, rfl⟩
        rw [← hy] at cy HYM HTA HCE
        have hYS : y.size ≤ 1000000 := by
          have h1 := HLB.out
          have h2 := mem_lens (List.mem_map.2 ⟨y, HYM.out, rfl⟩ : y.data.toList ∈ h.l.map (·.data.toList))
          simp at h2
          omega
        have HYS := Lib.hid hYS
        have d5 : decide ((p : Int) < 10) = true := by simp; omega
        have d6 : (p : Int) < 10 := by omega
        have w2' : wrap64 ((p : Int) + 1) = (p : Int) + 1 := IntWalk.wrap64_in _ (by omega)
        have dy : decide ((0 : Int) < (y.size : Int)) = decide (0 < y.size) := by simp
        clear hy hp hlt hYS
        go_wp2_with (fail)
        clear cy d5 dy
        go_loopw [7] (fun k wr => ∃ q : Nat, q ≤ y.size ∧ k = .int .i64 q ∧ (∀ c ∈ y.data.toList.take q, c ≠ h.d.a ∧ c ≠ 13) ∧ Below w3.heap.size w3 wr) (fun k _ => y.size - (intOf k).toNat)
        case atStart => exact ⟨0, by omega, rfl, by simp, HBO.out⟩
        case round =>
          obtain ⟨wi, rfl⟩ : ∃ wi : World, wi = wr := ⟨_, rfl⟩
          obtain ⟨q, hq, rfl, hall, hbi⟩ := hrel
          have HALLQ := Lib.hid hall
          have HBI := Lib.hid hbi
          have cy := HCE.out wi hbi
          obtain ⟨c0, c1, c2, c3, c4⟩ := (HD3.out.below hbi).cells
          clear hall hbi c1 c2 c3 c4
          by_cases hlq : q < y.size
          · have ix := fun W => strIdx y q hlq q rfl W
            have HQ := Lib.hid hlq
            have d7 : decide ((q : Int) < (y.size : Int)) = true := by simp; omega
            have w1' : wrap64 ((q : Int) + 1) = (q : Int) + 1 := IntWalk.wrap64_in _ (by have := HYS.out; omega)
            have htk : y.data.toList.take (q + 1) = y.data.toList.take q ++ [y[q]] := by rw [List.take_succ_eq_append_getElem (by simpa using hlq)]; rfl
            have hmem : y[q] ∈ y.data.toList := List.getElem_mem (l := y.data.toList) (by simpa using hlq)
            obtain ⟨z, hz⟩ : ∃ z, z = y[q] := ⟨_, rfl⟩
            rw [← hz] at htk hmem
            have ix2 : ∀ W, (Instr.index 9 (.string y) (.int .i64 (q : Int))).run Tryd.prog W = .ok (u8 z) W := fun W => by rw [ix W, hz]; rfl
            have HTK := Lib.hid htk
            have HMEM := Lib.hid hmem
            clear htk hmem hz ix
            by_cases hza : z = h.d.a
            · as_aux_lemma =>
              have k1 : (((z.toNat : Nat) : Int) == ((h.d.a.toNat : Nat) : Int)) = true := by rw [hza]; simp
              have HEF : Hid (writeH h = ([], 10)) := Lib.hid (by
                rw [HE.out, if_neg]
                intro e
                have t := List.all_eq_true.1 e y HYM.out
                simp only [standD, Bool.and_eq_true, Bool.not_eq_true'] at t
                have := t.1
                rw [List.contains_iff_mem.2 (hza ▸ HMEM.out)] at this
                exact absurd this (by decide))
              clear hza
              go_wp2_with (fail)
              go_quiet (fail)
              have HBN := Lib.hid (HB3.out.trans ((drawN_below HBI.out nq).mono HB3.out.size))
              go_wp2_with (fail)
              go_ret2
              exact ⟨by rw [HEF.out]; rfl, HBN.out⟩
            · have k1 : (((z.toNat : Nat) : Int) == ((h.d.a.toNat : Nat) : Int)) = false := by
                rw [beq_eq_false_iff_ne]; intro e; exact hza (UInt8.toNat_inj.1 (by omega))
              by_cases hz13 : z = 13
              · have k2 : (((z.toNat : Nat) : Int) == 13) = true := by rw [hz13]; rfl
                have HEF : Hid (writeH h = ([], 10)) := Lib.hid (by
                  rw [HE.out, if_neg]
                  intro e
                  have t := List.all_eq_true.1 e y HYM.out
                  simp only [standD, Bool.and_eq_true, Bool.not_eq_true'] at t
                  have := t.2
                  rw [List.contains_iff_mem.2 (hz13 ▸ HMEM.out)] at this
                  exact absurd this (by decide))
                clear hza hz13
                go_wp2_with (fail)
                go_quiet (fail)
                have HBN := Lib.hid (HB3.out.trans ((drawN_below HBI.out nq).mono HB3.out.size))
                go_wp2_with (fail)
                go_ret2
                exact ⟨by rw [HEF.out]; rfl, HBN.out⟩
              · have k2 : (((z.toNat : Nat) : Int) == 13) = false := by
                  rw [beq_eq_false_iff_ne]; intro e; exact hz13 (UInt8.toNat_inj.1 (by show z.toNat = 13; omega))
                have HNX : Hid (∀ c ∈ y.data.toList.take (q + 1), c ≠ h.d.a ∧ c ≠ 13) := Lib.hid (fun c hc => by
                  rw [HTK.out] at hc
                  rcases List.mem_append.1 hc with hc | hc
                  · exact HALLQ.out c hc
                  · rw [List.mem_singleton.1 hc]; exact ⟨hza, hz13⟩)
                clear hza hz13
                go_wp2_with (fail)
                go_quiet (fail)
                have HBN := Lib.hid (drawN_below HBI.out nq)
                go_wp2_with (fail)
                try rw [w1']
                exact ⟨⟨q + 1, HQ.out, by go_num, HNX.out, HBN.out⟩, by have := HQ.out; simp [intOf]; omega⟩
          · obtain rfl : q = y.size := by omega
            have d7 : decide ((y.size : Int) < (y.size : Int)) = false := by simp
            have HSY : Hid (standD h.d.a y = true) := Lib.hid (by
              have t := HALLQ.out
              rw [List.take_of_length_le (by simp)] at t
              simp only [standD, Bool.and_eq_true, Bool.not_eq_true']
              constructor
              · rw [← Bool.not_eq_true, List.contains_iff_mem]; exact fun hm => (t _ hm).1 rfl
              · rw [← Bool.not_eq_true, List.contains_iff_mem]; exact fun hm => (t _ hm).2 rfl)
            clear hlq hq
            go_wp2_with (fail)
            try rw [w2']
            exact ⟨⟨p + 1, HP.out, by go_num, HTA.out HSY.out, HBI.out⟩, by have := HP.out; simp [intOf]; omega⟩
      · obtain rfl : p = 10 := by omega
        have HALL : Hid (h.l.all (standD h.d.a) = true) := HST
        have d5 : decide ((10 : Int) < 10) = false := by decide
        clear hlt hp
        rw [show ((10 : Nat) : Int) = 10 from rfl]
        go_wp2_with (fail)
        clear d5
        go_loopw [5] (fun v wr => ∃ m : Nat, m ≤ 10 ∧ v = .slice (some ⟨g, 0, none⟩) m 10 ∧ filledD h.l 10 = filledD h.l m ∧ Below w3.heap.size w3 wr) (fun v _ => sliceLen v)
        case atStart => exact ⟨10, by omega, rfl, rfl, HBO.out⟩
        case round =>
          clear HBO
          obtain ⟨wq, rfl⟩ : ∃ wq : World, wq = wr := ⟨_, rfl⟩
          obtain ⟨m, hm, rfl, hf, hbq⟩ := hrel
          have HBQ := Lib.hid hbq
          clear hbq
          match m, hm, hf with
          | 0, hm, hf =>
            as_aux_lemma =>
            have HF : Hid (filledD h.l 10 = 0 + 2) := Lib.hid (by rw [hf]; rfl)
            have d8 : decide ((0 : Int) < ((0 : Nat) : Int)) = false := by simp
            clear hf
            have HCUT : Hid (OwnS wq w2.heap.size (.slice (some ⟨g, 0, none⟩) 0 10) ((h.l.map (·.data.toList)).take 0)) := Lib.hid ((HO3.out.below HBQ.out).cut (Nat.zero_le _))
            have HDQ := Lib.hid (HD3.out.below HBQ.out)
            have HEW : Hid (writeH h = (makeD mshB h.d.a ([h.d.a] :: [h.d.b, h.d.c, h.d.d, h.d.e] :: (h.l.map (·.data.toList)).take 0), 0)) := Lib.hid (by rw [HE.out, if_pos HALL.out, HF.out]; rfl)
            have HLN : Hid (Lib.lens ((h.l.map (·.data.toList)).take 0) ≤ 1000000 ∧ ((h.l.map (·.data.toList)).take 0).length ≤ 10) := Lib.hid ⟨Nat.le_trans (Lib.lens_take_le _ _) HLB.out, by rw [List.length_take]; omega⟩
            have HDL : Hid (D < wq.heap.size) := Lib.hid (Array.getElem?_eq_some_iff.1 HDQ.out).1
            obtain ⟨c0, c1, c2, c3, c4⟩ := HDQ.out.cells
            have HQ1 : Hid (∀ o1 : Obj, BoxS h.d D (wq.alloc o1)) := Lib.hid (fun o1 => HDQ.out.below ((Below.refl _ _).alloc (Nat.le_refl _) o1))
            have HQC1 : Hid ((wq.alloc (.cells #[u8 h.d.a] 5)).cell? ⟨D, 1, none⟩ = some (u8 h.d.b)) := Lib.hid (cell_of_row _ D 1 _ _ _ (HQ1.out _))
            have HQC2 : Hid ((wq.alloc (.cells #[u8 h.d.a] 5)).cell? ⟨D, 2, none⟩ = some (u8 h.d.c)) := Lib.hid (cell_of_row _ D 2 _ _ _ (HQ1.out _))
            have HQC3 : Hid ((wq.alloc (.cells #[u8 h.d.a] 5)).cell? ⟨D, 3, none⟩ = some (u8 h.d.d)) := Lib.hid (cell_of_row _ D 3 _ _ _ (HQ1.out _))
            have HQC4 : Hid ((wq.alloc (.cells #[u8 h.d.a] 5)).cell? ⟨D, 4, none⟩ = some (u8 h.d.e)) := Lib.hid (cell_of_row _ D 4 _ _ _ (HQ1.out _))
            have HS1 : Hid (Bs (wq.alloc (.cells #[u8 h.d.a] 5)) (some ⟨wq.heap.size, 0, none⟩) 1 1 [h.d.a]) := Lib.hid (Bs.lit (n := 1) wq [h.d.a] 5 #[u8 h.d.a] wq.heap.size rfl rfl rfl (by simp [maxLen]))
            have HS2 : Hid (Bs ((wq.alloc (.cells #[u8 h.d.a] 5)).alloc (.cells #[u8 h.d.b, u8 h.d.c, u8 h.d.d, u8 h.d.e] 5)) (some ⟨wq.heap.size + 1, 0, none⟩) 4 4 [h.d.b, h.d.c, h.d.d, h.d.e]) := Lib.hid (Bs.lit (n := 4) (wq.alloc (.cells #[u8 h.d.a] 5)) [h.d.b, h.d.c, h.d.d, h.d.e] 5 #[u8 h.d.b, u8 h.d.c, u8 h.d.d, u8 h.d.e] (wq.heap.size + 1) (World.size_alloc _ _).symm rfl rfl (by simp [maxLen]))
            have HB4 : Hid (Below w.heap.size w wq) := Lib.hid (HB3.out.trans (HBQ.out.mono HB3.out.size))
            clear HO3 HBQ HD3 HE HALL HF hm HQ1 HX2Z
            have tok1 : Hid True := Lib.hid trivial
            go_wp2_with (first | (with_reducible refine wpList_loadU8 (dst := some 71) D 1 h.d.b (by kernel_rfl) HQC1 ?_) | (with_reducible refine wpList_loadU8 (dst := some 73) D 2 h.d.c (by kernel_rfl) HQC2 ?_) | (with_reducible refine wpList_loadU8 (dst := some 75) D 3 h.d.d (by kernel_rfl) HQC3 ?_) | (with_reducible refine wpList_loadU8 (dst := some 77) D 4 h.d.e (by kernel_rfl) HQC4 ?_) | (with_reducible refine wpList_strT (dst := some 69) (some ⟨wq.heap.size, 0, none⟩) 1 1 [h.d.a] (by kernel_rfl) HS1.out ?_; (try clear e1 e2 e3 e4 e5 d8)) | (with_reducible refine wpList_bytes4 (dst := some 78) (wq.heap.size + 1) h.d.b h.d.c h.d.d h.d.e (by kernel_rfl) (by kernel_rfl) (by kernel_rfl) (by kernel_rfl) (World.size_alloc _ _) ?_) | (with_reducible refine wpList_strT (dst := some 79) (some ⟨wq.heap.size + 1, 0, none⟩) 4 4 [h.d.b, h.d.c, h.d.d, h.d.e] (by kernel_rfl) HS2.out ?_) | (at_builtin; have _t := tok1; go_loud ((refine wpList_strs rfl (.tmp 80) (.tmp 81) rfl wq.heap.size _ [[h.d.a], [h.d.b, h.d.c, h.d.d, h.d.e]] rfl (by have t := OwnS.twoH ((wq.alloc (.cells #[u8 h.d.a] 5)).alloc (.cells #[u8 h.d.b, u8 h.d.c, u8 h.d.d, u8 h.d.e] 5)) [h.d.a] [h.d.b, h.d.c, h.d.d, h.d.e] wq.heap.size (by simp only [World.size_alloc]; omega); simp only [World.size_alloc] at t; exact t) w2.heap.size _ ((h.l.map (·.data.toList)).take 0) rfl (HCUT.out.below ((((Below.refl _ wq).alloc (Nat.le_refl _) _).alloc (by simp) _).alloc (by simp; omega) _)) (by have := HLN.out.2; simp only [List.length_cons, List.length_nil]; omega) (by simp only [World.size_alloc]; omega) ?_; intro v5 w5 hown hbel; obtain ⟨TT, hTT⟩ : ∃ TT, TT = ([[h.d.a], [h.d.b, h.d.c, h.d.d, h.d.e]] : List (List UInt8)) ++ (h.l.map (·.data.toList)).take 0 := ⟨_, rfl⟩; rw [← hTT] at hown; have HTT := Lib.hid hTT; clear hTT; have hb5 : Below wq.heap.size wq w5 := ((((Below.refl _ wq).alloc (Nat.le_refl _) _).alloc (by simp) _).alloc (by simp; omega) _).trans hbel; have HD5 := Lib.hid (HDQ.out.below hb5); have HB5 : Hid (Below w.heap.size w w5) := Lib.hid (HB4.out.trans (hb5.mono HB4.out.size)); obtain ⟨A5, c5, rfl, hS5, _⟩ := hown.ss; have HS5 := Lib.hid hS5; obtain ⟨d0, d1, d2, d3, d4⟩ := HD5.out.cells; clear tok1 hown hbel hb5 hS5 _t c0 c1 c2 c3 c4))))
            refine (refMake h.d mshB A5 TT.length c5 TT w5 HS5.out (by decide) (by rw [HTT.out, lensL2, List.length_append]; have := HLN.out; simp only [List.length_cons, List.length_nil]; omega)).mono ?_
            rintro e w6 ⟨rfl, hb6⟩
            have HB6 := Lib.hid (HB5.out.trans (hb6.mono HB5.out.size))
            clear hb6 d0 d1 d2 d3 d4
            go_wp2_with (fail)
            go_ret2
            exact ⟨by rw [HEW.out, HTT.out]; rfl, HB6.out⟩

          | p + 1, hm, hf =>
            as_aux_lemma =>
            obtain ⟨y, hy⟩ : ∃ y, y = h.l.getD p ⟨#[]⟩ := ⟨_, rfl⟩
            have cy : wq.cell? ⟨g, p, none⟩ = some (.string y) := by
              rw [hy]
              exact OwnS.cell (T := h.l.map (·.data.toList)) (HO3.out.below HBQ.out) (j := p) (x := (h.l.getD p ⟨#[]⟩).data.toList) (by rw [List.getElem?_map, List.getD_eq_getElem?_getD, List.getElem?_eq_getElem (show p < h.l.length by rw [Hd.l_len]; omega)]; rfl)
            have hfs := filledD_step h p
            rw [← hy] at hfs
            obtain ⟨m, hmp⟩ : ∃ m, m = p + 1 := ⟨_, rfl⟩
            rw [← hmp] at hm hf hfs ⊢
            have d8 : decide ((0 : Int) < (m : Int)) = true := by simp; omega
            have e1 : (m : Int) - 1 = (p : Int) := by omega
            have e2 : wrap64 (p : Int) = (p : Int) := IntWalk.wrap64_in _ (by omega)
            have e3 : (p : Int) < (m : Int) := by omega
            have e4 : (p : Int) ≤ 10 := by omega
            have e5 : (0 : Int) ≤ (p : Int) := by omega
            clear hy
            cases de : y.toList.isEmpty
            · have HF : Hid (filledD h.l 10 = m + 2) := Lib.hid (by rw [hf, hfs, de]; simp; omega)
              clear hf hfs hmp
              have HCUT : Hid (OwnS wq w2.heap.size (.slice (some ⟨g, 0, none⟩) m 10) ((h.l.map (·.data.toList)).take m)) := Lib.hid ((HO3.out.below HBQ.out).cut (by simp [Hd.l]; omega))
              have HDQ := Lib.hid (HD3.out.below HBQ.out)
              have HEW : Hid (writeH h = (makeD mshB h.d.a ([h.d.a] :: [h.d.b, h.d.c, h.d.d, h.d.e] :: (h.l.map (·.data.toList)).take m), 0)) := Lib.hid (by rw [HE.out, if_pos HALL.out, HF.out]; rfl)
              have HLN : Hid (Lib.lens ((h.l.map (·.data.toList)).take m) ≤ 1000000 ∧ ((h.l.map (·.data.toList)).take m).length ≤ 10) := Lib.hid ⟨Nat.le_trans (Lib.lens_take_le _ _) HLB.out, by rw [List.length_take]; omega⟩
              have HDL : Hid (D < wq.heap.size) := Lib.hid (Array.getElem?_eq_some_iff.1 HDQ.out).1
              obtain ⟨c0, c1, c2, c3, c4⟩ := HDQ.out.cells
              have HQ1 : Hid (∀ o1 : Obj, BoxS h.d D (wq.alloc o1)) := Lib.hid (fun o1 => HDQ.out.below ((Below.refl _ _).alloc (Nat.le_refl _) o1))
              have HQC1 : Hid ((wq.alloc (.cells #[u8 h.d.a] 5)).cell? ⟨D, 1, none⟩ = some (u8 h.d.b)) := Lib.hid (cell_of_row _ D 1 _ _ _ (HQ1.out _))
              have HQC2 : Hid ((wq.alloc (.cells #[u8 h.d.a] 5)).cell? ⟨D, 2, none⟩ = some (u8 h.d.c)) := Lib.hid (cell_of_row _ D 2 _ _ _ (HQ1.out _))
              have HQC3 : Hid ((wq.alloc (.cells #[u8 h.d.a] 5)).cell? ⟨D, 3, none⟩ = some (u8 h.d.d)) := Lib.hid (cell_of_row _ D 3 _ _ _ (HQ1.out _))
              have HQC4 : Hid ((wq.alloc (.cells #[u8 h.d.a] 5)).cell? ⟨D, 4, none⟩ = some (u8 h.d.e)) := Lib.hid (cell_of_row _ D 4 _ _ _ (HQ1.out _))
              have HS1 : Hid (Bs (wq.alloc (.cells #[u8 h.d.a] 5)) (some ⟨wq.heap.size, 0, none⟩) 1 1 [h.d.a]) := Lib.hid (Bs.lit (n := 1) wq [h.d.a] 5 #[u8 h.d.a] wq.heap.size rfl rfl rfl (by simp [maxLen]))
              have HS2 : Hid (Bs ((wq.alloc (.cells #[u8 h.d.a] 5)).alloc (.cells #[u8 h.d.b, u8 h.d.c, u8 h.d.d, u8 h.d.e] 5)) (some ⟨wq.heap.size + 1, 0, none⟩) 4 4 [h.d.b, h.d.c, h.d.d, h.d.e]) := Lib.hid (Bs.lit (n := 4) (wq.alloc (.cells #[u8 h.d.a] 5)) [h.d.b, h.d.c, h.d.d, h.d.e] 5 #[u8 h.d.b, u8 h.d.c, u8 h.d.d, u8 h.d.e] (wq.heap.size + 1) (World.size_alloc _ _).symm rfl rfl (by simp [maxLen]))
              have HB4 : Hid (Below w.heap.size w wq) := Lib.hid (HB3.out.trans (HBQ.out.mono HB3.out.size))
              clear HO3 HBQ HD3 HE HALL HF hm HQ1 HX2Z
              have tok1 : Hid True := Lib.hid trivial
              go_wp2_with (first | (with_reducible refine wpList_loadU8 (dst := some 71) D 1 h.d.b (by kernel_rfl) HQC1 ?_) | (with_reducible refine wpList_loadU8 (dst := some 73) D 2 h.d.c (by kernel_rfl) HQC2 ?_) | (with_reducible refine wpList_loadU8 (dst := some 75) D 3 h.d.d (by kernel_rfl) HQC3 ?_) | (with_reducible refine wpList_loadU8 (dst := some 77) D 4 h.d.e (by kernel_rfl) HQC4 ?_) | (with_reducible refine wpList_strT (dst := some 69) (some ⟨wq.heap.size, 0, none⟩) 1 1 [h.d.a] (by kernel_rfl) HS1.out ?_; (try clear e1 e2 e3 e4 e5 d8)) | (with_reducible refine wpList_bytes4 (dst := some 78) (wq.heap.size + 1) h.d.b h.d.c h.d.d h.d.e (by kernel_rfl) (by kernel_rfl) (by kernel_rfl) (by kernel_rfl) (World.size_alloc _ _) ?_) | (with_reducible refine wpList_strT (dst := some 79) (some ⟨wq.heap.size + 1, 0, none⟩) 4 4 [h.d.b, h.d.c, h.d.d, h.d.e] (by kernel_rfl) HS2.out ?_) | (at_builtin; have _t := tok1; go_loud ((refine wpList_strs rfl (.tmp 80) (.tmp 81) rfl wq.heap.size _ [[h.d.a], [h.d.b, h.d.c, h.d.d, h.d.e]] rfl (by have t := OwnS.twoH ((wq.alloc (.cells #[u8 h.d.a] 5)).alloc (.cells #[u8 h.d.b, u8 h.d.c, u8 h.d.d, u8 h.d.e] 5)) [h.d.a] [h.d.b, h.d.c, h.d.d, h.d.e] wq.heap.size (by simp only [World.size_alloc]; omega); simp only [World.size_alloc] at t; exact t) w2.heap.size _ ((h.l.map (·.data.toList)).take m) rfl (HCUT.out.below ((((Below.refl _ wq).alloc (Nat.le_refl _) _).alloc (by simp) _).alloc (by simp; omega) _)) (by have := HLN.out.2; simp only [List.length_cons, List.length_nil]; omega) (by simp only [World.size_alloc]; omega) ?_; intro v5 w5 hown hbel; obtain ⟨TT, hTT⟩ : ∃ TT, TT = ([[h.d.a], [h.d.b, h.d.c, h.d.d, h.d.e]] : List (List UInt8)) ++ (h.l.map (·.data.toList)).take m := ⟨_, rfl⟩; rw [← hTT] at hown; have HTT := Lib.hid hTT; clear hTT; have hb5 : Below wq.heap.size wq w5 := ((((Below.refl _ wq).alloc (Nat.le_refl _) _).alloc (by simp) _).alloc (by simp; omega) _).trans hbel; have HD5 := Lib.hid (HDQ.out.below hb5); have HB5 : Hid (Below w.heap.size w w5) := Lib.hid (HB4.out.trans (hb5.mono HB4.out.size)); obtain ⟨A5, c5, rfl, hS5, _⟩ := hown.ss; have HS5 := Lib.hid hS5; obtain ⟨d0, d1, d2, d3, d4⟩ := HD5.out.cells; clear tok1 hown hbel hb5 hS5 _t c0 c1 c2 c3 c4))))
              refine (refMake h.d mshB A5 TT.length c5 TT w5 HS5.out (by decide) (by rw [HTT.out, lensL2, List.length_append]; have := HLN.out; simp only [List.length_cons, List.length_nil]; omega)).mono ?_
              rintro e w6 ⟨rfl, hb6⟩
              have HB6 := Lib.hid (HB5.out.trans (hb6.mono HB5.out.size))
              clear hb6 d0 d1 d2 d3 d4
              go_wp2_with (fail)
              go_ret2
              exact ⟨by rw [HEW.out, HTT.out]; rfl, HB6.out⟩

            · have HFP : Hid (filledD h.l 10 = filledD h.l p) := Lib.hid (by rw [hf, hfs, de]; rfl)
              have HPM : Hid (p + 1 = m ∧ m ≤ 10) := Lib.hid ⟨hmp.symm, hm⟩
              clear hf hfs hmp hm
              go_wp2_with (fail)
              go_roundw
              case rel => exact ⟨p, by have := HPM.out; omega, rfl, HFP.out, HBQ.out⟩
              case measure => have := HPM.out; simp only [sliceLen]; omega
end Go.Proofs.YtbgjhpkjdcbclaaDoor
