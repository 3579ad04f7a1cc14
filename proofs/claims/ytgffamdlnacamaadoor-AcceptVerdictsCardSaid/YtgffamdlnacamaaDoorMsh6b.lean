/- Layer 9: a head written, walked. -/
import Derived.Test.YtgffamdlnacamaaDoorMsh6
namespace Go.Proofs.YtgffamdlnacamaaDoor
open Go.RowKit

set_option maxHeartbeats 16000000 in
set_option maxRecDepth 100000 in
theorem write_ (h : Hd) (w : World) (hb : Lib.lens (h.l.map (·.data.toList)) ≤ 1000000) :
    Calls Tryd.prog 18 #[h.v] w fun e w' => e = .returned (.tuple #[str (writeH h).1, .int .i64 (writeH h).2]) ∧ Below w.heap.size w w' := by
  have HX0 := Lib.hid (BoxH.new h w)
  have HB0 := Lib.hid (boxHd_below h w)
  have HLB := Lib.hid hb
  have HW : Hid (writeH h = if h.d.good = true then if h.l.all (standD h.d.a) = true then (makeD mshB h.d.a ((rowH h).take (filledD h.l 10)), 0) else ([], 10) else ([], 11)) := Lib.hid rfl
  clear hb
  go_enter Tryd.func18, Tryd.ntmps18
  obtain ⟨c0, c1, c2, c3, c4, c5, c6, c7, c8, c9, c10, c11, c12, c13, c14⟩ := HX0.out.cells
  go_wp2_with (fail)
  generalize w.alloc (.cells #[u8 h.d.a, u8 h.d.b, u8 h.d.c, u8 h.d.d, u8 h.d.e, .string h.a0, .string h.a1, .string h.a2, .string h.a3, .string h.a4, .string h.a5, .string h.a6, .string h.a7, .string h.a8, .string h.a9] TH) = w0 at *
  refine (delimRight h.d w0).mono ?_
  rintro e w1 ⟨rfl, hb1⟩
  have HX1 := Lib.hid (HX0.out.below hb1)
  have HB1 := Lib.hid (HB0.out.trans (hb1.mono HB0.out.size))
  clear hb1 c0 c1 c2 c3 c4 c5 c6 c7 c8 c9 c10 c11 c12 c13 c14 HX0 HB0
  cases hg : h.d.good
  · have HE : Hid (writeH h = ([], 11)) := Lib.hid (by rw [HW.out, hg]; rfl)
    go_wp2_with (fail)
    go_ret2
    exact ⟨by rw [HE.out]; rfl, HB1.out⟩
  · have HE : Hid (writeH h = if h.l.all (standD h.d.a) = true then (makeD mshB h.d.a ((rowH h).take (filledD h.l 10)), 0) else ([], 10)) := Lib.hid (by rw [HW.out, hg]; rfl)
    go_wp2_with (fail)
    have HBS : Hid (Bs (w1.alloc (.cells #[u8 h.d.a] 5)) (some ⟨w1.heap.size, 0, none⟩) 1 1 [h.d.a]) := Lib.hid (Bs.lit w1 [h.d.a] 5 _ _ rfl rfl rfl (by simp [maxLen]))
    have HGW : Hid (w.heap.size < w1.heap.size) := Lib.hid (Array.getElem?_eq_some_iff.1 HX1.out).1
    go_cut [4] (fun x wx => ∃ g : Nat, x = .slice (some ⟨g, 0, none⟩) 2 2 ∧ OwnS wx w1.heap.size (.slice (some ⟨g, 0, none⟩) 2 2) [[h.d.a], [h.d.b, h.d.c, h.d.d, h.d.e]] ∧ Below w1.heap.size w1 wx)
    case first =>
      as_aux_lemma =>
        have hcv : ∀ W : World, (convert 22 9 (.slice (some ⟨W.heap.size, 0, none⟩) 1 1)).run Tryd.prog (W.alloc (.cells #[u8 h.d.a] 5)) = .ok (str [h.d.a]) (W.alloc (.cells #[u8 h.d.a] 5)) := fun W => (Bs.lit W [h.d.a] 5 _ _ rfl rfl rfl (by simp [maxLen])).str (P := Tryd.prog) 22 5 9 Tryd.underlying22 Tryd.underlying5 Tryd.underlying9
        have hcd : (convert 22 9 (.slice (some ⟨w1.heap.size, 0, none⟩) 1 1)).run Tryd.prog (w1.alloc (.cells #[u8 h.d.a] 5)).drew = .ok (str [h.d.a]) (w1.alloc (.cells #[u8 h.d.a] 5)).drew := (HBS.out.drew).str (P := Tryd.prog) 22 5 9 Tryd.underlying22 Tryd.underlying5 Tryd.underlying9
        have HCW : Hid (∀ wA : World, Below (w1.alloc (.cells #[u8 h.d.a] 5)).heap.size (w1.alloc (.cells #[u8 h.d.a] 5)).drew wA → (convert 22 9 (.slice (some ⟨w1.heap.size, 0, none⟩) 1 1)).run Tryd.prog wA = .ok (str [h.d.a]) wA) := Lib.hid (fun wA hA => (HBS.out.drew.below hA).str (P := Tryd.prog) 22 5 9 Tryd.underlying22 Tryd.underlying5 Tryd.underlying9)
        have q0 : ∀ o1 : Obj, (w1.alloc o1).cell? ⟨w.heap.size, 0, none⟩ = some (u8 h.d.a) := fun o1 => cell_of_row _ w.heap.size 0 _ _ _ (HX1.out.below ((Below.refl _ _).alloc (Nat.le_refl _) o1))
        have q1 : ∀ o1 : Obj, (w1.alloc o1).cell? ⟨w.heap.size, 1, none⟩ = some (u8 h.d.b) := fun o1 => cell_of_row _ w.heap.size 1 _ _ _ (HX1.out.below ((Below.refl _ _).alloc (Nat.le_refl _) o1))
        have q2 : ∀ o1 : Obj, (w1.alloc o1).cell? ⟨w.heap.size, 2, none⟩ = some (u8 h.d.c) := fun o1 => cell_of_row _ w.heap.size 2 _ _ _ (HX1.out.below ((Below.refl _ _).alloc (Nat.le_refl _) o1))
        have q3 : ∀ o1 : Obj, (w1.alloc o1).cell? ⟨w.heap.size, 3, none⟩ = some (u8 h.d.d) := fun o1 => cell_of_row _ w.heap.size 3 _ _ _ (HX1.out.below ((Below.refl _ _).alloc (Nat.le_refl _) o1))
        have q4 : ∀ o1 : Obj, (w1.alloc o1).cell? ⟨w.heap.size, 4, none⟩ = some (u8 h.d.e) := fun o1 => cell_of_row _ w.heap.size 4 _ _ _ (HX1.out.below ((Below.refl _ _).alloc (Nat.le_refl _) o1))
        obtain ⟨r0, r1, r2, r3, r4, _⟩ := HX1.out.cells
        go_region_with ((go_at_call 37; go_loud ((refine (otherSigns_ h.d _).mono ?_; rintro e wA ⟨rfl, hbA⟩; have HBA : Hid (Below w1.heap.size w1 wA) := Lib.hid (by first | exact ((Below.refl _ w1).alloc (Nat.le_refl _) _).drew.trans (hbA.mono (by simp)) | exact (Below.refl _ w1).drew.trans hbA | exact hbA); have HXA := Lib.hid (HX1.out.below HBA.out); (first | (have hcA := HCW.out wA hbA) | skip); obtain ⟨z0, _, _, _, _, _⟩ := HXA.out.cells; clear hbA))))
        all_goals
          go_wp2_with (fail)
          go_meet
          first
          | exact ⟨wA.heap.size, rfl, OwnS.twoH wA _ _ _ HBA.out.size, HBA.out.alloc HBA.out.size _⟩
          | exact ⟨wA.heap.size + 1, rfl, by have t := OwnS.twoH (wA.alloc (.cells #[u8 h.d.a] 5)) [h.d.a] [h.d.b, h.d.c, h.d.d, h.d.e] w1.heap.size (Nat.le_trans HBA.out.size (by simp)); simp only [World.size_alloc] at t; exact t, (HBA.out.alloc HBA.out.size _).alloc (Nat.le_trans HBA.out.size (by simp)) _⟩
    case rest =>
      as_aux_lemma =>
        obtain ⟨g, rfl, ho, hbc⟩ := hcut
        have HO0 : Hid (OwnS wc w1.heap.size (.slice (some ⟨g, 0, none⟩) 2 2) ((rowH h).take 2)) := Lib.hid ho
        have HBC := Lib.hid hbc
        clear ho hbc HBS
        go_wp2_with (fail)
        have HBW : Hid (Below w.heap.size w w1) := HB1
        refine (rows_ wc).mono ?_
        rintro e w7 ⟨rfl, hb7⟩
        have HYL : Hid (∀ y ∈ h.l, y.size ≤ 1000000) := Lib.hid (fun y hy => by
          have h1 := HLB.out
          have h2 := mem_lens (List.mem_map.2 ⟨y, hy, rfl⟩ : y.data.toList ∈ h.l.map (·.data.toList))
          simp at h2
          omega)
        have HO7 := Lib.hid (HO0.out.below hb7)
        have HB7 := Lib.hid (HBC.out.trans (hb7.mono HBC.out.size))
        clear hb7 HO0 HBC
        go_wp2_with (fail)
        go_loopw [25, 4, 5, 7, 8] (fun i v f _ _ wr => ∃ k : Nat, k ≤ 10 ∧ i = .int .i64 k ∧ OwnS wr w1.heap.size v ((rowH h).take (k + 2)) ∧ f = .int .i64 ((filledD h.l k : Nat) : Int) ∧ (h.l.take k).all (standD h.d.a) = true ∧ Below w1.heap.size w1 wr) (fun i _ _ _ _ _ => 10 - (intOf i).toNat)
        case atStart => exact ⟨0, by omega, rfl, HO7.out, rfl, rfl, HB7.out⟩
        case round =>
          clear HO7 HB7
          obtain ⟨wo, rfl⟩ : ∃ wo : World, wo = wr := ⟨_, rfl⟩
          obtain ⟨k, hk, rfl, ho, rfl, hst, hb⟩ := hrel
          have HO := Lib.hid ho
          have HST := Lib.hid hst
          have HB := Lib.hid hb
          clear ho hst hb
          obtain ⟨A4, cc4, rfl, _, _⟩ := HO.out.ss
          obtain ⟨L, hL⟩ : ∃ L, L = ((rowH h).take (k + 2)).length := ⟨_, rfl⟩
          have HLL : Hid (L = k + 2) := Lib.hid (by rw [hL, List.length_take, show (rowH h).length = 12 from rfl]; omega)
          rw [← hL] at HO ⊢
          clear hL
          by_cases hlt : k < 10
          · obtain ⟨F, i0, hkk, hrw⟩ := rowsAt k hlt
            have HRW := Lib.hid hrw
            have HKL := Lib.hid hlt
            have HB1 : Hid (Below w1.heap.size w1 (wo.alloc (.cells #[.func (.func F) #[] #[]] 74))) := Lib.hid (HB.out.alloc HB.out.size _)
            have HO1 : Hid (OwnS (wo.alloc (.cells #[.func (.func F) #[] #[]] 74)) w1.heap.size (.slice A4 L cc4) ((rowH h).take (k + 2))) := Lib.hid (HO.out.below ((Below.refl _ _).alloc (Nat.le_refl _) _))
            obtain ⟨c0, c1, c2, c3, c4, cx⟩ := (HX1.out.below HB1.out).cells
            have cy := (HX1.out.below HB1.out).text k hlt
            have HYM : Hid ((h.l.getD k ⟨#[]⟩) ∈ h.l) := Lib.hid (h.text_mem k hlt)
            have HRT : Hid ((rowH h).take (k + 2) ++ [(h.l.getD k ⟨#[]⟩).data.toList] = (rowH h).take (k + 1 + 2)) := Lib.hid (rowH_take h k hlt)
            have HTA : Hid (standD h.d.a (h.l.getD k ⟨#[]⟩) = true → (h.l.take (k + 1)).all (standD h.d.a) = true) := Lib.hid (h.take_all _ k hlt HST.out)
            have HFS : Hid (filledD h.l (k + 1) = if (h.l.getD k ⟨#[]⟩).toList.isEmpty then filledD h.l k else k + 3) := Lib.hid (filledD_step h k)
            obtain ⟨y, hy⟩ : ∃ y, y = h.l.getD k ⟨#[]⟩ := ⟨_, rfl⟩
            rw [← hy] at cy HYM HRT HTA HFS
            obtain ⟨f, hf⟩ : ∃ f, f = filledD h.l k := ⟨_, rfl⟩
            rw [← hf] at HFS ⊢
            clear hrw hk cx hy hf
            have hk0 : (k : Int) < 10 := by omega
            go_wp2_with (fail)
            refine (HRW.out w.heap.size _).mono ?_
            rintro e wc2 ⟨rfl, rfl⟩
            have hYS : Hid (y.size ≤ 1000000) := Lib.hid (HYL.out _ HYM.out)
            go_wp2_with (fail)
            refine (mayStand_ y h.d _).mono ?_
            rintro e wd ⟨rfl, hbd⟩
            have HB2 := Lib.hid (HB1.out.trans (hbd.mono HB1.out.size))
            have HO2 := Lib.hid (HO1.out.below hbd)
            clear hbd c0 c1 c2 c3 c4 cy HB1 HO1
            cases hs : standD h.d.a y
            · have HEF : Hid (writeH h = ([], 10)) := Lib.hid (by
                rw [HE.out, if_neg]
                intro e
                have t := List.all_eq_true.1 e y HYM.out
                rw [hs] at t
                cases t)
              go_wp2_with (fail)
              go_ret2
              exact ⟨by rw [HEF.out]; rfl, HBW.out.trans (HB2.out.mono HBW.out.size)⟩
            · have HST2 : Hid ((h.l.take (k + 1)).all (standD h.d.a) = true) := Lib.hid (HTA.out hs)
              have HLB2 : Hid (((rowH h).take (k + 2)).length ≤ 12) := Lib.hid (by rw [List.length_take]; have := rowH_len h; omega)
              clear hs
              cases de : y.toList.isEmpty
              · have tok1 : Hid True := Lib.hid trivial
                have HF2 : Hid (filledD h.l (k + 1) = k + 3) := Lib.hid (by rw [HFS.out, de]; rfl)
                go_wp2_with (at_builtin; have _t := tok1; go_loud ((refine wpList_str rfl (.tmp 38) (.tmp 40) rfl w1.heap.size _ ((rowH h).take (k + 2)) rfl (HO2.out.below ((Below.refl _ wd).alloc (Nat.le_refl _) _)) wd.heap.size y.data.toList rfl (heap_alloc_new wd _) (by have := HLB2.out; omega) (by have := HB2.out.size; simp; omega) ?_; intro v' w' hown hbel hgr; rw [HRT.out] at hown; obtain ⟨A5, c5, rfl, _, _⟩ := hown.ss; obtain ⟨L5, hL5⟩ : ∃ L5, L5 = ((rowH h).take (k + 1 + 2)).length := ⟨_, rfl⟩; have HL5 : Hid (L5 = k + 3) := Lib.hid (by rw [hL5, List.length_take, rowH_len]; have := HKL.out; omega); rw [← hL5] at hown ⊢; have HOWN : Hid (OwnS w' w1.heap.size (.slice A5 L5 c5) ((rowH h).take (k + 1 + 2))) := Lib.hid hown; have HB3 : Hid (Below w1.heap.size w1 w') := Lib.hid ((HB2.out.alloc HB2.out.size _).trans hbel); clear tok1 hown hbel hgr hL5 _t)))
                exact ⟨⟨k + 1, by have := HKL.out; omega, by go_num, HOWN.out, by rw [HF2.out, HL5.out], HST2.out, HB3.out⟩, by have := HKL.out; simp [intOf]; omega⟩
              · have tok1 : Hid True := Lib.hid trivial
                have HF2 : Hid (filledD h.l (k + 1) = f) := Lib.hid (by rw [HFS.out, de]; rfl)
                go_wp2_with (at_builtin; have _t := tok1; go_loud ((refine wpList_str rfl (.tmp 38) (.tmp 40) rfl w1.heap.size _ ((rowH h).take (k + 2)) rfl (HO2.out.below ((Below.refl _ wd).alloc (Nat.le_refl _) _)) wd.heap.size y.data.toList rfl (heap_alloc_new wd _) (by have := HLB2.out; omega) (by have := HB2.out.size; simp; omega) ?_; intro v' w' hown hbel hgr; rw [HRT.out] at hown; obtain ⟨A5, c5, rfl, _, _⟩ := hown.ss; obtain ⟨L5, hL5⟩ : ∃ L5, L5 = ((rowH h).take (k + 1 + 2)).length := ⟨_, rfl⟩; have HL5 : Hid (L5 = k + 3) := Lib.hid (by rw [hL5, List.length_take, rowH_len]; have := HKL.out; omega); rw [← hL5] at hown ⊢; have HOWN : Hid (OwnS w' w1.heap.size (.slice A5 L5 c5) ((rowH h).take (k + 1 + 2))) := Lib.hid hown; have HB3 : Hid (Below w1.heap.size w1 w') := Lib.hid ((HB2.out.alloc HB2.out.size _).trans hbel); clear tok1 hown hbel hgr hL5 _t)))
                exact ⟨⟨k + 1, by have := HKL.out; omega, by go_num, HOWN.out, by rw [HF2.out], HST2.out, HB3.out⟩, by have := HKL.out; simp [intOf]; omega⟩
          · obtain rfl : k = 10 := by omega
            have HE2 : Hid (writeH h = (makeD mshB h.d.a ((rowH h).take (filledD h.l 10)), 0)) := Lib.hid (by rw [HE.out, if_pos (show h.l.all (standD h.d.a) = true from HST.out)])
            have HFB : Hid (filledD h.l 10 ≤ 12) := Lib.hid (filledD_le h.l 10)
            have hR12 : (rowH h).length = 12 := rfl
            have hB2 : Lib.lens (rowH h) = 1 + (4 + Lib.lens (h.l.map (·.data.toList))) := by simp [rowH, Lib.lens]
            rw [List.take_of_length_le (by rw [hR12]; omega)] at HO
            obtain ⟨RH, hRH⟩ : ∃ RH, RH = rowH h := ⟨_, rfl⟩
            rw [← hRH] at HO HE2 hR12 hB2
            clear hRH
            obtain ⟨g4, c4', e4, _, _, hcap, hcm⟩ := HO.out.form (by rw [hR12]; omega)
            rw [e4] at HO ⊢
            rw [hR12] at HO hcap ⊢
            have HSS : Hid (Ss wo (some ⟨g4, 0, none⟩) (filledD h.l 10) c4' (RH.take (filledD h.l 10))) := Lib.hid (Ss.take (n := 12) (by have t := HO.out; rw [← hR12] at t; have t2 := OwnS.ss' t; rw [hR12] at t2; exact t2) HFB.out)
            have HBK : Hid (Lib.lens (RH.take (filledD h.l 10)) + (RH.take (filledD h.l 10)).length ≤ 1048576) := Lib.hid (by
              have h1 := Lib.lens_take_le RH (filledD h.l 10)
              have h2 := hB2
              have h3 : (RH.take (filledD h.l 10)).length ≤ 12 := by rw [List.length_take, hR12]; omega
              have h4 := HLB.out
              omega)
            obtain ⟨F, hF⟩ : ∃ F, F = filledD h.l 10 := ⟨_, rfl⟩
            rw [← hF] at HE2 HFB HSS HBK ⊢
            obtain ⟨U, hU⟩ : ∃ U, U = RH.take F := ⟨_, rfl⟩
            rw [← hU] at HE2 HSS HBK
            have HCAP : Hid (12 ≤ c4') := Lib.hid hcap
            have HMS : Hid (mshB.size ≤ 1048576) := Lib.hid (by decide)
            have hf1 : (F : Int) ≤ (c4' : Int) := by have := HFB.out; have := HCAP.out; omega
            have hf2 : (0 : Int) ≤ (F : Int) := by omega
            have hf3 : F ≤ c4' := by omega
            have HX2 := Lib.hid (HX1.out.below HB.out)
            have HB0 := Lib.hid (HBW.out.trans (HB.out.mono HBW.out.size))
            clear HX1 HB1 HBW HB HYL HLB HST HE HW HLL hlt hk hF hU hcap HO hR12 hB2 e4 hcm
            obtain ⟨r0, r1, r2, r3, r4, rx⟩ := HX2.out.cells
            clear rx
            go_wp2_with (fail)
            go_region_held3 (fun w' => w'.cell? ⟨w.heap.size, 0, none⟩ = some (.int .u8 (h.d.a.toNat : Int)) ∧ w'.cell? ⟨w.heap.size, 1, none⟩ = some (.int .u8 (h.d.b.toNat : Int)) ∧ w'.cell? ⟨w.heap.size, 2, none⟩ = some (.int .u8 (h.d.c.toNat : Int)) ∧ w'.cell? ⟨w.heap.size, 3, none⟩ = some (.int .u8 (h.d.d.toNat : Int)) ∧ w'.cell? ⟨w.heap.size, 4, none⟩ = some (.int .u8 (h.d.e.toNat : Int))) (go_keep) ((go_at_call 40; go_loud ((refine (segMake h.d mshB (some ⟨g4, 0, none⟩) F c4' U _ (by first | exact HSS.out | exact HSS.out.below (Below.refl _ _).drew) HMS.out HBK.out).mono ?_; rintro e wM ⟨rfl, hbM⟩; have HBM : Hid (Below w.heap.size w wM) := Lib.hid (by first | exact HB0.out.trans (hbM.mono HB0.out.size) | exact HB0.out.trans (((Below.refl _ _).drew.trans hbM).mono HB0.out.size)); obtain ⟨z0, z1, z2, z3, z4, zx⟩ := (HX2.out.keep (by first | exact hbM | exact (Below.refl _ _).drew.trans hbM) (Array.getElem?_eq_some_iff.1 HX2.out).1).cells; clear hbM zx))))
            all_goals
              go_wp2_with (fail)
              go_ret2
              exact ⟨by rw [HE2.out]; rfl, HBM.out⟩
end Go.Proofs.YtgffamdlnacamaaDoor
