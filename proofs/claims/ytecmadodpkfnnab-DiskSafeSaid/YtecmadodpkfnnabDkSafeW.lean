/- DiskSafe, walked. -/
import Derived.Test.YtecmadodpkfnnabDkSafe
namespace Go.Proofs.Ytecmadodpkfnnab
open Go.RowKit Go.MapKept

abbrev srt (T : List (List UInt8)) : List (List UInt8) := List.mergeSort T fun x y => decide (x ≤ y)
theorem srt_mem {T : List (List UInt8)} {F : List Ent} (h : T.Perm (nmsOf F)) {k : Nat} (hk : k < (srt T).length) : (srt T).getD k [] ∈ nmsOf F := by
  rw [List.getD_eq_getElem?_getD, List.getElem?_eq_getElem hk, Option.getD_some]
  exact h.mem_iff.1 ((List.mergeSort_perm T _).mem_iff.1 (List.getElem_mem hk))
theorem slice_front (g N m : Nat) (h : N ≤ m) (W : World) : (Instr.sliceAt 26 (.slice (some ⟨g, 0, none⟩) m m) none (some (.int .i64 (N : Int))) none).run Try.prog W = .ok (.slice (some ⟨g, 0, none⟩) N m) W := by
  have he : Try.prog.elem 26 = 5 := by kernel_rfl
  have hu : Try.prog.underlying 26 = some (.slice (Try.prog.elem 26)) := by rw [he]; exact Try.underlying26
  rw [run_sliceAt_slice (h := hu), run_slice_h (ht := hu) (h0 := by omega) (h2 := by omega), he]
  simp [go_sem, sliced, Result.andThen, Addr.add]
set_option maxHeartbeats 16000000 in
set_option maxRecDepth 100000 in
theorem diskSafe_walk (x : Int) (A : Option Addr) (n c : Nat) (L : List DAct) (kp : Int) (w : World) (_wf : (Lit.int .i64 x).wf = true) (hL : DAs w A n c L) (_wk : (Lit.int .i64 kp).wf = true) : Calls Try.prog 4 #[.int .i64 x, .slice A n c, .int .i64 kp] w (True_ w) := by
  have HL := Lib.hid hL
  have hn : n ≤ 140737488351232 := hL.2.2.2.1
  clear hL
  go_enter Try.func4, Try.ntmps4
  go_wp2_with (fail)
  refine (dkAlive w).mono ?_
  rintro e w1 ⟨rfl, hb1⟩
  have HB1 := Lib.hid hb1
  have HL1 := Lib.hid (HL.out.below hb1)
  clear hb1
  go_wp2_with (fail)
  refine (dkGreat2 A n c L w1 HL1.out).mono ?_
  rintro e w2 ⟨bg, rfl, h200, hb2⟩
  have HB2 := Lib.hid (HB1.out.trans (hb2.mono HB1.out.size))
  have HL2 := Lib.hid (HL1.out.below hb2)
  have H200 := Lib.hid h200
  clear hb2 h200
  cases bg
  · have HN : Hid (n ≤ 200) := Lib.hid (by
      rcases Nat.lt_or_ge 200 n with h | h
      · exact absurd (H200.out h) (by decide)
      · exact h)
    clear H200
    go_wp2_with (fail)
    refine (dkRoomN x w2).mono ?_
    rintro e w3 ⟨⟨r, rfl, hr0, hr1⟩, rfl⟩
    have HR := Lib.hid (And.intro hr0 hr1)
    clear hr0 hr1
    go_wp2_with (fail)
    refine (dkNew r (by have := HR.out; omega) w3).mono ?_
    rintro e w4 ⟨D, M, rfl, h4, hb4⟩
    have H4 := Lib.hid h4
    have HB4 := Lib.hid (HB2.out.trans (hb4.mono HB2.out.size))
    have HL4 := Lib.hid (HL2.out.below hb4)
    have HZ4 : Hid (w3.heap.size ≤ w4.heap.size) := Lib.hid hb4.size
    clear h4 hb4
    have HI0 := Lib.hid (newD_ok r (by have := HR.out; omega))
    have HZ2 : Hid (w.heap.size ≤ w3.heap.size) := Lib.hid HB2.out.size
    go_wp2_with (fail)
    go_loopw [43] (fun i wr => ∃ (k : Nat) (d : Dk) (F : List Ent), k ≤ n ∧ i = .int .i64 k ∧ DkAt wr w3.heap.size D M d F ∧ FsOk d (fsOf F) ∧ d.ops ≤ k ∧ F.length ≤ k ∧ Below w.heap.size w wr ∧ w3.heap.size ≤ wr.heap.size) (fun i _ => n - (intOf i).toNat)
    case atStart => exact ⟨0, _, _, by omega, rfl, H4.out, HI0.out, Int.le_refl _, by simp, HB4.out, HZ4.out⟩
    case round =>
      obtain ⟨wo, rfl⟩ : ∃ wo : World, wo = wr := ⟨_, rfl⟩
      obtain ⟨k, d, F, hk, rfl, hd, hok, hops, hfl, hb, hz⟩ := hrel
      have HOK := Lib.hid hok
      have HOP := Lib.hid hops
      have HFL := Lib.hid hfl
      have HB := Lib.hid hb
      have HZ := Lib.hid hz
      have HD := Lib.hid hd
      clear hd hok hops hfl hb hz H4 HB4 HL4 HZ4 HI0
      by_cases hlt : k < n
      · as_aux_lemma =>
        obtain ⟨b, o, rfl, hx⟩ := (HL.out.below HB.out).2.2.2.2 (by omega)
        obtain ⟨x, hxk⟩ : ∃ x, L[k]? = some x := ⟨_, List.getElem?_eq_getElem (by have := HL.out.1; omega)⟩
        obtain ⟨⟨c0, c1, c2, c3, c4, A5, m, c', c5, hB5, hc'⟩, hf⟩ := hx k x hxk
        have HFX := Lib.hid hf
        have HBB := Lib.hid hB5
        have hbo : Below wo.heap.size wo (wo.alloc (actO x.kd x.n x.k x.a x.b A5 m c')) := (Below.refl _ _).alloc (Nat.le_refl _) _
        have H5 := Lib.hid (HD.out.below hbo)
        have HB5 := Lib.hid (HB.out.trans (hbo.mono HB.out.size))
        have HZ5 : Hid (w3.heap.size ≤ (wo.alloc (actO x.kd x.n x.k x.a x.b A5 m c')).heap.size) := Lib.hid (Nat.le_trans HZ.out hbo.size)
        have HBS5 := Lib.hid (HBB.out.below hbo)
        have HX5 : Hid ((wo.alloc (actO x.kd x.n x.k x.a x.b A5 m c')).heap[wo.heap.size]? = some (actO x.kd x.n x.k x.a x.b A5 m c')) := Lib.hid (heap_alloc_new wo _)
        clear hx hB5 hf hxk hbo HD HB HZ HBB
        go_wp2_with (fail)
        generalize (wo.alloc (actO x.kd x.n x.k x.a x.b A5 m c')) = w5 at *
        clear c0 c1 c2 c3 c4 c5
        have HCO : Hid (FsOk (callD d (fsOf F) x.kd x.n x.k x.a x.b x.l).2.1 (callD d (fsOf F) x.kd x.n x.k x.a x.b x.l).2.2 ∧ (callD d (fsOf F) x.kd x.n x.k x.a x.b x.l).2.1.ops ≤ ((k + 1 : Nat) : Int)) := Lib.hid ⟨callD_ok HOK.out (by have := HOP.out; omega) _ _ _ HFX.out.n HFX.out.k _ _ _, by have := callD_ops (d := d) (fs := fsOf F) x.kd x.n x.k x.a x.b x.l; have := HOP.out; omega⟩
        have HCL : Hid ((callD d (fsOf F) x.kd x.n x.k x.a x.b x.l).2.2.length ≤ k + 1) := Lib.hid (by have h1 := callD_len d (fsOf F) x.kd x.n x.k x.a x.b x.l; have h2 := HFL.out; rw [show (fsOf F).length = F.length from (by simp [fsOf])] at h1; omega)
        have HCA := Lib.hid (call_ H5.out HOK.out x.kd x.n x.k x.a x.b (by have := HFX.out.a; omega) (by have := HFX.out.b; omega) A5 m c' x.l HBS5.out HZ5.out)
        first
        | (refine HCA.out.mono ?_)
        | (obtain ⟨q0, q1, q2, q3, q4, q5⟩ : w5.cell? ⟨wo.heap.size, 0, none⟩ = some (.int .i64 x.kd) ∧ w5.cell? ⟨wo.heap.size, 1, none⟩ = some (.int .i64 x.n) ∧ w5.cell? ⟨wo.heap.size, 2, none⟩ = some (.int .i64 x.k) ∧ w5.cell? ⟨wo.heap.size, 3, none⟩ = some (.string x.a) ∧ w5.cell? ⟨wo.heap.size, 4, none⟩ = some (.string x.b) ∧ w5.cell? ⟨wo.heap.size, 5, none⟩ = some (.slice A5 m c') := ⟨cell_of_row _ _ 0 _ _ _ HX5.out, cell_of_row _ _ 1 _ _ _ HX5.out, cell_of_row _ _ 2 _ _ _ HX5.out, cell_of_row _ _ 3 _ _ _ HX5.out, cell_of_row _ _ 4 _ _ _ HX5.out, cell_of_row _ _ 5 _ _ _ HX5.out⟩
           go_wp2_with (fail)
           refine HCA.out.mono ?_)
        rintro e w7 ⟨F7, he, h7, hc7, hf7⟩
        obtain ⟨n1, e1, g1, o1, hr⟩ := retO_form (callD d (fsOf F) x.kd x.n x.k x.a x.b x.l).1
        rw [hr] at he
        subst he
        have H7 := Lib.hid h7
        have HB7 : Hid (Below w.heap.size w w7) := Lib.hid (HB5.out.trans ((DkCh.below H5.out hc7 HZ5.out).mono HB2.out.size))
        have HZ7 : Hid (w3.heap.size ≤ w7.heap.size) := Lib.hid (Nat.le_trans HZ5.out hc7.ch.size)
        have HF7 := Lib.hid hf7
        clear h7 hc7 hf7 hr
        go_wp2_with (fail)
        exact ⟨⟨k + 1, _, F7, by omega, by go_num, H7.out, by rw [HF7.out]; exact HCO.out.1, HCO.out.2, by have h1 := HCL.out; rw [← HF7.out] at h1; simpa [fsOf] using h1, HB7.out, HZ7.out⟩, by simp [intOf]; omega⟩
      · obtain rfl : k = n := by omega
        clear hlt
        have HNF : Hid ((F.map (·.nm)).Nodup) := Lib.hid HD.out.names
        have HLF : Hid (FileLens F) := Lib.hid HOK.out.dk.lens
        have HSF : Hid (∀ e ∈ F, e.f.safe ≤ e.f.bs.length) := Lib.hid (fun e he => HOK.out.safe (e.nm, e.f) (List.mem_map.2 ⟨e, he, rfl⟩))
        have HFT : Hid (∀ j, DFoot D M F j → j < wo.heap.size) := Lib.hid (fun j hj => (HD.out.foot_lt hj).2)
        go_wp2_with (fail)
        refine (dkNames2 HD.out (by have := HFL.out; have := HN.out; omega)).mono ?_
        rintro e w6 ⟨A6, c6, T6, rfl, hp6, hs6, hb6, ha6⟩
        have H6 := Lib.hid (HD.out.below hb6)
        have HB6 : Hid (Below w.heap.size w w6) := Lib.hid (HB.out.trans (hb6.mono HB.out.size))
        have HP6 := Lib.hid hp6
        have HA6 := Lib.hid ha6
        have HS6 : Hid (Ss w6 A6 (srt T6).length c6 (srt T6)) := Lib.hid hs6
        have HT6 : Hid ((srt T6).length ≤ 200) := Lib.hid (by rw [sort_len, hp6.length_eq]; have := HFL.out; have := HN.out; simp [nmsOf]; omega)
        have HZW : Hid (wo.heap.size ≤ w6.heap.size) := Lib.hid hb6.size
        have HFT6 : Hid (∀ j, DFoot D M F j → j < w6.heap.size) := Lib.hid (fun j hj => Nat.lt_of_lt_of_le (HFT.out j hj) hb6.size)
        have HBW : Hid (w3.heap.size ≤ w6.heap.size) := Lib.hid (Nat.le_trans HZ.out hb6.size)
        clear hp6 ha6 hs6 hb6 HD HB
        rw [show (List.mergeSort T6 fun x y => decide (x ≤ y)) = srt T6 from rfl]
        obtain ⟨Z, hZ⟩ : ∃ Z, Z = srt T6 := ⟨_, rfl⟩
        have HM6 : Hid (∀ i, i < Z.length → Z.getD i [] ∈ nmsOf F) := Lib.hid (fun i hi => by rw [hZ] at hi ⊢; exact srt_mem HP6.out hi)
        have HZL : Hid (Z.length = F.length) := Lib.hid (by rw [hZ, sort_len, HP6.out.length_eq]; simp [nmsOf])
        rw [← hZ] at HS6 HT6 ⊢
        clear hZ HP6
        obtain ⟨q, hq⟩ : ∃ q, q = Z.length := ⟨_, rfl⟩
        rw [← hq] at HS6 HT6 HM6 ⊢
        have HQ := Lib.hid hq
        clear hq
        have hq200 : q ≤ 200 := HT6.out
        go_wp2_with (fail)
        go_loopw [55, 12, 13] (fun i va vs wr => ∃ (k : Nat) (xs : List Value), k ≤ q ∧ i = .int .i64 k ∧ AllAt wr w6.heap.size k (fsOf F) Z va vs xs ∧ Below w6.heap.size w6 wr) (fun i _ _ _ => q - (intOf i).toNat)
        case atStart => exact ⟨0, [], by omega, rfl, AllAt.nil _ _ _ _, Below.refl _ _⟩
        case round =>
          obtain ⟨wo2, rfl⟩ : ∃ wo2 : World, wo2 = wr := ⟨_, rfl⟩
          obtain ⟨k, xs, hk, rfl, hal, hb⟩ := hrel
          have HAL := Lib.hid hal
          have HB := Lib.hid hb
          have HB2' : Hid (Below w.heap.size w wo2) := Lib.hid (HB6.out.trans (hb.mono HB6.out.size))
          clear hal hb
          by_cases hlt : k < q
          · as_aux_lemma =>
            obtain ⟨y, hy⟩ : ∃ y : ByteArray, y = txt (Z.getD k []) := ⟨_, rfl⟩
            obtain ⟨f, hf⟩ : ∃ f, f = flAt (fsOf F) (Z.getD k []) := ⟨_, rfl⟩
            have HFY : Hid (fget (fsOf F) y = some f) := Lib.hid (by rw [hy, hf]; exact flAt_some HNF.out (HM6.out k hlt))
            have hsy : syncedOf (fsOf F) y = (f.safe : Int) := by unfold syncedOf; rw [HFY.out]
            have hsl : f.safe ≤ f.bs.length := HOK.out.safe (y, f) (fget_mem HFY.out)
            obtain ⟨b, o, rfl, _, hc⟩ := (HS6.out.below HB.out).read hlt
            have hc' : wo2.cell? ⟨b, o + k, none⟩ = some (.string y) := by rw [hy]; exact hc
            have HF := Lib.hid hf
            have HSY := Lib.hid hsy
            have H := Lib.hid (H6.out.below HB.out)
            clear hc hy hf hsy
            go_wp2_with (fail)
            clear hc'
            refine (dkRead_some H.out HLF.out y f HFY.out).mono ?_
            rintro e w7 ⟨g, rfl, hg, hr, hb7⟩
            have H7 := Lib.hid (H.out.below hb7)
            have HAL7 := Lib.hid (HAL.out.below hb7)
            have HB7 : Hid (Below w6.heap.size w6 w7) := Lib.hid (HB.out.trans (hb7.mono HB.out.size))
            have HG7 : Hid (w6.heap.size ≤ g) := Lib.hid (Nat.le_trans HB.out.size hg)
            have HR7 := Lib.hid hr
            clear hg hr hb7
            obtain ⟨m, hm⟩ : ∃ m, f.bs.length = m := ⟨_, rfl⟩
            obtain ⟨s, hs⟩ : ∃ s, f.safe = s := ⟨_, rfl⟩
            have HM := Lib.hid hm
            have HSF2 := Lib.hid hs
            rw [hm]
            rw [hm, hs] at hsl
            rw [hs] at HSY
            clear hm hs
            have d1 : decide ((m : Int) < (s : Int)) = false := by simp; omega
            have d2 : decide ((s : Int) < 0) = false := by simp
            have d3 : ¬ m < s := by omega
            go_wp2_with (fail)
            refine (dkSynced H7.out y).mono ?_
            rintro e w8 ⟨rfl, rfl⟩
            rw [HSY.out]
            go_wp2_with (fail)
            refine (dkSynced H7.out y).mono ?_
            rintro e w8 ⟨rfl, rfl⟩
            rw [HSY.out]
            have tok1 : Hid True := Lib.hid trivial
            have tok2 : Hid True := Lib.hid trivial
            go_wp2_with (at_builtin; have _t := tok1; go_loud ((refine wpList_appAt rfl (.tmp 81) (.tmp 83) 49 rfl w6.heap.size 26 (.slice none 0 0) 24 Try.underlying49 bytesInfo1 rfl (by decide) _ k xs rfl (own_below HAL7.out.ra ((Below.refl _ w7).alloc (Nat.le_refl _) _)) ⟨w7.heap.size, 0, none⟩ 1 1 [.slice (some ⟨g, 0, none⟩) m m] rfl rfl (newRow1 w7 _ _) (fun u hu => by simp at hu; subst hu; rfl) (by omega) (by have := HB7.out.size; simp; omega) ?_; intro v8 w8 hown8 hgr8 hat8; have HR8 := Lib.hid hown8; have HM8 := Lib.hid (HAL7.out.more1 HF.out ((Below.refl _ w7).alloc (Nat.le_refl _) _) hgr8 HG7.out HR7.out); have HB8 : Hid (Below w6.heap.size w6 w8) := Lib.hid ((HB7.out.alloc HB7.out.size _).grown hgr8 (by have := HB7.out.size; simp; omega) (fun j hj => (World.ownsRow.lt HAL7.out.ra j hj).1)); clear tok1 hown8 hgr8 hat8 _t)))
            have H8 := Lib.hid (H6.out.low HFT6.out HB8.out)
            refine (dkSynced H8.out y).mono ?_
            rintro e w9 ⟨rfl, rfl⟩
            rw [HSY.out]
            go_wp2_with (at_builtin; have _t := tok2; go_loud ((refine wpList_appAt rfl (.tmp 85) (.tmp 89) 50 rfl w6.heap.size 3 (.int .i64 0) 8 Try.underlying50 intsInfo rfl (by decide) _ k _ rfl (own_below HM8.out.1 ((Below.refl _ w8).alloc (Nat.le_refl _) _)) ⟨w8.heap.size, 0, none⟩ 1 1 [.int .i64 (s : Int)] rfl rfl (newRow1 w8 _ _) (fun u hu => by simp at hu; subst hu; rfl) (by omega) (by have := HB8.out.size; simp; omega) ?_; intro v10 w10 hown10 hgr10 hat10; have HM10 := Lib.hid (AllAt.more2 HR8.out HM8.out.1 (by have := HM8.out.2; rw [HM.out] at this; exact this) HF.out ((Below.refl _ w8).alloc (Nat.le_refl _) _) hgr10 (by rw [HSF2.out]; exact hown10) (by have := HQ.out; omega)); have HB10 : Hid (Below w6.heap.size w6 w10) := Lib.hid ((HB8.out.alloc HB8.out.size _).grown hgr10 (by have := HB8.out.size; simp; omega) (fun j hj => (World.ownsRow.lt HM8.out.1 j hj).1)); clear tok2 hown10 hgr10 hat10 _t)))
            exact ⟨⟨k + 1, _, by omega, by go_num, HM10.out, HB10.out⟩, by simp [intOf]; omega⟩
          · obtain rfl : k = q := by omega
            clear hlt
            have H := Lib.hid (H6.out.below HB.out)
            have HZ6 : Hid (w3.heap.size ≤ wo2.heap.size) := Lib.hid (Nat.le_trans HBW.out HB.out.size)
            go_wp2_with (fail)
            refine (mPower H.out HOK.out kp).mono ?_
            rintro e w8 ⟨F8, he, h8, hc8, hf8⟩
            obtain rfl : e = .returned (.int .i64 0) := he
            have HOK8 : Hid (FsOk (opPower d (fsOf F) kp).2.1 (fsOf F8)) := Lib.hid (by rw [hf8]; exact power_ok HOK.out kp)
            obtain ⟨d8, hd8⟩ : ∃ d8, d8 = (opPower d (fsOf F) kp).2.1 := ⟨_, rfl⟩
            rw [← hd8] at h8 HOK8
            have H8 := Lib.hid h8
            have HF8 : Hid (fsOf F8 = powFs kp (fsOf F)) := Lib.hid hf8
            have HLN : Hid (F8.length = F.length) := Lib.hid (by have h1 := congrArg List.length hf8; simpa [fsOf, powFs, opPower] using h1)
            have HAL8 := Lib.hid (HAL.out.ch hc8.ch (fun j hj => HFT6.out j hj))
            have HS8 := Lib.hid ((HS6.out.below HB.out).chS hc8.ch (fun b hb hd => by have h1 := HFT.out _ hd; have h2 := HA6.out b hb; omega))
            have HB8 : Hid (Below w.heap.size w w8) := Lib.hid (HB2'.out.trans ((DkCh.below H.out hc8 HZ6.out).mono HZ2.out))
            clear h8 hc8 hf8 hd8 HAL H HB
            go_wp2_with (fail)
            refine (dkNames2 H8.out (by have := HLN.out; have := HFL.out; have := HN.out; omega)).mono ?_
            rintro e w9 ⟨A9, c9, T9, rfl, hp9, hs9, hb9, _⟩
            have H9 := Lib.hid (H8.out.below hb9)
            have HAL9 := Lib.hid (HAL8.out.below hb9)
            have HS9 := Lib.hid (HS8.out.below hb9)
            have HB9 : Hid (Below w.heap.size w w9) := Lib.hid (HB8.out.trans (hb9.mono HB8.out.size))
            rw [show (List.mergeSort T9 fun x y => decide (x ≤ y)).length = k from by rw [sort_len, hp9.length_eq]; have := HLN.out; have := HZL.out; have := HQ.out; simp [nmsOf]; omega]
            clear hp9 hs9 hb9 H8 HAL8 HS8 HB8
            go_wp2_with (fail)
            go_loopw [106] (fun i wr => ∃ j : Nat, j ≤ k ∧ i = .int .i64 j ∧ Below w9.heap.size w9 wr) (fun i _ => k - (intOf i).toNat)
            case atStart => exact ⟨0, by omega, rfl, Below.refl _ _⟩
            case round =>
              obtain ⟨wo3, rfl⟩ : ∃ wo3 : World, wo3 = wr := ⟨_, rfl⟩
              obtain ⟨j, hj, rfl, hb⟩ := hrel
              have HB := Lib.hid hb
              have HBT : Hid (Below w.heap.size w wo3) := Lib.hid (HB9.out.trans (hb.mono HB9.out.size))
              clear hb
              by_cases hlt : j < k
              · as_aux_lemma =>
                obtain ⟨y, hy⟩ : ∃ y : ByteArray, y = txt (Z.getD j []) := ⟨_, rfl⟩
                obtain ⟨f, hf⟩ : ∃ f, f = flAt (fsOf F) (Z.getD j []) := ⟨_, rfl⟩
                have HFY : Hid (fget (fsOf F) y = some f) := Lib.hid (by rw [hy, hf]; exact flAt_some HNF.out (HM6.out j hlt))
                have hsl : f.safe ≤ f.bs.length := HOK.out.safe (y, f) (fget_mem HFY.out)
                have HFP : Hid (fget (fsOf F8) y = some (powFl kp f)) := Lib.hid (by rw [HF8.out, fget_pow, HFY.out]; rfl)
                obtain ⟨p1, p2, p3, p4, p5⟩ := powFl_len (k := kp) hsl
                have hsy : syncedOf (fsOf F8) y = (powN kp f : Int) := by unfold syncedOf; rw [HFP.out]; rfl
                have hbs : (powFl kp f).bs = f.bs.take (powN kp f) := rfl
                obtain ⟨N, hN⟩ : ∃ N, powN kp f = N := ⟨_, rfl⟩
                rw [hN] at p1 p2 p3 p4 p5 hsy hbs
                obtain ⟨g, _, hxs, hrow⟩ := (HAL9.out.below HB.out).at_ j hlt
                rw [← hf] at hxs hrow
                obtain ⟨ga, ca, rfl, hca, hcm, hcell⟩ := own_cell (HAL9.out.below HB.out).ra (by omega)
                obtain ⟨gs, cs, rfl, hcs, hcsm, hcells⟩ := own_cell (HAL9.out.below HB.out).rs (by omega)
                have hss : ((Z.take k).map (safeV (fsOf F)))[j]? = some (.int .i64 (f.safe : Int)) := by
                  rw [List.getElem?_map, List.getElem?_take, if_pos hlt, List.getElem?_eq_getElem (by have := HQ.out; omega)]
                  rw [hf, List.getD_eq_getElem?_getD, List.getElem?_eq_getElem (by have := HQ.out; omega)]
                  rfl
                obtain ⟨m, hm⟩ : ∃ m, f.bs.length = m := ⟨_, rfl⟩
                obtain ⟨s, hs⟩ : ∃ s, f.safe = s := ⟨_, rfl⟩
                have HCA := Lib.hid (hcell j _ hxs)
                have HCS := Lib.hid (hcells j _ hss)
                have HROW := Lib.hid hrow
                rw [hm] at HCA p3 p5
                rw [hs] at HCS p2 p4
                have hmax : m ≤ 1073741824 := by
                  obtain ⟨P, g3, v3, Q, e3, _⟩ := fget_mid HFY.out
                  have := HLF.out ⟨y, g3, v3, f⟩ (by rw [e3]; simp)
                  simp only at this; omega
                obtain ⟨b, o, rfl, _, hc⟩ := (HS9.out.below HB.out).read hlt
                have hc' : wo3.cell? ⟨b, o + j, none⟩ = some (.string y) := by rw [hy]; exact hc
                have H := Lib.hid (H9.out.below HB.out)
                have HSY := Lib.hid hsy
                have HBS := Lib.hid hbs
                have HP1 := Lib.hid p1
                have HM := Lib.hid hm
                clear hc hy hf hsy hbs hN hxs hrow hcell hcells hss hs hsl hm p1
                go_wp2_with (fail)
                clear hc'
                refine (dkRead_some H.out HOK8.out.dk.lens y _ HFP.out).mono ?_
                rintro e w10 ⟨g10, rfl, hg10, hr10, hb10⟩
                rw [HP1.out]
                rw [HBS.out] at hr10
                have H10 := Lib.hid (H.out.below hb10)
                have HB10 : Hid (Below w9.heap.size w9 w10) := Lib.hid (HB.out.trans (hb10.mono HB.out.size))
                have HBT10 : Hid (Below w.heap.size w w10) := Lib.hid (HBT.out.trans (hb10.mono HBT.out.size))
                have hrow10 := (hb10.block g (Array.getElem?_eq_some_iff.1 HROW.out).1).trans HROW.out
                have ca0 : w10.cell? ⟨ga, j, none⟩ = some (.slice (some ⟨g, 0, none⟩) m m) := (hb10.cell (p := ⟨ga, j, none⟩) (World.block_lt_of_cell? wo3 _ HCA.out)).trans HCA.out
                have cs0 : w10.cell? ⟨gs, j, none⟩ = some (.int .i64 (s : Int)) := (hb10.cell (p := ⟨gs, j, none⟩) (World.block_lt_of_cell? wo3 _ HCS.out)).trans HCS.out
                have HSYN : Hid (∀ q : Later w10, Calls Try.prog 19 #[pD D, .string y] q.u fun e w' => e = .returned (.int .i64 (N : Int)) ∧ q.u = w') := Lib.hid (fun q => by have h1 := dkSynced (H10.out.below q.h) y; rw [HSY.out] at h1; exact h1)
                have ca10 : ∀ q : Later w10, q.u.cell? ⟨ga, j, none⟩ = some (.slice (some ⟨g, 0, none⟩) m m) := fun q => (q.h.cell (p := ⟨ga, j, none⟩) (World.block_lt_of_cell? w10 _ ca0)).trans ca0
                have cs10 : ∀ q : Later w10, q.u.cell? ⟨gs, j, none⟩ = some (.int .i64 (s : Int)) := fun q => (q.h.cell (p := ⟨gs, j, none⟩) (World.block_lt_of_cell? w10 _ cs0)).trans cs0
                have hcv1 := fun q : Later w10 => ((Bs.block hr10 (n := N) (by rw [List.length_take, HM.out]; omega) (by unfold maxLen; omega)).below q.h).str (P := Try.prog) 26 5 9 Try.underlying26 Try.underlying5 Try.underlying9
                have hcv2 := fun q : Later w10 => ((Bs.of_block (n := N) (c := m) (cur := u8s f.bs) (l := f.bs.take N) hrow10 (by rw [List.length_take, HM.out, Nat.min_eq_left p3]; simp [u8s, List.map_take]) (by rw [List.length_take, HM.out]; omega) p3 (by unfold maxLen; omega)).below q.h).str (P := Try.prog) 26 5 9 Try.underlying26 Try.underlying5 Try.underlying9
                clear hg10 hr10 hb10 hrow10
                generalize txt (f.bs.take N) = X at *
                have hsl1 : ∀ W : World, (Instr.sliceAt 26 (.slice (some ⟨g, 0, none⟩) m m) none (some (.int .i64 (N : Int))) none).run Try.prog W = .ok (.slice (some ⟨g, 0, none⟩) N m) W := fun W => slice_front g N m p3 W
                have d1 : decide ((N : Int) < (s : Int)) = false := by simp; omega
                have d2 : decide ((m : Int) < (N : Int)) = false := by simp; omega
                have d3 : ¬ N < s := by omega
                have d4 : ¬ m < N := by omega
                have b1 : (N : Int) ≤ (m : Int) := by omega
                have HP := Lib.hid (And.intro p4 p5)
                clear p2 p3 p4 p5 ca0 cs0
                go_wp2_with (fail)
                simp only [List.append]
                refine region_later (by kernel_rfl) (by kernel_rfl) ?_
                repeat (go_big_quiet_step ((first | (go_at_call 19; exact Calls.later_same (HSYN.out _)))))
                clear hcv1 hcv2 hsl1 b1
                by_cases h0 : kp ≤ 0
                · have d5 : decide (kp ≤ 0) = true := by simpa using h0
                  have d7 : ((N : Int) != (s : Int)) = false := by rw [HP.out.1 h0]; simp
                  try rw [d5]
                  repeat (go_big_quiet_step (fail))
                  by_cases h1 : (m : Int) ≤ kp
                  · have d6 : decide ((m : Int) ≤ kp) = true := by simpa using h1
                    have d8 : ((N : Int) != (m : Int)) = false := by rw [HP.out.2 h1]; simp
                    try rw [d6]
                    repeat (go_big_quiet_step (fail))
                    refine wpQuiet_nil ?_
                    intro nq
                    go_wp2_with (fail)
                    exact ⟨⟨j + 1, by omega, by go_num, HB10.out.trans (nq.h.mono HB10.out.size)⟩, by simp [intOf]; omega⟩
                  · have d6 : decide ((m : Int) ≤ kp) = false := by simpa using h1
                    try rw [d6]
                    repeat (go_big_quiet_step (fail))
                    refine wpQuiet_nil ?_
                    intro nq
                    go_wp2_with (fail)
                    exact ⟨⟨j + 1, by omega, by go_num, HB10.out.trans (nq.h.mono HB10.out.size)⟩, by simp [intOf]; omega⟩
                · have d5 : decide (kp ≤ 0) = false := by simpa using h0
                  try rw [d5]
                  repeat (go_big_quiet_step (fail))
                  by_cases h1 : (m : Int) ≤ kp
                  · have d6 : decide ((m : Int) ≤ kp) = true := by simpa using h1
                    have d8 : ((N : Int) != (m : Int)) = false := by rw [HP.out.2 h1]; simp
                    try rw [d6]
                    repeat (go_big_quiet_step (fail))
                    refine wpQuiet_nil ?_
                    intro nq
                    go_wp2_with (fail)
                    exact ⟨⟨j + 1, by omega, by go_num, HB10.out.trans (nq.h.mono HB10.out.size)⟩, by simp [intOf]; omega⟩
                  · have d6 : decide ((m : Int) ≤ kp) = false := by simpa using h1
                    try rw [d6]
                    repeat (go_big_quiet_step (fail))
                    refine wpQuiet_nil ?_
                    intro nq
                    go_wp2_with (fail)
                    exact ⟨⟨j + 1, by omega, by go_num, HB10.out.trans (nq.h.mono HB10.out.size)⟩, by simp [intOf]; omega⟩
              · obtain rfl : j = k := by omega
                clear hlt
                go_wp2_with (fail)
                go_ret
                exact ⟨rfl, HBT.out⟩
  · clear H200
    go_wp2_with (fail)
    refine (dkAlive w2).mono ?_
    rintro e w3 ⟨rfl, hb3⟩
    have HB3 := Lib.hid (HB2.out.trans (hb3.mono HB2.out.size))
    clear hb3
    go_wp2_with (fail)
    go_ret
    exact ⟨rfl, HB3.out⟩
end Go.Proofs.Ytecmadodpkfnnab
