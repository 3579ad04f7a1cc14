/- CursorKeeps, walked. -/
import Derived.Test.YtolomfdommnklaaCurKeepsI
import Derived.Test.YtolomfdommnklaaOpenCacts
import Derived.Test.YtolomfdommnklaaDkNames
import Derived.Test.YtolomfdommnklaaHeldMore
namespace Go.Proofs.Ytolomfdommnklaa
open Go.RowKit Go.MapKept

set_option maxHeartbeats 8000000 in
set_option maxRecDepth 100000 in
theorem cursorKeeps_walk (n : Int) (A : Option Addr) (k c : Nat) (T : List CAct) (w : World) (_wn : (Lit.int .i64 n).wf = true) (hL : CAs w A k c T) : Calls Try.prog 6 #[.int .i64 n, .slice A k c] w (True_ w) := by
  have HL := Lib.hid hL
  have hmax : k ≤ 140737488351232 := hL.2.2.2.1
  clear hL
  go_enter Try.func6, Try.ntmps6
  go_wp2_with (fail)
  refine (curRoom n w).mono ?_
  rintro e w0 ⟨rfl, rfl⟩
  have HRM := Lib.hid (roomF_le n)
  generalize roomF n = R at *
  go_wp2_with (fail)
  refine (dkNew (R : Int) (by have := HRM.out; omega) w).mono ?_
  rintro e w1 ⟨D, M, rfl, h1, hb1⟩
  have hbx : Below w1.heap.size w1 (w1.alloc (.cells #[pD D] 35)) := (Below.refl _ _).alloc (Nat.le_refl _) _
  have H2 := Lib.hid (h1.below hbx)
  have HB2 : Hid (Below w.heap.size w (w1.alloc (.cells #[pD D] 35))) := Lib.hid (hb1.trans (hbx.mono hb1.size))
  have HX2 : Hid ((w1.alloc (.cells #[pD D] 35)).heap[w1.heap.size]? = some (.cells #[pD D] 35)) := Lib.hid (heap_alloc_new w1 _)
  have HOF2 : Hid (∀ q, DFoot D M [] q → q ≠ w1.heap.size) := Lib.hid (fun q hq => by have := (h1.foot_lt hq).2; omega)
  have HDB : Hid (w.heap.size ≤ w1.heap.size) := Lib.hid hb1.size
  clear hbx h1 hb1
  go_wp2_with (fail)
  generalize w1.alloc (.cells #[pD D] 35) = w2 at *
  obtain ⟨X, hX⟩ : ∃ X, X = w1.heap.size := ⟨_, rfl⟩
  rw [← hX] at HX2 HOF2 HDB ⊢
  clear hX
  refine (curAlive w2).mono ?_
  rintro e w3 ⟨rfl, hb3⟩
  have H3 := Lib.hid (H2.out.below hb3)
  have HX3 := Lib.hid ((hb3.block X (Array.getElem?_eq_some_iff.1 HX2.out).1).trans HX2.out)
  have HB3 : Hid (Below w.heap.size w w3) := Lib.hid (HB2.out.trans (hb3.mono HB2.out.size))
  have cX : w3.cell? ⟨X, 0, none⟩ = some (pD D) := cell_of_row _ _ 0 _ _ _ HX3.out
  clear hb3 H2 HX2 HB2
  by_cases hbig : 100 < k
  · have d1 : decide ((100 : Int) < (k : Int)) = true := by simp; omega
    go_wp2_with (fail)
    refine (curAlive w3).mono ?_
    rintro e w4 ⟨rfl, hb4⟩
    have HB4 : Hid (Below w.heap.size w w4) := Lib.hid (HB3.out.trans (hb4.mono HB3.out.size))
    clear hb4
    go_wp2_with (fail)
    go_ret
    exact ⟨rfl, HB4.out⟩
  have d1 : decide ((100 : Int) < (k : Int)) = false := by simp; omega
  have HN : Hid (k ≤ 100) := Lib.hid (by omega)
  clear hbig
  go_wp2_with (fail)
  clear cX d1
  go_loopw [42, 7] (fun i l wr => ∃ (j last : Nat) (d : Dk) (F : List Ent), j ≤ k ∧ i = .int .i64 j ∧ l = .int .i64 last ∧ DkAt wr w.heap.size D M d F ∧ KInv d (fsOf F) last j ∧ wr.heap[X]? = some (.cells #[pD D] 35) ∧ (∀ q, DFoot D M F q → q ≠ X) ∧ Below w.heap.size w wr) (fun i _ _ => k - (intOf i).toNat)
  case atStart =>
    exact ⟨0, 0, _, _, by omega, rfl, rfl, H3.out, KInv.new _ (by have := HRM.out; omega), HX3.out, HOF2.out, HB3.out⟩
  case round =>
    clear H3 HX3 HB3 HOF2
    obtain ⟨wo, rfl⟩ : ∃ wo : World, wo = wr := ⟨_, rfl⟩
    obtain ⟨j, last, d, F, hj, rfl, rfl, hd, hki, hx, hoff, hb⟩ := hrel
    have HKI := Lib.hid hki
    have HB := Lib.hid hb
    have HX := Lib.hid hx
    have HOF := Lib.hid hoff
    have HD := Lib.hid hd
    clear hd hki hx hoff hb
    by_cases hlt : j < k
    · as_aux_lemma =>
      obtain ⟨b, o, rfl, hxx⟩ := (HL.out.below HB.out).2.2.2.2 (by omega)
      obtain ⟨⟨kd, nn, kp⟩, hxk⟩ : ∃ x, T[j]? = some x := ⟨_, List.getElem?_eq_getElem (by have := HL.out.1; omega)⟩
      obtain ⟨⟨c0, c1, c2⟩, hfit⟩ := hxx j _ hxk
      have HFIT := Lib.hid hfit
      have hbo : Below wo.heap.size wo (wo.alloc (.cells #[.int .i64 kd, .int .i64 nn, .int .i64 kp] 44)) := (Below.refl _ _).alloc (Nat.le_refl _) _
      have H5 := Lib.hid (HD.out.below hbo)
      have HB5 : Hid (Below w.heap.size w (wo.alloc (.cells #[.int .i64 kd, .int .i64 nn, .int .i64 kp] 44))) := Lib.hid (HB.out.trans (hbo.mono HB.out.size))
      have HE5 : Hid ((wo.alloc (.cells #[.int .i64 kd, .int .i64 nn, .int .i64 kp] 44)).heap[wo.heap.size]? = some (.cells #[.int .i64 kd, .int .i64 nn, .int .i64 kp] 44)) := Lib.hid (heap_alloc_new wo _)
      have HX5 := Lib.hid ((hbo.block X (Array.getElem?_eq_some_iff.1 HX.out).1).trans HX.out)
      have e0 : (wo.alloc (.cells #[.int .i64 kd, .int .i64 nn, .int .i64 kp] 44)).cell? ⟨wo.heap.size, 0, none⟩ = some (.int .i64 kd) := cell_of_row _ _ 0 _ _ _ HE5.out
      have e1 : (wo.alloc (.cells #[.int .i64 kd, .int .i64 nn, .int .i64 kp] 44)).cell? ⟨wo.heap.size, 1, none⟩ = some (.int .i64 nn) := cell_of_row _ _ 1 _ _ _ HE5.out
      have e2 : (wo.alloc (.cells #[.int .i64 kd, .int .i64 nn, .int .i64 kp] 44)).cell? ⟨wo.heap.size, 2, none⟩ = some (.int .i64 kp) := cell_of_row _ _ 2 _ _ _ HE5.out
      have ex : (wo.alloc (.cells #[.int .i64 kd, .int .i64 nn, .int .i64 kp] 44)).cell? ⟨X, 0, none⟩ = some (pD D) := cell_of_row _ _ 0 _ _ _ HX5.out
      have HFT : Hid (∀ q, DFoot D M F q → q < wo.heap.size) := Lib.hid (fun q hq => (HD.out.foot_lt hq).2)
      have HWO : Hid (w.heap.size ≤ wo.heap.size) := Lib.hid HB.out.size
      clear hxx hxk hbo hfit HX HB HD
      by_cases k0 : kd = 0
      · subst k0
        have hmf : ∀ (fn : Fn) (first cap : Array Value) (w : World), (Instr.makeFunc fn first cap).run Try.prog w = .ok (.func fn first cap) w := fun _ _ _ _ => rfl
        go_wp2_with (fail)
        refine (curNum nn _).mono ?_
        rintro e w6 ⟨rfl, rfl⟩
        have HV := Lib.hid (numF_le nn)
        generalize numF nn = v at *
        generalize wo.alloc (.cells #[.int .i64 0, .int .i64 nn, .int .i64 kp] 44) = w5 at *
        have hby : Below w5.heap.size w5 (w5.alloc (.cells #[.int .i64 (v : Int)] 3)) := (Below.refl _ _).alloc (Nat.le_refl _) _
        have HY6 : Hid ((w5.alloc (.cells #[.int .i64 (v : Int)] 3)).heap[w5.heap.size]? = some (.cells #[.int .i64 (v : Int)] 3)) := Lib.hid (heap_alloc_new w5 _)
        have H6 := Lib.hid (H5.out.below hby)
        have HE6 := Lib.hid ((hby.block wo.heap.size (Array.getElem?_eq_some_iff.1 HE5.out).1).trans HE5.out)
        have HX6 := Lib.hid ((hby.block X (Array.getElem?_eq_some_iff.1 HX5.out).1).trans HX5.out)
        have HB6 : Hid (Below w.heap.size w (w5.alloc (.cells #[.int .i64 (v : Int)] 3))) := Lib.hid (HB5.out.trans (hby.mono HB5.out.size))
        have HE5L := Lib.hid (Array.getElem?_eq_some_iff.1 HE5.out).1
        have HY6L := Lib.hid (Array.getElem?_eq_some_iff.1 HY6.out).1
        have HX5L := Lib.hid (Array.getElem?_eq_some_iff.1 HX5.out).1
        go_wp2_with (fail)
        generalize w5.alloc (.cells #[.int .i64 (v : Int)] 3) = w6 at *
        have ex6 : w6.cell? ⟨X, 0, none⟩ = some (pD D) := cell_of_row _ _ 0 _ _ _ HX6.out
        have ey6 : w6.cell? ⟨w5.heap.size, 0, none⟩ = some (.int .i64 (v : Int)) := cell_of_row _ _ 0 _ _ _ HY6.out
        have HKS := Lib.hid (HKI.out.save (by have := HN.out; omega) HV.out)
        refine (saveDo H6.out HKI.out.ok (by have := HKI.out.ops; have := HN.out; omega) (v : Int) X w5.heap.size ex6 ey6 HB6.out.size).mono ?_
        clear c0 c1 c2 e0 e1 e2 ex ex6 ey6 hby
        rintro e w7 ⟨F7, he7, h7, hc7, hf7⟩
        have hX7 := hc7.ch.row HX6.out (fun hq => HOF.out _ hq rfl)
        have hY7 := hc7.ch.row HY6.out (fun hq => by have := HFT.out _ hq; have := HE5L.out; omega)
        have hE7 := hc7.ch.row HE6.out (fun hq => by have := HFT.out _ hq; omega)
        have HXL := Lib.hid (Array.getElem?_eq_some_iff.1 HX6.out).1
        have HB7 : Hid (Below w.heap.size w w7) := Lib.hid (HB6.out.trans (DkCh.below H6.out hc7 HB6.out.size))
        have hxl := HXL.out
        have HOF7 : Hid (∀ q, DFoot D M F7 q → q ≠ X) := Lib.hid (fun q hq => by
          rcases hq with hq | hq | hq
          · exact HOF.out q (.inl hq)
          · exact HOF.out q (.inr (.inl hq))
          · rcases hc7.foot q hq with h5 | h5
            · exact HOF.out q (.inr (.inr h5))
            · omega)
        clear hxl
        generalize hr : saveD d (fsOf F) nmC (v : Int) = r at *
        obtain ⟨x | op, d7, fs7⟩ := r
        · have HKI7 := Lib.hid (HKS.out.1 x rfl)
          dsimp only at h7 hf7 HKI7
          rw [he7, show endDo (Sum.inl x : Int ⊕ Int) = .returned (.tuple #[.int .i64 x, .agg #[.int .i64 0], .bool false]) from rfl]
          subst hf7
          have hbc : Below w7.heap.size w7 (w7.alloc (.cells #[.int .i64 0] 46)) := (Below.refl _ _).alloc (Nat.le_refl _) _
          have H9 := Lib.hid (h7.below hbc)
          have HX9 := Lib.hid ((hbc.block X (Array.getElem?_eq_some_iff.1 hX7).1).trans hX7)
          have HY9 := Lib.hid ((hbc.block w5.heap.size (Array.getElem?_eq_some_iff.1 hY7).1).trans hY7)
          have HE9 := Lib.hid ((hbc.block wo.heap.size (Array.getElem?_eq_some_iff.1 hE7).1).trans hE7)
          have HB9 : Hid (Below w.heap.size w (w7.alloc (.cells #[.int .i64 0] 46))) := Lib.hid (HB7.out.trans (hbc.mono HB7.out.size))
          have ex9 : (w7.alloc (.cells #[.int .i64 0] 46)).cell? ⟨X, 0, none⟩ = some (pD D) := cell_of_row _ _ 0 _ _ _ HX9.out
          have ey9 : (w7.alloc (.cells #[.int .i64 0] 46)).cell? ⟨w5.heap.size, 0, none⟩ = some (.int .i64 (v : Int)) := cell_of_row _ _ 0 _ _ _ HY9.out
          have ez9 : (w7.alloc (.cells #[.int .i64 0] 46)).cell? ⟨wo.heap.size, 2, none⟩ = some (.int .i64 kp) := cell_of_row _ _ 2 _ _ _ HE9.out
          have HOF9 := HOF7
          have HF7 := Lib.hid hc7.foot
          clear hbc hX7 hY7 hE7 h7 hc7 he7 H5 H6 HE5 HE6 HX5 HX6 HY6 HB5 HB6 HOF HKI hr HKS
          by_cases hx0 : x = 0
          · subst hx0
            rw [if_pos rfl] at HKI7
            have HKI9 := HKI7
            clear HKI7
            go_wp2_with (fail)
            generalize w7.alloc (.cells #[.int .i64 0] 46) = w9 at *
            clear ex9 ey9 ez9
            go_wp2_with (fail)
            have hl8 := (HKI9.out).load
            refine (curLoad H9.out (HKI9.out.ok.dk.lens) nmC).mono ?_
            rw [hl8]
            rintro e w8 ⟨rfl, hb8⟩
            have H8 := Lib.hid (H9.out.below hb8)
            have HX8 := Lib.hid ((hb8.block X (Array.getElem?_eq_some_iff.1 HX9.out).1).trans HX9.out)
            have HB8 : Hid (Below w.heap.size w w8) := Lib.hid (HB9.out.trans (hb8.mono HB9.out.size))
            clear hb8 hl8
            have nl : (((v : Nat) : Int) != ((v : Nat) : Int)) = false := by simp
            go_wp2_with (fail)
            exact ⟨⟨j + 1, v, _, _, by omega, by go_num, rfl, H8.out, HKI9.out, HX8.out, HOF9.out, HB8.out⟩, by simp [intOf]; omega⟩
          · rw [if_neg hx0] at HKI7
            have HKI9 := HKI7
            have nx : (x == 0) = false := by simpa using hx0
            clear HKI7
            go_wp2_with (fail)
            generalize w7.alloc (.cells #[.int .i64 0] 46) = w9 at *
            clear ex9 ey9 ez9 nx
            go_wp2_with (fail)
            have hl8 := (HKI9.out).load
            refine (curLoad H9.out (HKI9.out.ok.dk.lens) nmC).mono ?_
            rw [hl8]
            rintro e w8 ⟨rfl, hb8⟩
            have H8 := Lib.hid (H9.out.below hb8)
            have HX8 := Lib.hid ((hb8.block X (Array.getElem?_eq_some_iff.1 HX9.out).1).trans HX9.out)
            have HB8 : Hid (Below w.heap.size w w8) := Lib.hid (HB9.out.trans (hb8.mono HB9.out.size))
            clear hb8 hl8
            have nl : (((last : Nat) : Int) != ((last : Nat) : Int)) = false := by simp
            go_wp2_with (fail)
            exact ⟨⟨j + 1, last, _, _, by omega, by go_num, rfl, H8.out, HKI9.out, HX8.out, HOF9.out, HB8.out⟩, by simp [intOf]; omega⟩
        · obtain ⟨u, hu, hk7⟩ := HKS.out.2 op rfl
          have HKI7 := Lib.hid hk7
          clear hk7
          dsimp only at h7 hf7 HKI7
          rw [he7, show endDo (Sum.inr op : Int ⊕ Int) = .returned (.tuple #[.int .i64 0, .agg #[.int .i64 op], .bool true]) from rfl]
          subst hf7
          have hbc : Below w7.heap.size w7 (w7.alloc (.cells #[.int .i64 op] 46)) := (Below.refl _ _).alloc (Nat.le_refl _) _
          have H9 := Lib.hid (h7.below hbc)
          have HX9 := Lib.hid ((hbc.block X (Array.getElem?_eq_some_iff.1 hX7).1).trans hX7)
          have HY9 := Lib.hid ((hbc.block w5.heap.size (Array.getElem?_eq_some_iff.1 hY7).1).trans hY7)
          have HE9 := Lib.hid ((hbc.block wo.heap.size (Array.getElem?_eq_some_iff.1 hE7).1).trans hE7)
          have HB9 : Hid (Below w.heap.size w (w7.alloc (.cells #[.int .i64 op] 46))) := Lib.hid (HB7.out.trans (hbc.mono HB7.out.size))
          have ex9 : (w7.alloc (.cells #[.int .i64 op] 46)).cell? ⟨X, 0, none⟩ = some (pD D) := cell_of_row _ _ 0 _ _ _ HX9.out
          have ey9 : (w7.alloc (.cells #[.int .i64 op] 46)).cell? ⟨w5.heap.size, 0, none⟩ = some (.int .i64 (v : Int)) := cell_of_row _ _ 0 _ _ _ HY9.out
          have ez9 : (w7.alloc (.cells #[.int .i64 op] 46)).cell? ⟨wo.heap.size, 2, none⟩ = some (.int .i64 kp) := cell_of_row _ _ 2 _ _ _ HE9.out
          have HOF9 := HOF7
          have HF7 := Lib.hid hc7.foot
          clear hbc hX7 hY7 hE7 h7 hc7 he7 H5 H6 HE5 HE6 HX5 HX6 HY6 HB5 HB6 HOF HKI hr HKS
          go_wp2_with (fail)
          generalize w7.alloc (.cells #[.int .i64 op] 46) = w9 at *
          clear ex9 ey9 ez9
          refine (mPower H9.out HKI7.out.ok kp).mono ?_
          rintro e w12 ⟨F12, rfl, h12, hc12, hf12⟩
          have HKI12 := Lib.hid (HKI7.out.power kp)
          rw [← hf12] at HKI12
          generalize (opPower d7 (fsOf F7) kp).2.1 = d12 at *
          have H12 := Lib.hid h12
          have HX12 := Lib.hid (hc12.ch.row HX9.out (fun hq => HOF9.out _ hq rfl))
          have HY12 := Lib.hid (hc12.ch.row HY9.out (fun hq => by
            rcases hq with hq | hq | hq
            · have := HFT.out _ (.inl hq); have := HE5L.out; omega
            · have := HFT.out _ (.inr (.inl hq)); have := HE5L.out; omega
            · rcases HF7.out _ hq with h5 | h5
              · have := HFT.out _ (.inr (.inr h5)); have := HE5L.out; omega
              · have := HY6L.out; omega))
          have HB12 : Hid (Below w.heap.size w w12) := Lib.hid (HB9.out.trans (DkCh.below H9.out hc12 HB9.out.size))
          have hxl := (Array.getElem?_eq_some_iff.1 HX9.out).1
          have HOF12 : Hid (∀ q, DFoot D M F12 q → q ≠ X) := Lib.hid (fun q hq => by
            rcases hq with hq | hq | hq
            · exact HOF9.out q (.inl hq)
            · exact HOF9.out q (.inr (.inl hq))
            · rcases hc12.foot q hq with h5 | h5
              · exact HOF9.out q (.inr (.inr h5))
              · omega)
          clear hxl
          clear h12 hc12 hf12 H9 HX9 HY9 HE9 HB9 HOF9 HKI7
          dsimp only [endM, opPower]
          have ex12 : w12.cell? ⟨X, 0, none⟩ = some (pD D) := cell_of_row _ _ 0 _ _ _ HX12.out
          go_wp2_with (fail)
          clear ex12
          have hl13 := (HKI12.out).load
          refine (curLoad H12.out (HKI12.out.ok.dk.lens) nmC).mono ?_
          rw [hl13]
          rintro e w9 ⟨rfl, hb13⟩
          have H9 := Lib.hid (H12.out.below hb13)
          have HX9 := Lib.hid ((hb13.block X (Array.getElem?_eq_some_iff.1 HX12.out).1).trans HX12.out)
          have HY9 := Lib.hid ((hb13.block w5.heap.size (Array.getElem?_eq_some_iff.1 HY12.out).1).trans HY12.out)
          have HB9 : Hid (Below w.heap.size w w9) := Lib.hid (HB12.out.trans (hb13.mono HB12.out.size))
          have HOF9 := HOF12
          have HKI9 := HKI12
          clear hb13 hl13 H12 HX12 HY12 HB12 HOF12 HKI12
          have ex9 : w9.cell? ⟨X, 0, none⟩ = some (pD D) := cell_of_row _ _ 0 _ _ _ HX9.out
          have ey9 : w9.cell? ⟨w5.heap.size, 0, none⟩ = some (.int .i64 (v : Int)) := cell_of_row _ _ 0 _ _ _ HY9.out
          by_cases hul : u = last
          · subst hul
            have nl : (((u : Nat) : Int) != ((u : Nat) : Int)) = false := by simp
            go_wp2_with (fail)
            clear ex9 ey9 nl hu
            go_wp2_with (fail)
            have hl8 := (HKI9.out).load
            refine (curLoad H9.out (HKI9.out.ok.dk.lens) nmC).mono ?_
            rw [hl8]
            rintro e w8 ⟨rfl, hb8⟩
            have H8 := Lib.hid (H9.out.below hb8)
            have HX8 := Lib.hid ((hb8.block X (Array.getElem?_eq_some_iff.1 HX9.out).1).trans HX9.out)
            have HB8 : Hid (Below w.heap.size w w8) := Lib.hid (HB9.out.trans (hb8.mono HB9.out.size))
            clear hb8 hl8
            have nl : (((u : Nat) : Int) != ((u : Nat) : Int)) = false := by simp
            go_wp2_with (fail)
            exact ⟨⟨j + 1, u, _, _, by omega, by go_num, rfl, H8.out, HKI9.out, HX8.out, HOF9.out, HB8.out⟩, by simp [intOf]; omega⟩
          · have huv : u = v := by rcases hu with h | h; exact absurd h hul; exact h
            subst huv
            have nl1 : (((u : Nat) : Int) != ((last : Nat) : Int)) = true := by rw [bne_iff_ne]; intro e; exact hul (by omega)
            have nl : (((u : Nat) : Int) != ((u : Nat) : Int)) = false := by simp
            go_wp2_with (fail)
            clear ex9 ey9 nl nl1 hu
            go_wp2_with (fail)
            have hl8 := (HKI9.out).load
            refine (curLoad H9.out (HKI9.out.ok.dk.lens) nmC).mono ?_
            rw [hl8]
            rintro e w8 ⟨rfl, hb8⟩
            have H8 := Lib.hid (H9.out.below hb8)
            have HX8 := Lib.hid ((hb8.block X (Array.getElem?_eq_some_iff.1 HX9.out).1).trans HX9.out)
            have HB8 : Hid (Below w.heap.size w w8) := Lib.hid (HB9.out.trans (hb8.mono HB9.out.size))
            clear hb8 hl8
            have nl : (((u : Nat) : Int) != ((u : Nat) : Int)) = false := by simp
            go_wp2_with (fail)
            exact ⟨⟨j + 1, u, _, _, by omega, by go_num, rfl, H8.out, HKI9.out, HX8.out, HOF9.out, HB8.out⟩, by simp [intOf]; omega⟩
      by_cases k1 : kd = 1
      · subst k1
        go_wp2_with (fail)
        generalize wo.alloc (.cells #[.int .i64 1, .int .i64 nn, .int .i64 kp] 44) = w5 at *
        refine wp_region_held_drew (S := fun w' => w'.cell? ⟨X, 0, none⟩ = some (pD D) ∧ w'.cell? ⟨wo.heap.size, 1, none⟩ = some (.int .i64 nn)) (by kernel_rfl) ⟨ex, e1⟩ (fun hHeld => ?_)
        clear c0 c1 c2 e0 e1 e2 ex
        refine wpAnyH_take (i := 0) (oi := ⟨some 87, _, _, _, _, _⟩) (v := ?v1) rfl (by kernel_rfl) (by kernel_rfl) (by kernel_rfl) (fun _ _ _ h => h) (Or.inl ⟨by kernel_rfl, ?hy1⟩) hHeld ?rest1
        case hy1 =>
          intro w hSw
          (try dsimp only at hSw)
          go_simp
          (try with_reducible rfl)
        (try simp only [Act.put])
        refine wpAnyH_take (i := 1) (oi := ⟨some 88, _, _, _, _, _⟩) (v := ?v2) rfl (by kernel_rfl) (by kernel_rfl) (by kernel_rfl) (fun _ _ _ h => h) (Or.inl ⟨by kernel_rfl, ?hy2⟩) hHeld ?rest2
        case hy2 =>
          intro w hSw
          (try dsimp only at hSw)
          go_simp
          (try with_reducible rfl)
        (try simp only [Act.put])
        refine wpAnyH_take (i := 2) (oi := ⟨some 89, _, _, _, _, _⟩) (v := ?v3) rfl (by kernel_rfl) (by kernel_rfl) (by kernel_rfl) (fun _ _ _ h => h) (Or.inl ⟨by kernel_rfl, ?hy3⟩) hHeld ?rest3
        case hy3 =>
          intro w hSw
          (try dsimp only at hSw)
          go_simp
          (try with_reducible rfl)
        (try simp only [Act.put])
        refine wpAnyH_ready (rs := [3]) (by kernel_rfl) (by simp) (AllReadyH.cons (o := _) rfl (fun K hK => ?_) AllReadyH.nil)
        go_simp
        refine (curRoom nn _).mono ?_
        rintro e w' ⟨rfl, rfl⟩
        dsimp only
        refine hK.out _ _ hHeld (fun hHeld => ?_)
        clear hK K
        refine wpAnyH_ready (rs := [4]) (by kernel_rfl) (by simp) (AllReadyH.cons (o := _) rfl (fun K hK => ?_) AllReadyH.nil)
        go_simp
        have hr := roomF_le nn
        have HKQ := HKI.out.room (by have := HN.out; omega) (roomF nn : Int) (by omega)
        have hop : opSetRoom d (fsOf F) (roomF nn : Int) = (.inl 0, { d with room := (roomF nn : Int) }, fsOf F) := if_pos (by omega)
        refine (mSetRoom (H5.out.below ((Below.refl w5.heap.size w5).drew)) _).mono ?_
        rw [hop] at HKQ ⊢
        dsimp only at HKQ
        rintro e w6 ⟨F6, rfl, h6, hc6, hf6⟩
        dsimp only at h6 hf6
        have hc6 : DkCh D M F F6 w5 w6 := (DkCh.of_below ((Below.refl w5.heap.size w5).drew)).trans hc6
        have hE6 := hc6.ch.row HE5.out (fun hq => by have := HFT.out _ hq; omega)
        have e61 : w6.cell? ⟨wo.heap.size, 1, none⟩ = some (.int .i64 nn) := cell_of_row _ _ 1 _ _ _ hE6
        have HKI6 := Lib.hid ((HKQ).later (Nat.le_succ j))
        rw [← hf6] at HKI6
        have H6 := Lib.hid h6
        have HX6 := Lib.hid (hc6.ch.row HX5.out (fun hq => HOF.out _ hq rfl))
        have HB6 : Hid (Below w.heap.size w w6) := Lib.hid (HB5.out.trans (DkCh.below H5.out hc6 HB5.out.size))
        have HOF6 : Hid (∀ q, DFoot D M F6 q → q ≠ X) := Lib.hid (fun q hq => by
          have hxl := (Array.getElem?_eq_some_iff.1 HX5.out).1
          rcases hq with hq | hq | hq
          · exact HOF.out q (.inl hq)
          · exact HOF.out q (.inr (.inl hq))
          · rcases hc6.foot q hq with h5 | h5
            · exact HOF.out q (.inr (.inr h5))
            · omega)
        have ex6 : w6.cell? ⟨X, 0, none⟩ = some (pD D) := cell_of_row _ _ 0 _ _ _ HX6.out
        clear h6 hc6 hf6 H5 HX5 HB5 HOF HE5 HKI
        clear hop HKQ hE6
        dsimp only [endM]
        refine hK.out _ _ ⟨ex6, e61⟩ (fun hHeld => ?_)
        clear hK K
        refine wpAnyH_done (by kernel_rfl) ?_ _
        go_wp2_with (fail)
        have hl8 := (HKI6.out).load
        refine (curLoad H6.out (HKI6.out.ok.dk.lens) nmC).mono ?_
        rw [hl8]
        rintro e w8 ⟨rfl, hb8⟩
        have H8 := Lib.hid (H6.out.below hb8)
        have HX8 := Lib.hid ((hb8.block X (Array.getElem?_eq_some_iff.1 HX6.out).1).trans HX6.out)
        have HB8 : Hid (Below w.heap.size w w8) := Lib.hid (HB6.out.trans (hb8.mono HB6.out.size))
        clear hb8 hl8
        have nl : (((last : Nat) : Int) != ((last : Nat) : Int)) = false := by simp
        go_wp2_with (fail)
        exact ⟨⟨j + 1, last, _, _, by omega, by go_num, rfl, H8.out, HKI6.out, HX8.out, HOF6.out, HB8.out⟩, by simp [intOf]; omega⟩
      by_cases k2 : kd = 2
      · have k2 := k2
        subst k2
        go_wp2_with (fail)
        generalize wo.alloc (.cells #[.int .i64 2, .int .i64 nn, .int .i64 kp] 44) = w5 at *
        clear c0 c1 c2 e0 e1 e2 ex
        have HKQ := HKI.out.fail (by have := HN.out; omega) (max 1 nn) (by have := HFIT.out.n; simp only at this; omega)
        have hop : opFail d (fsOf F) (max 1 nn) = (.inl 0, { d with failIn := max 1 nn }, fsOf F) := if_neg (by omega)
        refine (mFail H5.out (max 1 nn)).mono ?_
        rw [hop] at HKQ ⊢
        dsimp only at HKQ
        rintro e w6 ⟨F6, rfl, h6, hc6, hf6⟩
        dsimp only at h6 hf6
        have HKI6 := Lib.hid ((HKQ).later (Nat.le_succ j))
        rw [← hf6] at HKI6
        have H6 := Lib.hid h6
        have HX6 := Lib.hid (hc6.ch.row HX5.out (fun hq => HOF.out _ hq rfl))
        have HB6 : Hid (Below w.heap.size w w6) := Lib.hid (HB5.out.trans (DkCh.below H5.out hc6 HB5.out.size))
        have HOF6 : Hid (∀ q, DFoot D M F6 q → q ≠ X) := Lib.hid (fun q hq => by
          have hxl := (Array.getElem?_eq_some_iff.1 HX5.out).1
          rcases hq with hq | hq | hq
          · exact HOF.out q (.inl hq)
          · exact HOF.out q (.inr (.inl hq))
          · rcases hc6.foot q hq with h5 | h5
            · exact HOF.out q (.inr (.inr h5))
            · omega)
        have ex6 : w6.cell? ⟨X, 0, none⟩ = some (pD D) := cell_of_row _ _ 0 _ _ _ HX6.out
        clear h6 hc6 hf6 H5 HX5 HB5 HOF HE5 HKI
        clear hop HKQ
        go_wp2_with (fail)
        have hl8 := (HKI6.out).load
        refine (curLoad H6.out (HKI6.out.ok.dk.lens) nmC).mono ?_
        rw [hl8]
        rintro e w8 ⟨rfl, hb8⟩
        have H8 := Lib.hid (H6.out.below hb8)
        have HX8 := Lib.hid ((hb8.block X (Array.getElem?_eq_some_iff.1 HX6.out).1).trans HX6.out)
        have HB8 : Hid (Below w.heap.size w w8) := Lib.hid (HB6.out.trans (hb8.mono HB6.out.size))
        clear hb8 hl8
        have nl : (((last : Nat) : Int) != ((last : Nat) : Int)) = false := by simp
        go_wp2_with (fail)
        exact ⟨⟨j + 1, last, _, _, by omega, by go_num, rfl, H8.out, HKI6.out, HX8.out, HOF6.out, HB8.out⟩, by simp [intOf]; omega⟩
      by_cases k3 : kd = 3
      · have k3 := k3
        subst k3
        go_wp2_with (fail)
        generalize wo.alloc (.cells #[.int .i64 3, .int .i64 nn, .int .i64 kp] 44) = w5 at *
        clear c0 c1 c2 e0 e1 e2 ex
        have HKQ := HKI.out.arm (by have := HN.out; omega) (max 1 nn) kp (by have := HFIT.out.n; simp only at this; omega) (by have := HFIT.out.k; simpa using this)
        have hop : opArm d (fsOf F) (max 1 nn) kp = (.inl 0, { d with armedIn := max 1 nn, armKeep := kp }, fsOf F) := if_neg (by omega)
        refine (mArm H5.out (max 1 nn) kp).mono ?_
        rw [hop] at HKQ ⊢
        dsimp only at HKQ
        rintro e w6 ⟨F6, rfl, h6, hc6, hf6⟩
        dsimp only at h6 hf6
        have HKI6 := Lib.hid ((HKQ).later (Nat.le_succ j))
        rw [← hf6] at HKI6
        have H6 := Lib.hid h6
        have HX6 := Lib.hid (hc6.ch.row HX5.out (fun hq => HOF.out _ hq rfl))
        have HB6 : Hid (Below w.heap.size w w6) := Lib.hid (HB5.out.trans (DkCh.below H5.out hc6 HB5.out.size))
        have HOF6 : Hid (∀ q, DFoot D M F6 q → q ≠ X) := Lib.hid (fun q hq => by
          have hxl := (Array.getElem?_eq_some_iff.1 HX5.out).1
          rcases hq with hq | hq | hq
          · exact HOF.out q (.inl hq)
          · exact HOF.out q (.inr (.inl hq))
          · rcases hc6.foot q hq with h5 | h5
            · exact HOF.out q (.inr (.inr h5))
            · omega)
        have ex6 : w6.cell? ⟨X, 0, none⟩ = some (pD D) := cell_of_row _ _ 0 _ _ _ HX6.out
        clear h6 hc6 hf6 H5 HX5 HB5 HOF HE5 HKI
        clear hop HKQ
        go_wp2_with (fail)
        have hl8 := (HKI6.out).load
        refine (curLoad H6.out (HKI6.out.ok.dk.lens) nmC).mono ?_
        rw [hl8]
        rintro e w8 ⟨rfl, hb8⟩
        have H8 := Lib.hid (H6.out.below hb8)
        have HX8 := Lib.hid ((hb8.block X (Array.getElem?_eq_some_iff.1 HX6.out).1).trans HX6.out)
        have HB8 : Hid (Below w.heap.size w w8) := Lib.hid (HB6.out.trans (hb8.mono HB6.out.size))
        clear hb8 hl8
        have nl : (((last : Nat) : Int) != ((last : Nat) : Int)) = false := by simp
        go_wp2_with (fail)
        exact ⟨⟨j + 1, last, _, _, by omega, by go_num, rfl, H8.out, HKI6.out, HX8.out, HOF6.out, HB8.out⟩, by simp [intOf]; omega⟩
      have n0 : (kd == 0) = false := by simpa using k0
      have n1 : (kd == 1) = false := by simpa using k1
      have n2 : (kd == 2) = false := by simpa using k2
      have n3 : (kd == 3) = false := by simpa using k3
      clear k0 k1 k2 k3
      by_cases k4 : kd = 4
      · have k4 := k4
        subst k4
        go_wp2_with (fail)
        generalize wo.alloc (.cells #[.int .i64 4, .int .i64 nn, .int .i64 kp] 44) = w5 at *
        clear c0 c1 c2 e0 e1 e2 ex
        refine (mPower H5.out HKI.out.ok kp).mono ?_
        rintro e w6 ⟨F6, rfl, h6, hc6, hf6⟩
        have HKI6 := Lib.hid ((HKI.out.power kp).later (Nat.le_succ j))
        rw [← hf6] at HKI6
        generalize (opPower d (fsOf F) kp).2.1 = d6 at *
        have H6 := Lib.hid h6
        have HX6 := Lib.hid (hc6.ch.row HX5.out (fun hq => HOF.out _ hq rfl))
        have HB6 : Hid (Below w.heap.size w w6) := Lib.hid (HB5.out.trans (DkCh.below H5.out hc6 HB5.out.size))
        have HOF6 : Hid (∀ q, DFoot D M F6 q → q ≠ X) := Lib.hid (fun q hq => by
          have hxl := (Array.getElem?_eq_some_iff.1 HX5.out).1
          rcases hq with hq | hq | hq
          · exact HOF.out q (.inl hq)
          · exact HOF.out q (.inr (.inl hq))
          · rcases hc6.foot q hq with h5 | h5
            · exact HOF.out q (.inr (.inr h5))
            · omega)
        have ex6 : w6.cell? ⟨X, 0, none⟩ = some (pD D) := cell_of_row _ _ 0 _ _ _ HX6.out
        clear h6 hc6 hf6 H5 HX5 HB5 HOF HE5 HKI
        go_wp2_with (fail)
        have hl8 := (HKI6.out).load
        refine (curLoad H6.out (HKI6.out.ok.dk.lens) nmC).mono ?_
        rw [hl8]
        rintro e w8 ⟨rfl, hb8⟩
        have H8 := Lib.hid (H6.out.below hb8)
        have HX8 := Lib.hid ((hb8.block X (Array.getElem?_eq_some_iff.1 HX6.out).1).trans HX6.out)
        have HB8 : Hid (Below w.heap.size w w8) := Lib.hid (HB6.out.trans (hb8.mono HB6.out.size))
        clear hb8 hl8
        have nl : (((last : Nat) : Int) != ((last : Nat) : Int)) = false := by simp
        go_wp2_with (fail)
        exact ⟨⟨j + 1, last, _, _, by omega, by go_num, rfl, H8.out, HKI6.out, HX8.out, HOF6.out, HB8.out⟩, by simp [intOf]; omega⟩
      · have n4 : (kd == 4) = false := by simpa using k4
        clear k4
        go_wp2_with (fail)
        generalize wo.alloc (.cells #[.int .i64 kd, .int .i64 nn, .int .i64 kp] 44) = w5 at *
        clear c0 c1 c2 e0 e1 e2
        have HKI5 := Lib.hid (HKI.out.later (Nat.le_succ j))
        have HOF5 := HOF
        go_wp2_with (fail)
        have hl8 := (HKI5.out).load
        refine (curLoad H5.out (HKI5.out.ok.dk.lens) nmC).mono ?_
        rw [hl8]
        rintro e w8 ⟨rfl, hb8⟩
        have H8 := Lib.hid (H5.out.below hb8)
        have HX8 := Lib.hid ((hb8.block X (Array.getElem?_eq_some_iff.1 HX5.out).1).trans HX5.out)
        have HB8 : Hid (Below w.heap.size w w8) := Lib.hid (HB5.out.trans (hb8.mono HB5.out.size))
        clear hb8 hl8
        have nl : (((last : Nat) : Int) != ((last : Nat) : Int)) = false := by simp
        go_wp2_with (fail)
        exact ⟨⟨j + 1, last, _, _, by omega, by go_num, rfl, H8.out, HKI5.out, HX8.out, HOF5.out, HB8.out⟩, by simp [intOf]; omega⟩
    · obtain rfl : j = k := by omega
      have HB' := HB
      clear hlt
      go_wp2_with (fail)
      go_ret
      exact ⟨rfl, HB'.out⟩
end Go.Proofs.Ytolomfdommnklaa
