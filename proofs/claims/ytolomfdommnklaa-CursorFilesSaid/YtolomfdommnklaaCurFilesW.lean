/- CursorFiles, walked. -/
import Derived.Test.YtolomfdommnklaaCurFilesM
import Derived.Test.YtolomfdommnklaaOpenPairs
import Derived.Test.YtolomfdommnklaaDkNames
namespace Go.Proofs.Ytolomfdommnklaa
open Go.RowKit Go.MapKept

/-- the number of a name -/
def idxF (x : Int) : Nat := (IntKind.u64.wrap x % 4).toNat
theorem idxF_lt (x : Int) : idxF x < 4 := by
  have h0 : 0 ≤ IntKind.u64.wrap x := by simp [IntKind.wrap, IntKind.bits, IntKind.signed]; omega
  unfold idxF; omega
abbrev row4 : Array Value := #[.string ⟨#[97]⟩, .string ⟨#[98]⟩, .string ⟨#[99, 49]⟩, .string ⟨#[100, 46, 120]⟩]
theorem row4_at (j : Nat) (hj : j < 4) : row4[j]? = some (.string (nms4.getD j ⟨#[]⟩)) := by
  have h : j = 0 ∨ j = 1 ∨ j = 2 ∨ j = 3 := by omega
  rcases h with rfl | rfl | rfl | rfl <;> rfl
set_option maxHeartbeats 8000000 in
set_option maxRecDepth 100000 in
theorem cursorFiles_walk (A : Option Addr) (n c : Nat) (T : List (Int × Int)) (w : World) (hL : Ps2 w A n c T) : Calls Try.prog 8 #[.slice A n c] w (True_ w) := by
  have HL := Lib.hid hL
  have hn : n ≤ 140737488351232 := hL.2.2.2.1
  clear hL
  go_enter Try.func8, Try.ntmps8
  go_wp2_with (fail)
  refine (dkNew 1073741824 (by decide) w).mono ?_
  rintro e w1 ⟨D, M, rfl, h1, hb1⟩
  have H1 := Lib.hid h1
  have HB1 := Lib.hid hb1
  clear h1 hb1
  go_wp2_with (fail)
  refine (curAlive w1).mono ?_
  rintro e w2 ⟨rfl, hb2⟩
  have H2 := Lib.hid (H1.out.below hb2)
  have HB2 : Hid (Below w.heap.size w w2) := Lib.hid (HB1.out.trans (hb2.mono HB1.out.size))
  clear hb2
  by_cases hbig : 60 < n
  · have d1 : decide ((60 : Int) < (n : Int)) = true := by simp; omega
    go_wp2_with (fail)
    refine (curAlive w2).mono ?_
    rintro e w3 ⟨rfl, hb3⟩
    have HB3 : Hid (Below w.heap.size w w3) := Lib.hid (HB2.out.trans (hb3.mono HB2.out.size))
    clear hb3
    go_wp2_with (fail)
    go_ret
    exact ⟨rfl, HB3.out⟩
  have d1 : decide ((60 : Int) < (n : Int)) = false := by simp; omega
  have HN : Hid (n ≤ 60) := Lib.hid (by omega)
  clear hbig
  have hmm := @run_makeMap Try.prog
  have hbw : Below w.heap.size w ((w2.alloc (.cells row4 9)).alloc (.map #[] 0)) := (HB2.out.alloc HB2.out.size _).alloc (by have := HB2.out.size; simp; omega) _
  have HB4 : Hid (Below w.heap.size w ((w2.alloc (.cells row4 9)).alloc (.map #[] 0))) := Lib.hid hbw
  have hb24 : Below w2.heap.size w2 ((w2.alloc (.cells row4 9)).alloc (.map #[] 0)) := ((Below.refl _ _).alloc (Nat.le_refl _) _).alloc (by simp) _
  have H4 : Hid (DkAt ((w2.alloc (.cells row4 9)).alloc (.map #[] 0)) w.heap.size D M ⟨1073741824, 0, 0, 0, 0, 0⟩ []) := Lib.hid (H2.out.below hb24)
  have HR4 : Hid (((w2.alloc (.cells row4 9)).alloc (.map #[] 0)).heap[w2.heap.size]? = some (.cells row4 9)) := Lib.hid (by
    have h1 := heap_alloc_new w2 (.cells row4 9)
    exact (((Below.refl (w2.alloc (.cells row4 9)).heap.size _).alloc (Nat.le_refl _) (.map #[] 0)).block _ (by simp)).trans h1)
  have HM4 : Hid (MapIs (.string) ((w2.alloc (.cells row4 9)).alloc (.map #[] 0)) (w2.heap.size + 1) ([] : List (ByteArray × Value))) := Lib.hid (by have t := MapIs.new (.string) (w2.alloc (.cells row4 9)) (κ := ByteArray); rw [World.size_alloc] at t; exact t)
  have HDM : Hid (D < w2.heap.size ∧ M < w2.heap.size) := Lib.hid ⟨H2.out.lt, H2.out.map.lt⟩
  clear hbw hb24
  have HZ4 : Hid (w2.heap.size + 2 ≤ ((w2.alloc (.cells row4 9)).alloc (.map #[] 0)).heap.size) := Lib.hid (by simp)
  have HWZ : Hid (w.heap.size ≤ w2.heap.size) := Lib.hid HB2.out.size
  go_wp2_with (fail)
  generalize (w2.alloc (.cells row4 9)).alloc (.map #[] 0) = w4 at *
  obtain ⟨G, hG⟩ : ∃ G, G = w2.heap.size := ⟨_, rfl⟩
  rw [← hG] at HR4 HM4 HDM HZ4 HWZ ⊢
  clear hG hmm
  go_loopw [38] (fun i wr => ∃ (k : Nat) (d : Dk) (F : List Ent) (L : List (ByteArray × Value)), k ≤ n ∧ i = .int .i64 k ∧ DkAt wr w.heap.size D M d F ∧ CF d (fsOf F) L k ∧ MapIs (.string) wr (G + 1) L ∧ wr.heap[G]? = some (.cells row4 9) ∧ (∀ j, DFoot D M F j → j ≠ G ∧ j ≠ G + 1) ∧ Below w.heap.size w wr ∧ G + 2 ≤ wr.heap.size) (fun i _ => n - (intOf i).toNat)
  case atStart =>
    refine ⟨0, _, _, _, by omega, rfl, H4.out, CF.new, HM4.out, HR4.out, fun j hj => ?_, HB4.out, HZ4.out⟩
    have hdm := HDM.out
    rcases hj with rfl | rfl | ⟨e, he, _⟩
    · omega
    · omega
    · cases he
  case round =>
    clear H4 HM4 HR4 HB4 HZ4
    obtain ⟨wo, rfl⟩ : ∃ wo : World, wo = wr := ⟨_, rfl⟩
    obtain ⟨k, d, F, L, hk, rfl, hd, hcf, hmap, hrow, hoff, hb, hz⟩ := hrel
    have HCF := Lib.hid hcf
    have HB := Lib.hid hb
    have HZ := Lib.hid hz
    have HMP := Lib.hid hmap
    have HRW := Lib.hid hrow
    have HOF := Lib.hid hoff
    have HD := Lib.hid hd
    clear hd hcf hmap hrow hoff hb hz
    by_cases hlt : k < n
    · as_aux_lemma =>
      obtain ⟨b, o, rfl, hx⟩ := (HL.out.below HB.out).2.2.2.2 (by omega)
      obtain ⟨⟨x1, x2⟩, hxk⟩ : ∃ x, T[k]? = some x := ⟨_, List.getElem?_eq_getElem (by have := HL.out.1; omega)⟩
      obtain ⟨c0, c1⟩ := hx k _ hxk
      obtain ⟨nm, hnm⟩ : ∃ nm, nm = nms4.getD (idxF x1) ⟨#[]⟩ := ⟨_, rfl⟩
      have HNM := Lib.hid hnm
      have HJ := Lib.hid (idxF_lt x1)
      have h0 : 0 ≤ IntKind.u64.wrap x1 := by simp [IntKind.wrap, IntKind.bits, IntKind.signed]; omega
      have e1 : (IntKind.u64.wrap x1).tmod 4 = (idxF x1 : Int) := by rw [Int.tmod_eq_emod_of_nonneg h0]; unfold idxF; omega
      have e2 : wrap64 (idxF x1 : Int) = (idxF x1 : Int) := IntWalk.wrap64_in _ (by have := idxF_lt x1; omega)
      have e3 : (idxF x1 : Int) < 4 := by have := idxF_lt x1; omega
      have hbo : Below wo.heap.size wo (wo.alloc (.cells #[.int .i64 x1, .int .i64 x2] 70)) := (Below.refl _ _).alloc (Nat.le_refl _) _
      have cg : (wo.alloc (.cells #[.int .i64 x1, .int .i64 x2] 70)).cell? ⟨G, idxF x1, none⟩ = some (.string nm) := by
        rw [cell_of_row _ _ _ _ _ _ ((hbo.block G (Array.getElem?_eq_some_iff.1 HRW.out).1).trans HRW.out), hnm]
        exact row4_at _ (idxF_lt x1)
      have H5 := Lib.hid (HD.out.below hbo)
      have HB5 : Hid (Below w.heap.size w (wo.alloc (.cells #[.int .i64 x1, .int .i64 x2] 70))) := Lib.hid (HB.out.trans (hbo.mono HB.out.size))
      have HX5 : Hid ((wo.alloc (.cells #[.int .i64 x1, .int .i64 x2] 70)).heap[wo.heap.size]? = some (.cells #[.int .i64 x1, .int .i64 x2] 70)) := Lib.hid (heap_alloc_new wo _)
      have HMP5 := Lib.hid (HMP.out.below hbo)
      have HRW5 := Lib.hid ((hbo.block G (Array.getElem?_eq_some_iff.1 HRW.out).1).trans HRW.out)
      have HFT : Hid (∀ j, DFoot D M F j → j < wo.heap.size) := Lib.hid (fun j hj => (HD.out.foot_lt hj).2)
      have HWO : Hid (w.heap.size ≤ wo.heap.size) := Lib.hid HB.out.size
      clear hx hxk hbo h0 hnm
      go_wp2_with (fail)
      generalize wo.alloc (.cells #[.int .i64 x1, .int .i64 x2] 70) = w5 at *
      clear c0 c1 cg e1 e2 e3
      refine (curNum x2 w5).mono ?_
      rintro e w6 ⟨rfl, rfl⟩
      have HV := Lib.hid (numF_le x2)
      obtain ⟨v, hv⟩ : ∃ v, v = numF x2 := ⟨_, rfl⟩
      have HVE := Lib.hid hv
      rw [← hv] at HV ⊢
      clear hv
      go_wp2_with (fail)
      obtain ⟨d6, fs6, hs6, hcf6⟩ := CF.step HCF.out HJ.out HV.out (by have := HN.out; omega)
      rw [← HNM.out] at hs6 hcf6
      have hn5 : nm.size ≤ 3 := by rw [HNM.out]; exact (nms4_right _ HJ.out).2.2.2.2
      refine (curSave H5.out HCF.out.ok (by have h1 := HCF.out.ops; have := HN.out; omega) nm (by omega) (v : Int) HB5.out.size).mono ?_
      rw [hs6]
      rintro e w6 ⟨F6, he, h6, hc6, hf6⟩
      obtain rfl : e = .returned (.int .i64 0) := he
      obtain rfl : fsOf F6 = fs6 := hf6
      have H6 := Lib.hid h6
      have HCF6 := Lib.hid hcf6
      have HB6 : Hid (Below w.heap.size w w6) := Lib.hid (HB5.out.trans (DkCh.below H5.out hc6 HB5.out.size))
      have HX6 : Hid (w6.heap[wo.heap.size]? = some (.cells #[.int .i64 x1, .int .i64 x2] 70)) := Lib.hid (hc6.ch.row HX5.out (fun hq => by have := HFT.out _ hq; omega))
      have HMP6 := Lib.hid (HMP5.out.ch hc6.ch (fun hq => (HOF.out _ hq).2 rfl))
      have HRW6 := Lib.hid (hc6.ch.row HRW5.out (fun hq => (HOF.out _ hq).1 rfl))
      have HZ6 : Hid (G + 2 ≤ w6.heap.size) := Lib.hid (by have h1 := hc6.ch.size; have h2 := (Array.getElem?_eq_some_iff.1 HX5.out).1; have := HZ.out; omega)
      have HOF6 : Hid (∀ j, DFoot D M F6 j → j ≠ G ∧ j ≠ G + 1) := Lib.hid (fun j hj => by
        rcases hj with hj | hj | hj
        · exact HOF.out j (.inl hj)
        · exact HOF.out j (.inr (.inl hj))
        · rcases hc6.foot j hj with h1 | h1
          · exact HOF.out j (.inr (.inr h1))
          · have h2 := (Array.getElem?_eq_some_iff.1 HX5.out).1
            have := HZ.out
            omega)
      clear h6 hc6 hcf6 hs6 hn5
      have q1 : w6.cell? ⟨wo.heap.size, 1, none⟩ = some (.int .i64 x2) := cell_of_row _ _ 1 _ _ _ HX6.out
      go_wp2_with (fail)
      clear q1
      refine (curNum x2 w6).mono ?_
      rintro e w7 ⟨rfl, rfl⟩
      rw [← HVE.out]
      have tok1 : Hid True := Lib.hid trivial
      go_wp2_with (have _t := tok1; refine wpList_updateL rfl (keyString Try.underlying9) (.tmp 57) (.tmp 58) (.tmp 61) 69 3 (.inl rfl) Try.underlying69 (G + 1) L rfl HMP6.out nm rfl (.int .i64 (v : Int)) rfl ?_; intro w7 hm7 hch7 hsz7; have HM7 := Lib.hid hm7; have HC7 := Lib.hid hch7; have HS7 := Lib.hid hsz7; clear tok1 hm7 hch7 hsz7 _t)
      refine ⟨⟨k + 1, d6, F6, _, by omega, by go_num, H6.out.ch HC7.out (fun j hj hq => (HOF6.out j hj).2 hq), HCF6.out, HM7.out, HC7.out.row HRW6.out (fun hq => by omega), HOF6.out, HB6.out.trans (HC7.out.below (fun j hj => by have hj : j = G + 1 := hj; have := HWZ.out; omega) HB6.out.size), by have := HS7.out; have := HZ6.out; omega⟩, by simp [intOf]; omega⟩
    · obtain rfl : k = n := by omega
      clear hlt
      have hFL : F.length = L.length := by have h1 := HCF.out.len; simpa [fsOf] using h1
      obtain ⟨q, hq⟩ : ∃ q, q = L.length := ⟨_, rfl⟩
      have HQ := Lib.hid hq
      have HQ60 : Hid (q ≤ 60) := Lib.hid (by have h1 := HCF.out.le; have := HN.out; omega)
      have HFL : Hid (F.length = q) := Lib.hid (by omega)
      have HU : Hid (d.used = 12 * (q : Int)) := Lib.hid (by rw [HCF.out.used, hq])
      clear hFL hq
      have HRB : Hid (∀ W, Below wo.heap.size wo W → W.heap[G]? = some (.cells row4 9)) := Lib.hid (fun W hW => (hW.block G (Array.getElem?_eq_some_iff.1 HRW.out).1).trans HRW.out)
      go_wp2_with (fail)
      go_loopw [65] (fun i wr => ∃ j : Nat, j ≤ 4 ∧ i = .int .i64 j ∧ Below wo.heap.size wo wr) (fun i _ => 4 - (intOf i).toNat)
      case atStart => exact ⟨0, by omega, rfl, Below.refl _ _⟩
      case round =>
        obtain ⟨wo2, rfl⟩ : ∃ wo2 : World, wo2 = wr := ⟨_, rfl⟩
        obtain ⟨j, hj, rfl, hb⟩ := hrel
        have HBB := Lib.hid hb
        have HBW : Hid (Below w.heap.size w wo2) := Lib.hid (HB.out.trans (hb.mono HB.out.size))
        clear hb
        by_cases h4 : j < 4
        · as_aux_lemma =>
          obtain ⟨nm, hnm⟩ : ∃ nm, nm = nms4.getD j ⟨#[]⟩ := ⟨_, rfl⟩
          have cg : wo2.cell? ⟨G, j, none⟩ = some (.string nm) := by
            rw [cell_of_row _ _ _ _ _ _ (HRB.out wo2 HBB.out), hnm]
            exact row4_at j h4
          obtain ⟨v, hld, hag⟩ := HCF.out.load nm
          have HLD := Lib.hid hld
          have HAG := Lib.hid hag
          clear hnm hld hag
          go_wp2_with (fail)
          clear cg
          refine (curLoad (HD.out.below HBB.out) HCF.out.ok.dk.lens nm).mono ?_
          rw [HLD.out]
          rintro e w8 ⟨rfl, hb8⟩
          have HB8 : Hid (Below wo.heap.size wo w8) := Lib.hid (HBB.out.trans (hb8.mono HBB.out.size))
          have hlk : (Instr.lookup 69 (.map (some (G + 1))) (.string nm) false).run Try.prog w8 = .ok (.int .i64 (v : Int)) w8 := by
            have := run_lookupL (keyString Try.underlying9) 69 3 Try.underlying69 w8 (G + 1) L (HMP.out.below HB8.out) nm (.int .i64 0) (by kernel_rfl) false
            rw [HAG.out] at this
            exact this
          clear hb8
          go_wp2_with (fail)
          exact ⟨⟨j + 1, by omega, by go_num, HB8.out⟩, by simp [intOf]; omega⟩
        · obtain rfl : j = 4 := by omega
          clear h4
          go_wp2_with (fail)
          refine (dkNames (HD.out.below HBB.out) (by have := HFL.out; have := HQ60.out; omega)).mono ?_
          rintro e w9 ⟨A9, c9, T9, rfl, hp9, hs9, hb9⟩
          rw [show (List.mergeSort T9 fun x y => decide (x ≤ y)).length = q from by rw [sort_len, hp9.length_eq]; have := HFL.out; simp [nmsOf]; omega]
          have HB9 : Hid (Below wo.heap.size wo w9) := Lib.hid (HBB.out.trans (hb9.mono HBB.out.size))
          have HBW9 : Hid (Below w.heap.size w w9) := Lib.hid (HBW.out.trans (hb9.mono HBW.out.size))
          have hlen : ∀ ty, (Builtin.len_ #[69] ty #[.map (some (G + 1))]).run Try.prog w9 = .ok (.int .i64 (q : Int)) w9 := fun ty => by
            rw [HQ.out]; exact run_lenL Try.underlying69 (HMP.out.below HB9.out) ty
          have e1 : wrap64 (12 * (q : Int)) = 12 * (q : Int) := IntWalk.wrap64_in _ (by have := HQ60.out; omega)
          clear hp9 hs9 hb9
          go_wp2_with (fail)
          refine (dkUsed (HD.out.below HB9.out)).mono ?_
          rintro e w10 ⟨rfl, rfl⟩
          rw [HU.out]
          go_wp2_with (fail)
          go_ret
          exact ⟨rfl, HBW9.out⟩
end Go.Proofs.Ytolomfdommnklaa
