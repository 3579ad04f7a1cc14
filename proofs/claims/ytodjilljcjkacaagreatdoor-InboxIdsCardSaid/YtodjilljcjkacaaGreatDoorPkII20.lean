/- InboxIds: whatever the input, the law's call returns true, and the arguments read afterwards as before. No condition of ours. -/
import Derived.Test.YtodjilljcjkacaaGreatDoorPkII19
import Derived.ShutString
import Derived.ChangeOld
import Derived.SizedLaws
import Derived.Deep.DeepHandedRow
import Derived.OpenShut
import Derived.SliceStrings
import Derived.Test.YtodjilljcjkacaaGreatDoorCards
import Derived.Test.YtodjilljcjkacaaGreatDoorTie
import Derived.Lib.LaidTab

/- InboxIds, walked. -/
namespace Go.Proofs.YtodjilljcjkacaaGreatDoor
open Go.RowKit Go.MapKept

set_option maxRecDepth 100000
set_option maxHeartbeats 8000000
theorem inboxIds_walk (A : Option Addr) (n c : Nat) (Z : List Nat) (A2 : Option Addr) (n2 c2 : Nat) (J : List UInt8) (w : World) (hv : Vers w ∧ Signs w ∧ Cds w) (hU : Us w A n c Z) (hB : Bs w A2 n2 c2 J) (_hc : c2 ≤ 140737488351232) :
    Calls Tryz.prog 6 #[.slice A n c, .slice A2 n2 c2] w (True_ w) := by
  have HG := Lib.hid (fun W (hb : Below w.heap.size w W) => (⟨hv.1.below hb, hv.2.1.below hb, hv.2.2.below hb⟩ : Vers W ∧ Signs W ∧ Cds W))
  have hmax := hU.nmax
  have hmax2 := hB.nmax
  have HU := Lib.hid hU
  have HB := Lib.hid hB
  clear hv hU hB
  go_enter Tryz.func6, Tryz.ntmps6
  go_wp2_with (fail)
  refine (alive17 w HG.out).mono ?_
  rintro e w1 ⟨rfl, hb1⟩
  have HB1 := Lib.hid hb1
  clear hb1
  by_cases hlong : (30 : Int) < (n : Int)
  · go_wp2_with (fail)
    refine (alive17 w1 (fun W hb => HG.out W (HB1.out.trans (hb.mono HB1.out.size)))).mono ?_
    rintro e w3 ⟨rfl, hb⟩
    have HB3 : Hid (Below w.heap.size w w3) := Lib.hid (HB1.out.trans (hb.mono HB1.out.size))
    clear hb
    go_wp2_with (fail)
    go_ret
    exact ⟨rfl, HB3.out⟩
  by_cases hlong2 : (100 : Int) < (n2 : Int)
  · go_wp2_with (fail)
    refine (alive17 w1 (fun W hb => HG.out W (HB1.out.trans (hb.mono HB1.out.size)))).mono ?_
    rintro e w3 ⟨rfl, hb⟩
    have HB3 : Hid (Below w.heap.size w w3) := Lib.hid (HB1.out.trans (hb.mono HB1.out.size))
    clear hb
    go_wp2_with (fail)
    go_ret
    exact ⟨rfl, HB3.out⟩
  have HN : Hid (n ≤ 30 ∧ n2 ≤ 100) := Lib.hid ⟨by omega, by omega⟩
  go_wp2_with (fail)
  refine (begin17 100000 (by decide) 200 (by decide) (by decide) w1).mono ?_
  rintro e w2 ⟨D, M, L, Q, X, v, rfl, hi, hb2⟩
  have h0 : IdP (fun _ => False) w w1.heap.size D M L Q X [] (yk Z 0) (400 * 0) w2 :=
    ⟨none, [], v, .slice none 0 0, ⟨hi.less (fun _ h => h.elim), rfl⟩, RunI.nil, Nat.le_refl _, HB1.out.trans (hb2.mono HB1.out.size), hb2.size, HB1.out.size⟩
  have H0 := Lib.hid h0
  clear hi hb2 h0 HB1
  generalize w1.heap.size = B at *
  go_wp2_with (fail)
  go_loopw [8, 9, 10, 11, 13, 46, 47, 48, 49, 50, 51, 52, 53, 54, 55, 56, 57, 58, 59, 60, 61, 62, 63, 64, 65, 66, 67, 68, 69, 70, 71, 72, 73, 74, 75, 76, 77, 78, 79] (fun _ _ _ _ _ i _ _ _ _ _ _ _ _ _ _ _ _ _ _ _ _ _ _ _ _ _ _ _ _ _ _ _ _ _ _ _ _ _ wr => ∃ (k : Nat) (p : List UInt8), i = .int .i64 k ∧ k ≤ n ∧ IdP (fun _ => False) w B D M L Q X p (yk Z k) (400 * k) wr) (fun _ _ _ _ _ i _ _ _ _ _ _ _ _ _ _ _ _ _ _ _ _ _ _ _ _ _ _ _ _ _ _ _ _ _ _ _ _ _ _ => n - (intOf i).toNat)
  case atStart => exact ⟨0, [], rfl, Nat.zero_le _, H0.out⟩
  case round =>
    obtain ⟨wo, rfl⟩ : ∃ wo : World, wo = wr := ⟨_, rfl⟩
    obtain ⟨k, p, rfl, hk, hst⟩ := hrel
    have HST := Lib.hid hst
    have HBO := Lib.hid hst.low
    clear hst H0
    by_cases hlt : k < n
    · obtain ⟨b, o, rfl, hb, hcell⟩ := (HU.out.below HBO.out).read hlt
      have hsm := HU.out.small k
      have hxx : Z.getD k 0 = Z.getD k 0 := rfl
      obtain ⟨x, hx⟩ : ∃ x, x = Z.getD k 0 := ⟨_, rfl⟩
      rw [← hx] at hcell hsm
      have HX := Lib.hid hx
      have HSM := Lib.hid hsm
      have e2 : (k : Int) < (n : Int) := by omega
      have e3 : IntKind.i64.wrap (x : Int) = (x : Int) := by rw [IntKind.wrap_i64]; omega
      obtain ⟨Y1, hY1⟩ : ∃ Y1, Y1 = digs x ++ [65] := ⟨_, rfl⟩
      have HZ1 := Lib.hid hY1
      obtain ⟨y, hy⟩ : ∃ y, y = idD x k := ⟨_, rfl⟩
      have HZ2 : Hid (y = Y1 ++ digs k) := Lib.hid (by rw [hy, hY1]; simp [idD])
      have HOK : Hid (IdOk y) := Lib.hid (by rw [hy]; exact idD_ok _ _ (by omega) (by have := HN.out; omega))
      have HY := Lib.hid hy
      have HL1 : Hid (Y1.length ≤ 100) := Lib.hid (by rw [hY1]; have := digs_short 20 x (by decide) (by omega); simp; omega)
      have HKN : Hid (k < n) := Lib.hid hlt
      have HYS : Hid (y.length ≤ 50) := Lib.hid HOK.out.short
      clear hx hy hxx hb hlt hsm hY1
      go_wp2_with (fail)
      refine (num17 x (by have := HSM.out; omega) wo).mono ?_
      rintro e w3 ⟨rfl, hb3⟩
      have HB3 := Lib.hid hb3
      clear hb3 hcell
      go_wp2_with (with_reducible refine wpList_addT (dst := some 55) (digs x) [65] Y1 HZ1 (by kernel_rfl) (by kernel_rfl) (by have := HL1.out; omega) ?_)
      refine (num17 k (by have := HKN.out; have := HN.out; omega) w3).mono ?_
      rintro e w4 ⟨rfl, hb4⟩
      have HB4 := Lib.hid (HB3.out.trans (hb4.mono HB3.out.size))
      clear hb4 HB3
      go_wp2_with (with_reducible refine wpList_addT (dst := some 58) Y1 (digs k) y HZ2 (by kernel_rfl) (by kernel_rfl) (by have := HYS.out; omega) ?_)
      refine (right17 y (by have := HYS.out; omega) w4).mono ?_
      rintro e w5 ⟨b5, c5, rfl, hs5, _, hb5⟩
      have HB5 := Lib.hid (HB4.out.trans (hb5.mono HB4.out.size))
      have HS5 := Lib.hid hs5
      clear hb5 HB4 hs5
      go_wp2_with (fail)
      refine (frameWrap_own _ _ _ _ w5 (HG.out w5 (HBO.out.trans (HB5.out.mono HBO.out.size))).2.1 HS5.out (right_good HOK.out.free) (by have := HYS.out; rw [rightD_len]; omega)).mono ?_
      rintro e w6 ⟨v6, rfl, ho6, hb6⟩
      obtain ⟨A6, c6, rfl, hs6, hlo6⟩ := ho6.bs
      have HO6 := Lib.hid (fun b hb => ho6.lt b hb)
      have HB6 := Lib.hid (HB5.out.trans (hb6.mono HB5.out.size))
      obtain ⟨f, hf⟩ : ∃ f, f = 11 :: (rightD y ++ [28, 13]) := ⟨_, rfl⟩
      rw [← hf] at hs6 HO6
      have hfl : f.length ≤ 100 := by rw [hf]; have := HYS.out; simp [rightD_len]; omega
      rw [← hf]
      obtain ⟨N6, hN6⟩ : ∃ N6, N6 = f.length := ⟨_, rfl⟩
      rw [← hN6] at hs6 HO6 hfl ⊢
      have HF := Lib.hid hf
      have HFL := Lib.hid hfl
      have HS6 := Lib.hid hs6
      have HZ6 : Hid (∀ b, A6 = some b → wo.heap.size ≤ b.block ∧ b.block < w6.heap.size) := Lib.hid (fun b hb => ⟨Nat.le_trans HB5.out.size (hlo6 b hb), (HO6.out b.block (by rw [hb]; rfl)).2⟩)
      have hmid : IdP (fun j => ∃ b, A6 = some b ∧ b.block = j) w B D M L Q X p (yk Z k) (400 * k + 0) w6 := HST.out.add HB6.out (fun j hj => by
        obtain ⟨b, hb, rfl⟩ := hj
        exact .inr (HZ6.out b hb))
      have HM := Lib.hid hmid
      clear hb6 HB5 HS5 ho6 hs6 hlo6 HO6 hf hfl hN6 hmid HST HB6 HZ6
      go_wp2_with (fail)
      go_loopw [13, 65, 66, 67, 68, 69, 70, 71, 72, 73, 74, 75] (fun _ i _ _ _ _ _ _ _ _ _ _ wr => ∃ (j : Nat) (p : List UInt8), i = .int .i64 j ∧ j ≤ n2 ∧ Bs wr A6 N6 c6 f ∧ IdP (fun j => ∃ b, A6 = some b ∧ b.block = j) w B D M L Q X p (yk Z k) (400 * k + j) wr) (fun _ i _ _ _ _ _ _ _ _ _ _ _ => n2 - (intOf i).toNat)
      case atStart => exact ⟨0, p, rfl, Nat.zero_le _, HS6.out, HM.out⟩
      case round =>
        obtain ⟨wi, rfl⟩ : ∃ wi : World, wi = wr := ⟨_, rfl⟩
        obtain ⟨j, p2, rfl, hj, hbs, hst⟩ := hrel
        have HST := Lib.hid hst
        have HBI := Lib.hid hst.low
        have HBS := Lib.hid hbs
        clear hst hbs HM HS6
        by_cases hlt2 : j < n2
        · obtain ⟨b2, o2, rfl, hb2, hc2⟩ := HB.out.at_ (by omega)
          have hjl : j < J.length := by have := HB.out.len; omega
          have hcell : wi.cell? ⟨b2, o2 + j, none⟩ = some (.int .u8 (J[j].toNat : Int)) := (HBI.out.cell hb2).trans (hc2 j _ (List.getElem?_eq_getElem hjl))
          obtain ⟨z, hz⟩ : ∃ z, z = J[j] := ⟨_, rfl⟩
          rw [← hz] at hcell
          have e4 : (j : Int) < (n2 : Int) := by omega
          clear hz hc2 hb2
          by_cases hz : z = 11
          · have e5 : ((z.toNat : Int) != 11) = false := by rw [hz]; rfl
            go_wp2_with (fail)
            exact ⟨⟨j + 1, p2, by go_num, by omega, HBS.out, HST.out.more (by omega)⟩, by simp [intOf]; omega⟩
          · have e5 : ((z.toNat : Int) != 11) = true := by simp; intro h; exact hz (UInt8.toNat_inj.1 (by have : (11 : UInt8).toNat = 11 := rfl; omega))
            have hba : Below wi.heap.size wi (wi.alloc (.cells #[.int .u8 (z.toNat : Int)] 5)) := (Below.refl _ _).alloc (Nat.le_refl _) _
            have hb1 : Bs (wi.alloc (.cells #[.int .u8 (z.toNat : Int)] 5)) (some ⟨wi.heap.size, 0, none⟩) 1 1 [z] := Bs.lit wi [z] _ _ _ rfl rfl rfl (by simp [maxLen])
            have HBA := Lib.hid hba
            have HB1A := Lib.hid hb1
            have HZN := Lib.hid hz
            clear hba hb1 hz
            go_wp2_with (fail)
            clear hcell
            refine (id_feed HST.out HBA.out HG.out (some ⟨wi.heap.size, 0, none⟩) 1 1 [z] (yk Z k) HB1A.out (fun _ b hb => .inr (by injection hb with hb; rw [← hb]; exact Nat.le_refl _)) (fun hr => hr.junk z HZN.out) (by have := HN.out; have := HKN.out; omega)).mono ?_
            rintro e w7 ⟨rfl, hp7, hk7⟩
            have HP7 := Lib.hid hp7
            have HS7 := Lib.hid (hk7 A6 N6 c6 f (HBS.out.below HBA.out) (fun b hb => ⟨b, hb, rfl⟩))
            clear hp7 hk7 HST HBS HBA HB1A
            go_wp2_with (fail)
            exact ⟨⟨j + 1, p2 ++ [z], by go_num, by omega, HS7.out, HP7.out⟩, by simp [intOf]; omega⟩
        · obtain rfl : j = n2 := by omega
          clear hlt2
          go_wp2_with (fail)
          refine (id_feed HST.out (Below.refl _ _) HG.out A6 N6 c6 f (yk Z (k + 1)) HBS.out (fun _ b hb => .inl ⟨b, hb, rfl⟩) (fun hr => by rw [yk_succ, ← HX.out, ← HY.out, HF.out]; exact hr.right HOK.out) (by have := HN.out; have := HKN.out; have := HFL.out; omega)).mono ?_
          rintro e w7 ⟨rfl, hp7, _⟩
          have HP7 := Lib.hid ((hp7.less (Zr' := fun _ => False) (fun _ h => h.elim)).more (N' := 400 * (k + 1)) (by have := HN.out; have := HFL.out; omega))
          clear hp7 HST HBS
          go_wp2_with (fail)
          exact ⟨⟨k + 1, _, by go_num, HKN.out, HP7.out⟩, by have := HKN.out; simp [intOf]; omega⟩
    · obtain rfl : k = n := by omega
      obtain ⟨O, F, v1, va, ⟨h1, _⟩, hrun, _, hlow, hBW, hwB⟩ := HST.out
      obtain ⟨r1, r2, r3⟩ := hrun.run (yk_ok HU.out.2.2.2.1 HN.out.1) (by rw [yk_len]; exact HN.out.1)
      rw [r1, r2, r3] at h1
      obtain ⟨La, hLa⟩ : ∃ La, La = (yk Z k).map ansY := ⟨_, rfl⟩
      obtain ⟨T, hT⟩ : ∃ T, T = (yk Z k).map rightD := ⟨_, rfl⟩
      have hLl : La.length = k := by rw [hLa, List.length_map, yk_len]
      have hTl : T.length = k := by rw [hT, List.length_map, yk_len]
      rw [← hLa, ← hT, yk_len] at h1
      have HLA := Lib.hid hLa
      have HT := Lib.hid hT
      have HTL := Lib.hid hTl
      have HLL := Lib.hid hLl
      have HI := Lib.hid h1
      have HWB := Lib.hid hwB
      have HBW := Lib.hid hBW
      clear hLa hT hrun hlow hBW hwB r1 r2 r3 h1 HST hTl hLl hlt
      generalize runD 100000 200 p = RR at *
      generalize (feedD 200 newS p).1 = ss at *
      go_wp2_with (fail)
      refine (inTake HI.out).mono ?_
      rintro e w8 ⟨rfl, hi8, hr8, hc8⟩
      obtain ⟨A8, c8, e8, hrd8⟩ := hr8.rd
      rw [HLL.out] at e8 hrd8
      have HB8 : Hid (Below w.heap.size w w8) := Lib.hid (HBO.out.trans ((hc8.below (fun j hj => by rw [show j = X from hj]; exact HI.out.xb) HBW.out).mono HWB.out))
      have HI8 := Lib.hid hi8
      have HR8 := Lib.hid hrd8
      have hkl := HTL.out
      clear hi8 hr8 hrd8 hc8 HI
      subst e8
      go_wp2_with (fail)
      refine (walLen HI8.out.lg).mono ?_
      rintro e w9 ⟨rfl, rfl⟩
      rw [hkl]
      go_wp2_with (fail)
      refine (inKept HI8.out).mono ?_
      rintro e w10 ⟨rfl, rfl⟩
      clear hkl
      go_wp2_with (fail)
      go_loopw [15, 16, 17, 18, 19, 20, 21, 22, 23, 103, 104, 105, 106, 107, 108, 109, 110, 111, 112, 113, 114, 115, 116, 117, 118, 119, 120, 121, 122, 123, 124, 125, 126, 127, 128, 129, 130, 131, 132, 133, 134, 135, 136, 137, 138, 139, 140, 141, 142, 143, 144, 145, 146, 147, 148, 149, 150, 151, 152, 153, 154] (fun _ _ _ _ _ _ _ _ _ i _ _ _ _ _ _ _ _ _ _ _ _ _ _ _ _ _ _ _ _ _ _ _ _ _ _ _ _ _ _ _ _ _ _ _ _ _ _ _ _ _ _ _ _ _ _ _ _ _ _ _ wr => ∃ (j : Nat), i = .int .i64 j ∧ j ≤ k ∧ Below w10.heap.size w10 wr) (fun _ _ _ _ _ _ _ _ _ i _ _ _ _ _ _ _ _ _ _ _ _ _ _ _ _ _ _ _ _ _ _ _ _ _ _ _ _ _ _ _ _ _ _ _ _ _ _ _ _ _ _ _ _ _ _ _ _ _ _ _ _ => k - (intOf i).toNat)
      case atStart => exact ⟨0, rfl, Nat.zero_le _, Below.refl _ _⟩
      case round =>
        obtain ⟨wi, rfl⟩ : ∃ wi : World, wi = wr := ⟨_, rfl⟩
        obtain ⟨j, rfl, hj, hst⟩ := hrel
        have HST := Lib.hid hst
        have HBI : Hid (Below w.heap.size w wi) := Lib.hid (HB8.out.trans (hst.mono HB8.out.size))
        clear hst
        by_cases hlt : j < k
        · obtain ⟨b, o, rfl, hb, hcell⟩ := (HU.out.below HBI.out).read hlt
          obtain ⟨b8, o8, Ai, ci, rfl, hb8, hcell8, hbs8⟩ := (HR8.out.below HST.out).read hlt
          have hsm := HU.out.small j
          obtain ⟨x, hx⟩ : ∃ x, x = Z.getD j 0 := ⟨_, rfl⟩
          rw [← hx] at hcell hsm
          obtain ⟨y, hy⟩ : ∃ y, y = idD x j := ⟨_, rfl⟩
          have hok : IdOk y := by rw [hy]; exact idD_ok _ _ (by omega) (by have := HN.out; omega)
          have hla : La.getD j [] = ansY y := by rw [HLA.out, List.getD_eq_getElem?_getD, List.getElem?_map, yk_get Z hlt, ← hx, ← hy]; rfl
          have ht : T.getD j [] = rightD y := by rw [HT.out, List.getD_eq_getElem?_getD, List.getElem?_map, yk_get Z hlt, ← hx, ← hy]; rfl
          obtain ⟨L9, hr9, hg9, hra9, hl9⟩ := right_reply hok
          have ea : ansY y = 11 :: (L9 ++ [28, 13]) := by unfold ansY; rw [hr9]
          rw [hla, ea] at hcell8 hbs8
          have hl8 : (11 :: (L9 ++ [28, 13])).length ≤ 1100 := by simp; omega
          obtain ⟨N8, hN8⟩ : ∃ N8, N8 = (11 :: (L9 ++ [28, 13])).length := ⟨_, rfl⟩
          obtain ⟨N9, hN9⟩ : ∃ N9, N9 = L9.length := ⟨_, rfl⟩
          rw [← hN8] at hcell8 hbs8 hl8
          rw [← hN9] at hl9
          have e2 : (j : Int) < (k : Int) := by omega
          have e3 : IntKind.i64.wrap (x : Int) = (x : Int) := by rw [IntKind.wrap_i64]; omega
          obtain ⟨Y1, hY1⟩ : ∃ Y1, Y1 = digs x ++ [65] := ⟨_, rfl⟩
          have HZ1 := Lib.hid hY1
          have HZ2 : Hid (y = Y1 ++ digs j) := Lib.hid (by rw [hy, hY1]; simp [idD])
          have HL1 : Hid (Y1.length ≤ 100) := Lib.hid (by rw [hY1]; have := digs_short 20 x (by decide) (by omega); simp; omega)
          have HYS : Hid (y.length ≤ 50) := Lib.hid hok.short
          have HSM := Lib.hid hsm
          have HKN : Hid (j < k) := Lib.hid hlt
          have HTJ := Lib.hid ht
          have HG9 := Lib.hid hg9
          have HRA := Lib.hid hra9
          have HL9 := Lib.hid hl9
          have HL8 := Lib.hid hl8
          have HN9 := Lib.hid hN9
          have HBS := Lib.hid hbs8
          have HS2 : Hid (Signs wi) := Lib.hid (HG.out wi HBI.out).2.1
          clear hx hy hb hb8 hbs8 hsm hok hla ht hr9 hg9 hra9 hl9 ea hl8 hN8 hN9 hY1 hlt
          go_wp2_with (fail)
          have h2 := frameUnwrap Ai N8 ci (11 :: (L9 ++ [28, 13])) wi HS2.out HBS.out (by have := HL8.out; omega)
          rw [(wrap_get HG9.out).1, (wrap_get HG9.out).2] at h2
          refine h2.mono ?_
          clear h2
          rintro e w2 ⟨A9, c9, rfl, hX9, hb2⟩
          rw [← HN9.out] at hX9 ⊢
          have HX9 := Lib.hid hX9
          have HBW2 := Lib.hid hb2
          have HC2 : Hid (Cds w2) := Lib.hid (HG.out w2 (HBI.out.trans (hb2.mono HBI.out.size))).2.2
          clear hX9 hb2 hcell hcell8
          go_wp2_with (fail)
          refine (ackRead A9 N9 c9 L9 w2 HC2.out HX9.out (by have := HL9.out; omega)).mono ?_
          rw [HRA.out]
          rintro e w3 ⟨rfl, hb3⟩
          have hz3 : BoxA (cB 0) (txt y) w3.heap.size (w3.alloc (.cells #[.string (cB 0), .string (txt y)] 80)) := heap_alloc_new w3 _
          have hb3' : Below wi.heap.size wi (w3.alloc (.cells #[.string (cB 0), .string (txt y)] 80)) := HBW2.out.trans ((hb3.mono HBW2.out.size).alloc (Nat.le_trans HBW2.out.size hb3.size) _)
          have HZ3 := Lib.hid hz3
          have HB3 := Lib.hid hb3'
          clear hz3 hb3 hb3' HX9 HBW2 HC2 HRA
          go_wp2_with (fail)
          generalize w3.alloc (.cells #[.string (cB 0), .string (txt y)] 80) = w4 at *
          generalize w3.heap.size = gz at *
          refine (walGet (HI8.out.below (HST.out.trans (HB3.out.mono HST.out.size))).lg j (by rw [HTL.out]; exact HKN.out) (by rw [HTJ.out, rightD_len]; have := HYS.out; omega)).mono ?_
          rw [HTJ.out]
          rintro e w5 ⟨A10, c10, rfl, hX10, _, hb5⟩
          obtain ⟨N10, hN10⟩ : ∃ N10, N10 = (rightD y).length := ⟨_, rfl⟩
          rw [← hN10] at hX10 ⊢
          have HX5 := Lib.hid hX10
          have HZ5 := Lib.hid (HZ3.out.below hb5)
          have HB5 := Lib.hid (HB3.out.trans (hb5.mono HB3.out.size))
          clear hX10 hN10 hb5 HZ3 HB3
          go_wp2_with (fail)
          refine (num17 x (by have := HSM.out; omega) w5).mono ?_
          rintro e w6 ⟨rfl, hb6⟩
          have HX6 := Lib.hid (HX5.out.below hb6)
          have HZ6 := Lib.hid (HZ5.out.below hb6)
          have HB6 := Lib.hid (HB5.out.trans (hb6.mono HB5.out.size))
          clear hb6 HX5 HZ5 HB5
          go_wp2_with (with_reducible refine wpList_addT (dst := some 130) (digs x) [65] Y1 HZ1 (by kernel_rfl) (by kernel_rfl) (by have := HL1.out; omega) ?_)
          refine (num17 j (by have := HKN.out; have := HN.out; omega) w6).mono ?_
          rintro e w7 ⟨rfl, hb7⟩
          have HX7 := Lib.hid (HX6.out.below hb7)
          have HZ7 := Lib.hid (HZ6.out.below hb7)
          have HB7 := Lib.hid (HB6.out.trans (hb7.mono HB6.out.size))
          clear hb7 HX6 HZ6 HB6
          go_wp2_with (with_reducible refine wpList_addT (dst := some 133) Y1 (digs j) y HZ2 (by kernel_rfl) (by kernel_rfl) (by have := HYS.out; omega) ?_)
          obtain ⟨S, hSd⟩ : ∃ S : World → Prop, ∀ W, S W ↔ (BoxA (cB 0) (txt y) gz W ∧ Bs W A10 N10 c10 (rightD y)) := ⟨_, fun _ => Iff.rfl⟩
          have s0 : ∀ q : Meets S, q.u.cell? ⟨gz, 0, none⟩ = some (.string ⟨#[65, 65]⟩) := fun q => ((hSd _).1 q.h).1.cells.1
          have s1 : ∀ q : Meets S, q.u.cell? ⟨gz, 1, none⟩ = some (.string (txt y)) := fun q => ((hSd _).1 q.h).1.cells.2
          have s2 : ∀ q : Meets S, (convert 40 9 (.slice A10 N10 c10)).run Tryz.prog q.u = .ok (.string (txt (rightD y))) q.u := fun q => ((hSd _).1 q.h).2.str _ _ _ Tryz.underlying40 Tryz.underlying5 Tryz.underlying9
          have s3 := fun W => ack_same ⟨#[65, 65]⟩ (txt y) W
          have HSD := Lib.hid hSd
          clear hSd
          refine region_plan2 S [([0, 1, 2, 3, 4, 5, 6, 7, 8], 9), ([10, 11, 12, 13, 14, 15], 16)] [17, 18, 19] (by kernel_rfl) (by kernel_rfl) (fun _ _ _ _ _ h => h) ((HSD.out _).2 ⟨HZ7.out.below (Below.refl _ w7).drew, HX7.out.below (Below.refl _ w7).drew⟩) (fun hne => ?_)
          simp only [wpPlan2, pick, List.getElem?_cons_zero, List.getElem?_cons_succ, Option.elim]
          repeat (go_big_quiet_step (fail))
          refine wpQuiet_nil ?_
          intro K hK
          go_simp
          refine hK.out S _ _ (fun _ h => h) ((HSD.out _).2 ⟨HZ7.out.below (Below.refl _ w7).drew, HX7.out.below (Below.refl _ w7).drew⟩) (fun _ => ?_)
          clear hK K
          repeat (go_big_quiet_step (fail))
          refine wpQuiet_nil ?_
          intro K hK
          go_simp
          refine (right17 y (by have := HYS.out; omega) _).mono ?_
          rintro e w8 ⟨b11, c11, rfl, hs11, _, hb11⟩
          dsimp only
          obtain ⟨S2, hS2⟩ : ∃ S2 : World → Prop, ∀ W, S2 W ↔ (S W ∧ Bs W (some ⟨b11, 0, none⟩) (rightD y).length c11 (rightD y)) := ⟨_, fun _ => Iff.rfl⟩
          have s4 : ∀ q : Meets S2, (convert 40 9 (.slice (some ⟨b11, 0, none⟩) (rightD y).length c11)).run Tryz.prog q.u = .ok (.string (txt (rightD y))) q.u := fun q => ((hS2 _).1 q.h).2.str _ _ _ Tryz.underlying40 Tryz.underlying5 Tryz.underlying9
          refine hK.out S2 _ _ (fun u h => ((hS2 u).1 h).1) ((hS2 _).2 ⟨(HSD.out _).2 ⟨(HZ7.out.below (Below.refl _ w7).drew).below hb11, (HX7.out.below (Below.refl _ w7).drew).below hb11⟩, hs11⟩) (fun _ => ?_)
          clear hK K
          have HB8' : Hid (Below wi.heap.size wi w8) := Lib.hid (HB7.out.trans (((Below.refl _ w7).drew.trans hb11).mono HB7.out.size))
          repeat (go_big_quiet_step (fail))
          refine wpQuiet_nil ?_
          go_wp2_with (fail)
          exact ⟨⟨j + 1, by go_num, HKN.out, HST.out.trans (HB8'.out.mono HST.out.size)⟩, by have := HKN.out; simp [intOf]; omega⟩
        · obtain rfl : j = k := by omega
          go_wp2_with (fail)
          go_ret
          exact ⟨rfl, HBI.out⟩
end Go.Proofs.YtodjilljcjkacaaGreatDoor
/- An argument that is a slice of bytes, opened into 'Bs'. -/
namespace Go.Proofs.YtodjilljcjkacaaGreatDoor
open Go.RowKit Go.ChangeShapes Go.WideShapes

theorem own : ownKnob Tryz.prog.godebug = none := by kernel_rfl
theorem laidOut : laidOutB Tryz.prog = true := by kernel_rfl
theorem cellsByte : Tryz.prog.cellsOf 5 = 1 := by kernel_rfl
theorem bytesByte : Tryz.prog.bytesOf 5 = 1 := by kernel_rfl

theorem byte_back {x : Int} (h : (Lit.int .u8 x).wf = true) : ((UInt8.ofNat x.toNat).toNat : Int) = x := by
  have hx : 0 ≤ x ∧ x ≤ 255 := by simpa [Lit.wf, IntKind.min, IntKind.max, IntKind.signed, IntKind.bits] using h
  have : x.toNat < 256 := by omega
  simp [Nat.mod_eq_of_lt this]
  omega

theorem open_bytes {H : Type} {enc : TypeId × Value → H} {W : World} {A : Option Addr} {len cap : Nat} {d : DataW H} {p : List MemPlace} {ts : List TypeId} {ds : List (DataW H)}
    (h : DataW.Trod enc Tryz.prog W 0 (fun _ => true) true 40 (.slice A len cap) d p) (j : Nat) (ht : ts[j]? = some 40) (hd : ds[j]? = some d)
    (hs : (DataW.weightsEach Tryz.prog ts ds).all (· ≤ reachBytes) = true) : ∃ l, Bs W A len cap l ∧ cap ≤ 140737488351232 := by
  obtain ⟨fuel, hf⟩ := h
  rcases open_ints Tryz.underlying40 Tryz.underlying5 cellsByte hf with ⟨hcs, _⟩ | ⟨x, l, c, zs, hcs, _, hl, hm, hz, hx, hcell, hwz⟩
  · simp [Value.cells] at hcs
    obtain ⟨rfl, rfl, rfl⟩ := hcs
    exact ⟨[], Bs.none_ W, by omega⟩
  · simp [Value.cells] at hcs
    obtain ⟨rfl, rfl, rfl⟩ := hcs
    simp only [if_true] at hz
    simp only [Prod.mk.injEq] at hx
    obtain ⟨rfl, _⟩ := hx
    have hr := sized_slice hs ht hd Tryz.underlying40
    rw [bytesByte] at hr
    simp only [lits, List.length_map, List.length_take, List.length_drop, reachBytes] at hr
    refine ⟨(zs.take len).map fun z => UInt8.ofNat z.toNat, ⟨by rw [List.length_map, List.length_take]; omega, hl, hm, fun hn => ?_⟩, by omega⟩
    have h0 := hcell 0 (by omega)
    obtain ⟨b, off, spot⟩ := x
    have hspot : spot = none := by simpa [Addr.add] using World.cell?_spot h0
    subst hspot
    refine ⟨b, off, rfl, fun i y hy => ?_⟩
    rw [List.getElem?_map, List.getElem?_take] at hy
    split at hy
    · rename_i hi
      have hiz : i < zs.length := by omega
      rw [List.getElem?_eq_getElem hiz] at hy
      simp only [Option.map_some, Option.some.injEq] at hy
      subst hy
      have hc := hcell i hiz
      rw [Addr.add_lit] at hc
      rw [hc]
      simp only [List.getD, List.getElem?_eq_getElem hiz, Option.getD_some]
      show _ = some (Value.int IntKind.u8 _)
      rw [byte_back (hwz _ (List.getElem_mem hiz))]
    · cases hy
end Go.Proofs.YtodjilljcjkacaaGreatDoor
/- Arguments that are texts, bytes and slices of texts; what the second form's bound says of them. -/
namespace Go.Proofs.YtodjilljcjkacaaGreatDoor
open Go.RowKit Go.ChangeShapes Go.WideShapes

theorem cellsStr : Tryz.prog.cellsOf 9 = 1 := by kernel_rfl
end Go.Proofs.YtodjilljcjkacaaGreatDoor
/- An argument that is a struct of five bytes. -/
namespace Go.Proofs.YtodjilljcjkacaaGreatDoor
open Go.RowKit Go.ChangeShapes Go.WideShapes

end Go.Proofs.YtodjilljcjkacaaGreatDoor
/- Laid together: OpenSegs, OpenMsh, OpenHead, OpenAck. -/

/- Arguments that are texts, bytes, slices of texts and signs. -/

/- The table of versions as the statement lays it; arguments that are texts, bytes and slices of texts. -/
namespace Go.Proofs.YtodjilljcjkacaaGreatDoor
open Go.RowKit Go.ChangeShapes Go.WideShapes

theorem cellsArr10 : Tryz.prog.cellsOf 230 = 10 := by kernel_rfl
theorem gVers : Tryz.prog.globalNamed "lamplighter/msh.versions" = some 3 := by kernel_rfl
theorem gtVers : (Tryz.prog.globals[3]?).map (·.type) = some 230 := by kernel_rfl
theorem ba_of_list {s : ByteArray} {l : List UInt8} (h : s.data.toList = l) : s = ⟨l.toArray⟩ := by
  subst h
  apply ByteArray.ext
  simp
set_option maxRecDepth 100000 in
theorem vers_of_laid {W : World} {rest : List (String × DataW Unit)} (h : laidMet Tryz.prog (("lamplighter/msh.versions", Rows.laid_lamplighter_msh_versions) :: rest) W) : Vers W := by
  obtain ⟨ps, ⟨g', t', cs, fuel, p, q, hg', ht', hvar, hd, _, _⟩, _⟩ := h
  obtain rfl := Option.some.inj (gVers.symm.trans hg')
  obtain rfl := Option.some.inj (gtVers.symm.trans ht')
  have hcell := fun i => World.var?_cell gVers hvar i
  obtain ⟨xs, m, _, hx, hl, hn, hi⟩ := DataW.trod_array Tryz.underlying230 hd
  obtain ⟨l⟩ := cs
  simp only [Prod.mk.injEq] at hx hl hi
  have h0 := hi 0 (by omega)
  have h1 := hi 1 (by omega)
  have h2 := hi 2 (by omega)
  have h3 := hi 3 (by omega)
  have h4 := hi 4 (by omega)
  have h5 := hi 5 (by omega)
  have h6 := hi 6 (by omega)
  have h7 := hi 7 (by omega)
  have h8 := hi 8 (by omega)
  have h9 := hi 9 (by omega)
  rw [cellsStr] at h0 h1 h2 h3 h4 h5 h6 h7 h8 h9
  rw [cellsArr10] at hl
  match xs, hn with
  | [x0, x1, x2, x3, x4, x5, x6, x7, x8, x9], _ =>
    obtain ⟨s0, e0, rfl, _⟩ := DataW.trod_string Tryz.underlying9 h0
    obtain ⟨s1, e1, rfl, _⟩ := DataW.trod_string Tryz.underlying9 h1
    obtain ⟨s2, e2, rfl, _⟩ := DataW.trod_string Tryz.underlying9 h2
    obtain ⟨s3, e3, rfl, _⟩ := DataW.trod_string Tryz.underlying9 h3
    obtain ⟨s4, e4, rfl, _⟩ := DataW.trod_string Tryz.underlying9 h4
    obtain ⟨s5, e5, rfl, _⟩ := DataW.trod_string Tryz.underlying9 h5
    obtain ⟨s6, e6, rfl, _⟩ := DataW.trod_string Tryz.underlying9 h6
    obtain ⟨s7, e7, rfl, _⟩ := DataW.trod_string Tryz.underlying9 h7
    obtain ⟨s8, e8, rfl, _⟩ := DataW.trod_string Tryz.underlying9 h8
    obtain ⟨s9, e9, rfl, _⟩ := DataW.trod_string Tryz.underlying9 h9
    match l, hl with
    | [v0, v1, v2, v3, v4, v5, v6, v7, v8, v9], _ =>
      simp at e0 e1 e2 e3 e4 e5 e6 e7 e8 e9
      simp [Rows.laid_lamplighter_msh_versions] at hx
      subst e0 e1 e2 e3 e4 e5 e6 e7 e8 e9
      obtain ⟨⟨y0, y1, y2, y3, y4, y5, y6, y7, y8, y9⟩, _⟩ := hx
      have z0 : s0 = vB 0 := ba_of_list y0.symm
      have z1 : s1 = vB 1 := ba_of_list y1.symm
      have z2 : s2 = vB 2 := ba_of_list y2.symm
      have z3 : s3 = vB 3 := ba_of_list y3.symm
      have z4 : s4 = vB 4 := ba_of_list y4.symm
      have z5 : s5 = vB 5 := ba_of_list y5.symm
      have z6 : s6 = vB 6 := ba_of_list y6.symm
      have z7 : s7 = vB 7 := ba_of_list y7.symm
      have z8 : s8 = vB 8 := ba_of_list y8.symm
      have z9 : s9 = vB 9 := ba_of_list y9.symm
      subst z0 z1 z2 z3 z4 z5 z6 z7 z8 z9
      exact ⟨hcell 0, hcell 1, hcell 2, hcell 3, hcell 4, hcell 5, hcell 6, hcell 7, hcell 8, hcell 9⟩
end Go.Proofs.YtodjilljcjkacaaGreatDoor

/- An argument that is a head. -/
namespace Go.Proofs.YtodjilljcjkacaaGreatDoor
open Go.RowKit Go.ChangeShapes Go.WideShapes

end Go.Proofs.YtodjilljcjkacaaGreatDoor

/- The table of codes as the statement lays it; arguments that are heads. -/
namespace Go.Proofs.YtodjilljcjkacaaGreatDoor
open Go.RowKit Go.ChangeShapes Go.WideShapes

theorem cellsArr3s : Tryz.prog.cellsOf 179 = 3 := by kernel_rfl
theorem gCds : Tryz.prog.globalNamed "lamplighter/ack.codes" = some 1 := by kernel_rfl
theorem gtCds : (Tryz.prog.globals[1]?).map (·.type) = some 179 := by kernel_rfl
theorem ba_of_list3 {s : ByteArray} {l : List UInt8} (h : s.data.toList = l) : s = ⟨l.toArray⟩ := by
  subst h
  apply ByteArray.ext
  simp
set_option maxRecDepth 100000 in
theorem cds_of_laid {W : World} {rest : List (String × DataW Unit)} (h : laidMet Tryz.prog (("lamplighter/ack.codes", Rows.laid_lamplighter_ack_codes) :: rest) W) : Cds W := by
  obtain ⟨ps, ⟨g', t', cs, fuel, p, q, hg', ht', hvar, hd, _, _⟩, _⟩ := h
  obtain rfl := Option.some.inj (gCds.symm.trans hg')
  obtain rfl := Option.some.inj (gtCds.symm.trans ht')
  have hcell := fun i => World.var?_cell gCds hvar i
  obtain ⟨xs, m, _, hx, hl, hn, hi⟩ := DataW.trod_array Tryz.underlying179 hd
  obtain ⟨l⟩ := cs
  simp only [Prod.mk.injEq] at hx hl hi
  have h0 := hi 0 (by omega)
  have h1 := hi 1 (by omega)
  have h2 := hi 2 (by omega)
  rw [cellsStr] at h0 h1 h2
  rw [cellsArr3s] at hl
  match xs, hn with
  | [x0, x1, x2], _ =>
    obtain ⟨s0, e0, rfl, _⟩ := DataW.trod_string Tryz.underlying9 h0
    obtain ⟨s1, e1, rfl, _⟩ := DataW.trod_string Tryz.underlying9 h1
    obtain ⟨s2, e2, rfl, _⟩ := DataW.trod_string Tryz.underlying9 h2
    match l, hl with
    | [v0, v1, v2], _ =>
      simp at e0 e1 e2
      simp [Rows.laid_lamplighter_ack_codes] at hx
      subst e0 e1 e2
      obtain ⟨⟨y0, y1, y2⟩, _⟩ := hx
      have z0 : s0 = cB 0 := ba_of_list3 y0.symm
      have z1 : s1 = cB 1 := ba_of_list3 y1.symm
      have z2 : s2 = cB 2 := ba_of_list3 y2.symm
      subst z0 z1 z2
      exact ⟨hcell 0, hcell 1, hcell 2⟩
end Go.Proofs.YtodjilljcjkacaaGreatDoor

/- The three tables as the statements lay them. -/
namespace Go.Proofs.YtodjilljcjkacaaGreatDoor
open Go.RowKit Go.ChangeShapes Go.WideShapes

theorem laid_tail {P : Program} {x : String × DataW Unit} {r : List (String × DataW Unit)} {w : World} (h : laidMet P (x :: r) w) : laidMet P r w := by
  obtain ⟨ps, hl, hn, hc⟩ := h
  obtain ⟨n, d⟩ := x
  obtain ⟨g, t, cs, fuel, p, q, h1, h2, h3, h4, h5, rfl⟩ := hl
  exact ⟨q, h5, (List.nodup_append.1 hn).2.1, fun b off hm => hc b off (List.mem_append_right _ hm)⟩
theorem gSgs : Tryz.prog.globalNamed "lamplighter/frame.signs" = some 0 := by kernel_rfl
theorem gtSgs : (Tryz.prog.globals[0]?).map (·.type) = some 132 := by kernel_rfl
theorem gcSgs : Tryz.prog.cellsOf 132 = 3 := by kernel_rfl
theorem geSgs : Tryz.prog.cellsOf 5 = 1 := by kernel_rfl
theorem signs_of_laid {W : World} {rest : List (String × DataW Unit)} (h : laidMet Tryz.prog (("lamplighter/frame.signs", Rows.laid_lamplighter_frame_signs) :: rest) W) : Signs W := by
  have t : Lib.TabIs Tryz.prog W "lamplighter/frame.signs" .u8 [11, 28, 13] := Lib.tabIs_of_head (rest := rest) gSgs gtSgs Tryz.underlying132 Tryz.underlying5 geSgs gcSgs h
  exact ⟨t.cell gSgs 0 (by decide), t.cell gSgs 1 (by decide), t.cell gSgs 2 (by decide)⟩
theorem acc_laid {W : World} (h : laidMet Tryz.prog [("lamplighter/frame.signs", Rows.laid_lamplighter_frame_signs), ("lamplighter/msh.versions", Rows.laid_lamplighter_msh_versions), ("lamplighter/ack.codes", Rows.laid_lamplighter_ack_codes)] W) : Vers W ∧ Signs W ∧ Cds W :=
  ⟨vers_of_laid (laid_tail h), signs_of_laid h, cds_of_laid (laid_tail (laid_tail h))⟩
end Go.Proofs.YtodjilljcjkacaaGreatDoor
/- Arguments that are slices of numbers of 16 bits. -/
namespace Go.Proofs.YtodjilljcjkacaaGreatDoor
open Go.RowKit Go.ChangeShapes Go.WideShapes

theorem cellsU16 : Tryz.prog.cellsOf 75 = 1 := by kernel_rfl
theorem u16_wf {x : Int} (h : (Lit.int .u16 x).wf = true) : 0 ≤ x ∧ x ≤ 65535 := by
  simp [Lit.wf, IntKind.min, IntKind.max, IntKind.signed, IntKind.bits] at h
  omega
theorem open_u16s' {H : Type} {enc : TypeId × Value → H} {W : World} {A : Option Addr} {len cap : Nat} {d : DataW H} {p : List MemPlace}
    (h : DataW.Trod enc Tryz.prog W 0 (fun _ => true) true 74 (.slice A len cap) d p) : ∃ Z, Us W A len cap Z := by
  obtain ⟨fuel, hf⟩ := h
  rcases open_ints Tryz.underlying74 Tryz.underlying75 cellsU16 hf with ⟨hcs, _⟩ | ⟨x, l, c, zs, hcs, _, hl, hm, hz, hx, hcell, hwz⟩
  · simp [Value.cells] at hcs
    obtain ⟨rfl, rfl, rfl⟩ := hcs
    exact ⟨[], rfl, by omega, by simp [maxLen], (by simp), fun h => by omega⟩
  · simp [Value.cells] at hcs
    obtain ⟨rfl, rfl, rfl⟩ := hcs
    simp only [if_true] at hz
    refine ⟨(zs.take len).map Int.toNat, by rw [List.length_map, List.length_take]; omega, hl, hm, fun y hy => ?_, fun hn => ?_⟩
    · obtain ⟨z, hz1, rfl⟩ := List.mem_map.1 hy
      have := u16_wf (hwz z (List.mem_of_mem_take hz1))
      omega
    · have h0 := hcell 0 (by omega)
      obtain ⟨b, off, spot⟩ := x
      have hspot : spot = none := by simpa [Addr.add] using World.cell?_spot h0
      subst hspot
      refine ⟨b, off, rfl, World.block_lt_of_cell? W _ h0, fun i y hy => ?_⟩
      rw [List.getElem?_map, List.getElem?_take] at hy
      split at hy
      · have hiz : i < zs.length := by omega
        have hc := hcell i hiz
        rw [Addr.add_lit] at hc
        rw [List.getElem?_eq_getElem hiz] at hy
        simp only [Option.map_some, Option.some.injEq] at hy
        have hw := u16_wf (hwz zs[i] (List.getElem_mem hiz))
        have e : zs.getD i 0 = zs[i] := by rw [List.getD_eq_getElem?_getD, List.getElem?_eq_getElem hiz]; rfl
        rw [hc, e, ← hy]
        have : ((zs[i].toNat : Nat) : Int) = zs[i] := by omega
        rw [this]
      · cases hy
end Go.Proofs.YtodjilljcjkacaaGreatDoor
/- InboxIds: whatever the input, the law's call returns true, and the arguments read afterwards as before. No condition of ours. -/
namespace Go.Proofs.YtodjilljcjkacaaGreatDoor.inboxIds
open Go.ChangeShapes Go.WideShapes Go.ChangeAt Go.RowKit
open Go.ChangeMaps (open_string shut_string)
set_option linter.unusedVariables false


set_option maxRecDepth 100000 in
/-- what the walk gives, for every argument -/
theorem contract (H : Type) (enc : TypeId × Value → H) (W : World) (base : Nat) (args : Array Value) (ds gs : List (DataW H)) (before : List MemPlace)
    (hval : ∀ (j : Nat) t v, Tryz.f6.params[j]? = some t → args[j]? = some v → Value.okWide Tryz.prog W .any base t v)
    (hW : DataW.Whole enc Tryz.prog Tryz.f6.params.toList Rows.inboxIdsSpec.vars false W args.toList ds gs before)
    (hsz0 : (DataW.weightsEach Tryz.prog (Tryz.f6.params.toList ++ Rows.inboxIdsSpec.plain.varTypes Tryz.prog) (ds ++ gs)).all (· ≤ reachBytes) = true) (hL : laidMetH Tryz.prog Rows.inboxIdsRow.laid W) (hSh : W.ShapedOpen Tryz.prog) :
    Calls Tryz.prog 6 args W fun e W' => ∃ v, e = .returned v ∧ Rows.inboxIdsSpec.post enc Tryz.prog Tryz.f6 false true false false W args v W' := by
  have hW' := hW
  obtain ⟨p, q, hA0, hV, rfl, hfz, hnd⟩ := hW
  have hA : DataW.TrodAll enc Tryz.prog W 0 (fun _ => true) true Tryz.f6.params.toList args.toList ds p := hA0
  rw [Tryz.params6] at hA hval hsz0
  obtain ⟨v0, vs0, d0, ds0, p0, q0, hargs, rfl, rfl, h0, r0⟩ := trodAll_cons hA
  obtain ⟨v1, vs1, d1, ds1, p1, q1, rfl, rfl, rfl, h1, r1⟩ := trodAll_cons r0
  obtain ⟨rfl, rfl, rfl⟩ := trodAll_nil r1
  obtain rfl : args = #[v0, v1] := by cases args; simp_all
  obtain ⟨rfl, rfl⟩ := trodVars_none hV
  have hsz : (DataW.weightsEach Tryz.prog [74, 40] [d0, d1]).all (· ≤ reachBytes) = true := by
    have hv : Rows.inboxIdsSpec.plain.varTypes Tryz.prog = [] := rfl
    rw [hv] at hsz0
    simpa using hsz0
  obtain ⟨A0, n0, c0, rfl⟩ := okWide_slice Tryz.underlying74 (hval 0 74 v0 rfl rfl)
  have k0 := h0
  have lt0 : ∀ x ∈ p0, x.block < W.heap.size := by obtain ⟨m, hm⟩ := k0; exact DataW.trod_lt m _ _ _ hm
  obtain ⟨l0, B0⟩ := open_u16s' h0
  obtain ⟨A1, n1, c1, rfl⟩ := okWide_slice Tryz.underlying40 (hval 1 40 v1 rfl rfl)
  have k1 := h1
  have lt1 : ∀ x ∈ p1, x.block < W.heap.size := by obtain ⟨m, hm⟩ := k1; exact DataW.trod_lt m _ _ _ hm
  obtain ⟨l1, B1, R1⟩ := open_bytes h1 1 rfl rfl hsz
  clear hA0
  refine (inboxIds_walk A0 n0 c0 l0 A1 n1 c1 l1 W (acc_laid hL) B0 B1 R1 ).mono fun e W' ⟨he, bel⟩ => ?_
  subst he
  exact ⟨_, rfl, _, _, _, [], _, [], hW', trodAll_mk1 (shut_bool Tryz.underlying4 _), (trodAll_cons_mk (Below.trod laidOut (by kernel_rfl) (of_decide_eq_true (by kernel_rfl)) k0 bel lt0) (trodAll_cons_mk (Below.trod laidOut (by kernel_rfl) (of_decide_eq_true (by kernel_rfl)) k1 bel lt1) trodAll_mk0)), rfl, bel.frame _, fun h => by cases h⟩

/-- a world in which the listed variables hold what the program's text lays -/
noncomputable def laidWorld (os : Os) : World :=
  { World.holding Tryz.prog os ⟨#[], #[], []⟩ with heap := ((((World.holding Tryz.prog os ⟨#[], #[], []⟩).heap.modify 0 fun
      | .cells _ t frozen => .cells #[.int .u8 11, .int .u8 28, .int .u8 13] t frozen
      | o => o).modify 3 fun
      | .cells _ t frozen => .cells #[.string ⟨#[50, 46, 49]⟩, .string ⟨#[50, 46, 50]⟩, .string ⟨#[50, 46, 51]⟩, .string ⟨#[50, 46, 51, 46, 49]⟩, .string ⟨#[50, 46, 52]⟩, .string ⟨#[50, 46, 53]⟩, .string ⟨#[50, 46, 53, 46, 49]⟩, .string ⟨#[50, 46, 54]⟩, .string ⟨#[50, 46, 55]⟩, .string ⟨#[50, 46, 56]⟩] t frozen
      | o => o).modify 1 fun
      | .cells _ t frozen => .cells #[.string ⟨#[65, 65]⟩, .string ⟨#[65, 69]⟩, .string ⟨#[65, 82]⟩] t frozen
      | o => o) }
theorem laid_met (os : Os) : laidMet Tryz.prog Rows.inboxIdsRow.laid ((laidWorld os).forCall (fun _ _ => 0) ⟨#[], #[.slice none 0 0, .slice none 0 0], []⟩).memory :=
  laidMet_of_run' 8 (by kernel_rfl) (by kernel_rfl)
theorem reads (os : Os) {H : Type} (enc : TypeId × Value → H) : ∃ places, DataW.whole enc Tryz.prog ((laidWorld os).forCall (fun _ _ => 0) ⟨#[], #[.slice none 0 0, .slice none 0 0], []⟩).memory Tryz.f6.params.toList Rows.inboxIdsSpec.vars false (#[.slice none 0 0, .slice none 0 0] : Array Value).toList 8 = some ([.nil, .nil], [], places) :=
  ⟨[], by kernel_rfl⟩

set_option maxRecDepth 100000 in
theorem lifted (os : Os) (started : os.Started) (H : Type) (enc : TypeId × Value → H) (F : Stop.Interp) :
    ReturnsInHanded {} Tryz.checked os 6 .any ((OpenSpec.ofChange Rows.inboxIdsSpec).preRow enc Tryz.prog Tryz.f6 Rows.inboxIdsRow.domain false Rows.inboxIdsRow.laid) (((OpenSpec.ofChange Rows.inboxIdsSpec).at F).post enc Tryz.prog Tryz.f6 false true false false) := by
  obtain ⟨places, hx⟩ := reads os enc
  refine returnsInHanded_of_row (C := Tryz.checked) (s := (OpenSpec.ofChange Rows.inboxIdsSpec)) own started (by kernel_rfl) Tryz.func6
    (witness_row_at (enc := enc) (C := Tryz.checked) false (laidWorld os) #[.slice none 0 0, .slice none 0 0] rfl (by kernel_rfl) (by kernel_rfl) (by kernel_rfl)
      (OpenSpec.preRow_of_cond 8 hx (by kernel_rfl) (fun k hk => by cases hk) (by kernel_rfl) (laid_met os))) ?_
  intro W base args ds gs before hval hW _ hcond hsz hL hSh _
  exact contract H enc W base args ds gs before hval hW hsz hL hSh

theorem said : Rows.InboxIdsSaid :=
  OpenClaim.holds_of_cond 6 Tryz.f6 rfl rfl rfl rfl rfl rfl rfl ⟨rfl, rfl, rfl, rfl, rfl⟩ rfl rfl rfl rfl rfl (by kernel_rfl) Tryz.func6 (by kernel_rfl)
    (of_decide_eq_true (by kernel_rfl)) (by unfold Func.isWrapper; first | (rw [if_pos (by decide +kernel)]; kernel_rfl) | (rw [if_neg (by decide +kernel)]; exact ⟨rfl, rfl⟩))
    (fun os started H enc _ F => by rw [OpenClaim.pre_eq_preRow]; exact lifted os started H enc F)

theorem plain (f : FuncId) (fn : Func) (hf : Tryz.pinned.checked.prog.funcNamed "lamplighter/lamplighterlaw17.InboxIds" = some f) (hfn : Tryz.pinned.checked.prog.funcs[f]? = some fn) :
    true = Tryz.pinned.checked.prog.looks [] ∧ ∀ (j : Nat) t, fn.params[j]? = some t → Tryz.pinned.checked.prog.wantsStandIn t = false := by
  obtain rfl : f = 6 := Option.some.inj ((show Tryz.prog.funcNamed "lamplighter/lamplighterlaw17.InboxIds" = some 6 by kernel_rfl).symm.trans hf) |>.symm
  obtain rfl : fn = Tryz.f6 := (Option.some.inj (Tryz.func6.symm.trans hfn)).symm
  refine ⟨by kernel_rfl, fun j t ht => ?_⟩
  rw [Tryz.params6] at ht

  have z74 : Tryz.prog.wantsStandIn 74 = false := by kernel_rfl
  have z40 : Tryz.prog.wantsStandIn 40 = false := by kernel_rfl
  rcases j with _ | _ | j
  · obtain rfl : t = 74 := by simpa using ht.symm
    exact z74
  · obtain rfl : t = 40 := by simpa using ht.symm
    exact z40
  · simp at ht

/-- the card -/
theorem card : Rows.InboxIdsCardSaid :=
  Claim7.holds_tied_plain_at .later [] _ _ _ _ said (fun _ h => by cases h) (by kernel_rfl) (fun _ h => by cases h) inboxIds_row_tie rfl ⟨rfl, rfl⟩ (by kernel_rfl) rfl plain (by kernel_rfl)
end Go.Proofs.YtodjilljcjkacaaGreatDoor.inboxIds
