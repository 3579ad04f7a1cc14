/- DeframeFeeds, walked. -/
import Derived.Test.YtbbamdcdpololaaDfGreat
namespace Go.Proofs.Ytbbamdcdpololaa
open Go.RowKit

set_option maxHeartbeats 8000000 in
set_option maxRecDepth 100000 in
theorem deframeFeeds_walk (n : Int) (A : Option Addr) (k0 c : Nat) (L : List (List UInt8)) (w : World) (_wf : (Lit.int .i64 n).wf = true) (hB : Rd w A k0 c L) (hR : ∀ x ∈ L, x.length ≤ 140737488351232) :
    Calls Try.prog 3 #[.int .i64 n, .slice A k0 c] w (True_ w) := by
  obtain ⟨m, hm1, hm2, hmost⟩ := dMost n
  have hmax := hB.nmax
  have HS := Lib.hid hB
  have HR := Lib.hid hR
  have HLN := Lib.hid hB.1
  have HMO := Lib.hid hmost
  clear _wf hB hR hmost
  go_enter Try.func3, Try.ntmps3
  go_wp2_with (fail)
  refine (alive05 w).mono ?_
  rintro e w0 ⟨rfl, hb⟩
  have HB0 := Lib.hid hb
  clear hb
  go_wp2_with (fail)
  refine (great05 A k0 c L w0 (HS.out.below HB0.out) HR.out).mono ?_
  rintro e w' ⟨⟨r, rfl, hr⟩, rfl⟩
  cases r
  case true =>
    clear hr
    go_wp2_with (fail)
    refine (alive05 w0).mono ?_
    rintro e w3 ⟨rfl, hb⟩
    have HB3 : Hid (Below w.heap.size w w3) := Lib.hid (HB0.out.trans (hb.mono HB0.out.size))
    clear hb
    go_wp2_with (fail)
    go_ret
    exact ⟨rfl, HB3.out⟩
  have HG := Lib.hid (hr rfl)
  clear hr
  go_wp2_with (fail)
  refine (HMO.out w0).mono ?_
  rintro e w' ⟨rfl, rfl⟩
  go_wp2_with (fail)
  refine (dNew m hm1 (by omega) w0).mono ?_
  rintro e w1 ⟨D, rfl, hd, hb⟩
  have HD1 := Lib.hid hd
  have HB1 : Hid (Below w.heap.size w w1) := Lib.hid (HB0.out.trans (hb.mono HB0.out.size))
  have HW0 : Hid (w.heap.size ≤ w0.heap.size ∧ w0.heap.size ≤ w1.heap.size) := Lib.hid ⟨HB0.out.size, hb.size⟩
  have HDW : Hid (D < w1.heap.size) := Lib.hid hd.lt
  clear hd hb
  go_wp2_with (fail)
  go_loopw [7, 8, 35, 10, 11, 12, 13] (fun a t i _ _ _ _ wr => ∃ (k : Nat) (O : Option Nat), k ≤ k0 ∧ i = .int .i64 k ∧ t = .int .i64 ((feedD m newS (L.take k).flatten).2.length : Int) ∧ Own 5 wr w1.heap.size a (L.take k).flatten ∧ (∀ j, a.ownBlock = some j → ¬ dS D O j) ∧
    Df w0.heap.size D O m (feedD m newS (L.take k).flatten).1 wr ∧ Below w.heap.size w wr ∧ w1.heap.size ≤ wr.heap.size) (fun _ _ i _ _ _ _ _ => k0 - (intOf i).toNat)
  case atStart => exact ⟨0, none, Nat.zero_le _, rfl, rfl, Own.nil _ _ _, (fun j hj => by cases hj), HD1.out, HB1.out, Nat.le_refl _⟩
  case round =>
    clear HD1 HB1
    obtain ⟨wo, rfl⟩ : ∃ wo : World, wo = wr := ⟨_, rfl⟩
    obtain ⟨k, O, hk, rfl, rfl, hown, hsep, hd, hb, hsz⟩ := hrel
    have HOWN := Lib.hid hown
    have HSEP := Lib.hid hsep
    have HD := Lib.hid hd
    have HB := Lib.hid hb
    have HSZ := Lib.hid hsz
    clear hown hsep hd hb hsz
    by_cases hlt : k < k0
    · obtain ⟨b, o, Ai, ci, rfl, hbl, hc, hB⟩ := HS.out.read hlt
      have hcc := (HB.out.cell (p := ⟨b, o + k, none⟩) hbl).trans hc
      have HBY := Lib.hid hB
      have e1 : (k : Int) < (k0 : Int) := by omega
      have htk := take_getD L k (by rw [HLN.out]; exact hlt)
      have HTK : Hid ((L.take (k + 1)).flatten = (L.take k).flatten ++ L.getD k []) := Lib.hid (by rw [htk]; simp)
      have HXL : Hid ((L.take k).flatten.length + (L.getD k []).length ≤ 3000) := Lib.hid (by
        have h1 := lens_take L (k + 1)
        have h2 := HG.out.2
        rw [htk, lensOf_snoc] at h1
        rw [List.length_flatten]
        show lensOf (L.take k) + (L.getD k []).length ≤ 3000
        omega)
      have HLT := Lib.hid hlt
      clear hbl hc hB htk hlt
      generalize (L.take k).flatten = X at *
      generalize L.getD k [] = y at *
      have hup := feed_up (new_up m) X X.length (Nat.le_refl _)
      rw [List.take_length] at hup
      have HUP := Lib.hid hup
      have happ := feedD_append m newS X y
      obtain ⟨F, hF⟩ : ∃ F, feedD m newS X = F := ⟨_, rfl⟩
      rw [hF] at HD HUP happ ⊢
      obtain ⟨G, hG⟩ : ∃ G, feedD m F.1 y = G := ⟨_, rfl⟩
      rw [hG] at happ
      obtain ⟨Z, hZ⟩ : ∃ Z, X ++ y = Z := ⟨_, rfl⟩
      rw [hZ] at happ
      have HZL : Hid (Z.length ≤ 3000) := Lib.hid (by rw [← hZ, List.length_append]; exact HXL.out)
      have HZ := Lib.hid hZ
      obtain ⟨P, hP⟩ : ∃ P, feedD m newS Z = P := ⟨_, rfl⟩
      have HUP2 : Hid (St.Up m (0 + Z.length) P.1) := Lib.hid (by
        have := feed_up (new_up m) Z Z.length (Nat.le_refl _)
        rwa [List.take_length, hP] at this)
      have HFL : Hid (P.2.length ≤ Z.length) := Lib.hid (by
        have := feed_len m newS Z Z.length (Nat.le_refl _)
        rwa [List.take_length, hP] at this)
      rw [hP] at happ
      have HP1 : Hid (P.1 = G.1) := Lib.hid (by rw [happ])
      have HP2 : Hid (P.2 = F.2 ++ G.2) := Lib.hid (by rw [happ])
      have HPP := Lib.hid hP
      have HGG := Lib.hid hG
      have HFF := Lib.hid hF
      clear hup happ hF hG hP hZ
      have hwo : w0.heap.size ≤ wo.heap.size := Nat.le_trans HW0.out.2 HSZ.out
      have HWO := Lib.hid hwo
      go_wp2_with (fail)
      refine (dFeed w0.heap.size D O m (0 + X.length) F.1 wo HD.out hwo (by omega) HUP.out Ai y.length ci y (HBY.out.below HB.out) (fun h0 b hb hs => by
        obtain ⟨b', o', e, hlt, _⟩ := HBY.out.at_ h0
        rw [e] at hb
        injection hb with hb
        subst hb
        rcases hs with hs | hs
        · have := HD.out.base; have := HW0.out.1; simp at hs; omega
        · have := (HD.out.own b' hs.symm).1; have := HW0.out.1; omega) (by have := HXL.out; omega)).mono ?_
      rintro e w4 ⟨v4, O4, rfl, hr4, hd4, hm4⟩
      rw [HGG.out] at hr4 hd4
      have hsh := feed_short HUP.out y y.length (Nat.le_refl _)
      rw [List.take_length, HGG.out] at hsh
      have hob : ∀ j, u7.ownBlock = some j → w1.heap.size ≤ j ∧ j < wo.heap.size := fun j hj => Own.lt HOWN.out j hj
      have hdS4 : ∀ j, j < wo.heap.size → dS D O4 j → dS D O j := fun j hj hs => by
        rcases hs with hs | hs
        · exact .inl hs
        · exact .inr (hm4.2 j hs.symm hj).symm
      have HSEP4 : Hid (∀ j, u7.ownBlock = some j → ¬ dS D O4 j) := Lib.hid (fun j hj hs => HSEP.out j hj (hdS4 j (hob j hj).2 hs))
      have HOWN4 : Hid (Own 5 w4 w1.heap.size u7 X) := Lib.hid (HOWN.out.ch hm4.1 (fun j hj hs => HSEP.out j hj hs))
      have HB4 : Hid (Below w.heap.size w w4) := Lib.hid (HB.out.trans ((hm4.low HD.out hwo).mono HW0.out.1))
      have HSZ4 : Hid (w1.heap.size ≤ w4.heap.size) := Lib.hid (Nat.le_trans HSZ.out hm4.1.size)
      have HR4 : Hid (RowsAt wo.heap.size (fun j => u7.ownBlock = some j) w4 v4 G.2) := Lib.hid (hr4.other (fun j hj _ hs => by have := (hob j hs).2; omega))
      have HD4 := Lib.hid hd4
      have HSH := Lib.hid hsh
      have HOB : Hid (∀ j, u7.ownBlock = some j → w1.heap.size ≤ j) := Lib.hid (fun j hj => (hob j hj).1)
      obtain ⟨A4, c4, hv4⟩ : ∃ A4 c4, v4 = .slice A4 G.2.length c4 := by
        obtain ⟨gs, hg⟩ := hr4
        exact own_form hg.2.1
      subst hv4
      clear hr4 hd4 hm4 hsh hob hdS4 HOWN HSEP HB HD hwo
      have tok1 : Hid True := Lib.hid trivial
      go_wp2_with (at_builtin; have _t := tok1; go_loud ((refine wpList_appL rfl (.tmp 45) (.tmp 46) rfl w1.heap.size u7 X rfl HOWN4.out Ai y.length ci y rfl (HBY.out.below HB4.out) (by have := HXL.out; omega) HSZ4.out ?_; intro va w5 hown5 hgr5 hfr5; rw [HZ.out] at hown5; obtain ⟨A5, c5, rfl, hb5, _⟩ := Own.bs hown5; have HOWN5 := Lib.hid hown5; have HGR5 := Lib.hid hgr5; have HFR5 := Lib.hid hfr5; have HBS5 := Lib.hid hb5; clear tok1 hown5 hgr5 hfr5 hb5 _t)))
      refine (HMO.out w5).mono ?_
      rintro e w' ⟨rfl, rfl⟩
      have hch5 : Ch (fun j => u7.ownBlock = some j) w4 w5 := Ch.of_grown HGR5.out (fun j hj => hj)
      have HD5 : Hid (Df w0.heap.size D O4 m G.1 w5) := Lib.hid (HD4.out.ch hch5 (fun hs => HSEP4.out _ hs (.inl rfl)) (fun j hj hs => HSEP4.out j hs (.inr hj.symm)))
      have HSEP5 : Hid (∀ j, (Value.slice A5 Z.length c5).ownBlock = some j → ¬ dS D O4 j) := Lib.hid (fun j hj hs => by
        rcases HFR5.out with e | e
        · exact HSEP4.out j (by rw [← e]; exact hj) hs
        · rw [hj] at e
          injection e with e
          rcases hs with hs | hs
          · have := HD4.out.lt; omega
          · have := (HD4.out.own j hs.symm).2; omega)
      have HR5 : Hid (RowsAt wo.heap.size (fun j => u7.ownBlock = some j) w5 (.slice A4 G.2.length c4) G.2) := Lib.hid (HR4.out.ch hch5 (fun _ _ h => h))
      have HB5 : Hid (Below w.heap.size w w5) := Lib.hid (HB4.out.trans (hch5.below (fun j hj => by have := HOB.out j hj; have := HW0.out; omega) HB4.out.size))
      have HSZ5 : Hid (w1.heap.size ≤ w5.heap.size) := Lib.hid (Nat.le_trans HSZ4.out hch5.size)
      clear hch5 HD4 HB4 HR4 HSZ4 HOWN4 HSEP4 HGR5 HFR5 HOB
      go_wp2_with (fail)
      refine (refRead m (by omega) A5 Z.length c5 Z w5 HBS5.out (by have := HZL.out; omega)).mono ?_
      rintro e w6 ⟨A6, c6, rfl, hrd6, hb6⟩
      rw [HPP.out] at hrd6 ⊢
      have hb7 : Below w6.heap.size w6 (w6.alloc (.cells (told (.slice A6 P.2.length c6) (heldD P.1) P.1.junk P.1.over P.1.broken) 34)) := (Below.refl _ w6).alloc (Nat.le_refl _) _
      have hb67 : Below w5.heap.size w5 (w6.alloc (.cells (told (.slice A6 P.2.length c6) (heldD P.1) P.1.junk P.1.over P.1.broken) 34)) := hb6.trans (hb7.mono hb6.size)
      have HD7 := Lib.hid (HD5.out.below hb67)
      have HOWN7 := Lib.hid (HOWN5.out.below hb67)
      have HB7 : Hid (Below w.heap.size w (w6.alloc (.cells (told (.slice A6 P.2.length c6) (heldD P.1) P.1.junk P.1.over P.1.broken) 34))) := Lib.hid (HB5.out.trans (hb67.mono HB5.out.size))
      have HSZ7 : Hid (w1.heap.size ≤ (w6.alloc (.cells (told (.slice A6 P.2.length c6) (heldD P.1) P.1.junk P.1.over P.1.broken) 34)).heap.size) := Lib.hid (Nat.le_trans HSZ5.out hb67.size)
      have HRG7 := Lib.hid (HR5.out.below hb67)
      have HRF7 := Lib.hid (hrd6.below hb7)
      have hrow7 := heap_alloc_new w6 (.cells (told (.slice A6 P.2.length c6) (heldD P.1) P.1.junk P.1.over P.1.broken) 34)
      have hN : P.2.length = F.2.length + G.2.length := by rw [HP2.out, List.length_append]
      have hq : ¬ ((P.2.length : Int) < (F.2.length : Int)) := by omega
      have hc6 : P.2.length ≤ c6 := HRF7.out.2.1
      have hcm6 : c6 ≤ 9223372036854775807 := by have := HRF7.out.2.2.1; simp only [maxLen] at this; omega
      have HNQ : Hid (P.2.length - F.2.length = G.2.length) := Lib.hid (by omega)
      have HQN : Hid (F.2.length ≤ P.2.length) := Lib.hid (by omega)
      have HDR : Hid (P.2.drop F.2.length = G.2) := Lib.hid (by rw [HP2.out, List.drop_left])
      have hqn : F.2.length ≤ P.2.length := HQN.out
      have hqi : (F.2.length : Int) ≤ (P.2.length : Int) := by omega
      clear hN
      clear hrd6 hb6 hb7 hb67 HD5 HOWN5 HB5 HSZ5 HR5
      by_cases hcq : c6 = F.2.length
      · subst hcq
        have HG0 : Hid (G.2.length = 0) := Lib.hid (by have := HNQ.out; omega)
        go_wp2_with (fail)
        generalize w6.heap.size = T at *
        generalize (w6.alloc (.cells (told (.slice A6 P.2.length F.2.length) (heldD P.1) P.1.junk P.1.over P.1.broken) 34)) = w7 at *
        have HTL : Hid (T < w7.heap.size) := Lib.hid (Array.getElem?_eq_some_iff.1 hrow7).1
        have t0 := cell_of_row w7 T 0 _ _ _ hrow7
        have t1 := cell_of_row w7 T 1 _ _ _ hrow7
        have t2 := cell_of_row w7 T 2 _ _ _ hrow7
        have t3 := cell_of_row w7 T 3 _ _ _ hrow7
        have t4 := cell_of_row w7 T 4 _ _ _ hrow7
        simp only [told, List.getElem?_toArray, List.getElem?_cons_zero, List.getElem?_cons_succ] at t0 t1 t2 t3 t4
        clear hrow7
        rw [HG0.out]
        have hrdF := HRF7.out.drop (q := F.2.length) HQN.out
        rw [HNQ.out, HDR.out, if_pos rfl, Nat.sub_self, HG0.out] at hrdF
        obtain ⟨Ag, cg, eg, hrdG⟩ := HRG7.out.rd (fun x hx => by have := HSH.out x hx; simp only [maxLen]; omega)
        injection eg with eg1 eg2 eg3
        subst eg1 eg3
        rw [HG0.out] at hrdG
        refine (same05 A4 A6 0 c4 0 G.2 w7 hrdG hrdF).mono ?_
        rintro e w8 ⟨rfl, hb8⟩
        have HD8 : Hid (Df w0.heap.size D O4 m P.1 w8) := Lib.hid (by rw [HP1.out]; exact HD7.out.below hb8)
        have HOWN8 := Lib.hid (HOWN7.out.below hb8)
        have HB8 : Hid (Below w.heap.size w w8) := Lib.hid (HB7.out.trans (hb8.mono HB7.out.size))
        have HSZ8 : Hid (w1.heap.size ≤ w8.heap.size) := Lib.hid (Nat.le_trans HSZ7.out hb8.size)
        have s0 := (hb8.cell (p := ⟨T, 0, none⟩) HTL.out).trans t0
        have s1 := (hb8.cell (p := ⟨T, 1, none⟩) HTL.out).trans t1
        have s2 := (hb8.cell (p := ⟨T, 2, none⟩) HTL.out).trans t2
        have s3 := (hb8.cell (p := ⟨T, 3, none⟩) HTL.out).trans t3
        have s4 := (hb8.cell (p := ⟨T, 4, none⟩) HTL.out).trans t4
        have hfr8 : P.1.fr.length ≤ 1000000 := by have := HUP2.out.fr; omega
        have HFR8 := Lib.hid hfr8
        clear t0 t1 t2 t3 t4 hb8 hrdF hrdG HD7 HOWN7 HB7 HSZ7 HRG7 HRF7 hfr8
        go_wp2_with (fail)
        go_region_held3 (fun w' => w'.cell? ⟨T, 1, none⟩ = some (.int .i64 (heldD P.1 : Int)) ∧ w'.cell? ⟨T, 2, none⟩ = some (.int .i64 (P.1.junk : Int)) ∧ w'.cell? ⟨T, 3, none⟩ = some (.int .i64 (P.1.over : Int)) ∧ w'.cell? ⟨T, 4, none⟩ = some (.int .i64 (P.1.broken : Int))) (go_keep)
          (first
          | (go_at_call 16; refine (dHeld w0.heap.size D O4 m P.1 _ HD8.out.drew HFR8.out).mono ?_; rintro e w' ⟨rfl, rfl⟩)
          | (go_at_call 17; refine (dJunk w0.heap.size D O4 m P.1 _ HD8.out.drew).mono ?_; rintro e w' ⟨rfl, rfl⟩)
          | (go_at_call 18; refine (dOver w0.heap.size D O4 m P.1 _ HD8.out.drew).mono ?_; rintro e w' ⟨rfl, rfl⟩)
          | (go_at_call 19; refine (dBroken w0.heap.size D O4 m P.1 _ HD8.out.drew).mono ?_; rintro e w' ⟨rfl, rfl⟩))
        go_wp2_with (fail)
        refine ⟨⟨k + 1, O4, HLT.out, by go_num, ?_, ?_, HSEP5.out, ?_, HB8.out.drew, HSZ8.out⟩, by have := HLT.out; simp [intOf]; omega⟩
        · rw [HTK.out, HZ.out, HPP.out]
        · rw [HTK.out, HZ.out]
          exact HOWN8.out.below (Below.refl _ w8).drew
        · rw [HTK.out, HZ.out, HPP.out]
          exact HD8.out.drew
      · have HCQ := Lib.hid hcq
        go_wp2_with (fail)
        generalize w6.heap.size = T at *
        generalize (w6.alloc (.cells (told (.slice A6 P.2.length c6) (heldD P.1) P.1.junk P.1.over P.1.broken) 34)) = w7 at *
        have HTL : Hid (T < w7.heap.size) := Lib.hid (Array.getElem?_eq_some_iff.1 hrow7).1
        have t0 := cell_of_row w7 T 0 _ _ _ hrow7
        have t1 := cell_of_row w7 T 1 _ _ _ hrow7
        have t2 := cell_of_row w7 T 2 _ _ _ hrow7
        have t3 := cell_of_row w7 T 3 _ _ _ hrow7
        have t4 := cell_of_row w7 T 4 _ _ _ hrow7
        simp only [told, List.getElem?_toArray, List.getElem?_cons_zero, List.getElem?_cons_succ] at t0 t1 t2 t3 t4
        clear hrow7
        rw [HNQ.out]
        have hrdF := HRF7.out.drop (q := F.2.length) HQN.out
        rw [HNQ.out, HDR.out, if_neg HCQ.out] at hrdF
        obtain ⟨Ag, cg, eg, hrdG⟩ := HRG7.out.rd (fun x hx => by have := HSH.out x hx; simp only [maxLen]; omega)
        injection eg with eg1 eg2 eg3
        subst eg1 eg3
        refine (same05 A4 (Option.map (fun x => x.add F.2.length) A6) G.2.length c4 (c6 - F.2.length) G.2 w7 hrdG hrdF).mono ?_
        rintro e w8 ⟨rfl, hb8⟩
        have HD8 : Hid (Df w0.heap.size D O4 m P.1 w8) := Lib.hid (by rw [HP1.out]; exact HD7.out.below hb8)
        have HOWN8 := Lib.hid (HOWN7.out.below hb8)
        have HB8 : Hid (Below w.heap.size w w8) := Lib.hid (HB7.out.trans (hb8.mono HB7.out.size))
        have HSZ8 : Hid (w1.heap.size ≤ w8.heap.size) := Lib.hid (Nat.le_trans HSZ7.out hb8.size)
        have s0 := (hb8.cell (p := ⟨T, 0, none⟩) HTL.out).trans t0
        have s1 := (hb8.cell (p := ⟨T, 1, none⟩) HTL.out).trans t1
        have s2 := (hb8.cell (p := ⟨T, 2, none⟩) HTL.out).trans t2
        have s3 := (hb8.cell (p := ⟨T, 3, none⟩) HTL.out).trans t3
        have s4 := (hb8.cell (p := ⟨T, 4, none⟩) HTL.out).trans t4
        have hfr8 : P.1.fr.length ≤ 1000000 := by have := HUP2.out.fr; omega
        have HFR8 := Lib.hid hfr8
        clear t0 t1 t2 t3 t4 hb8 hrdF hrdG HD7 HOWN7 HB7 HSZ7 HRG7 HRF7 hfr8
        go_wp2_with (fail)
        go_region_held3 (fun w' => w'.cell? ⟨T, 1, none⟩ = some (.int .i64 (heldD P.1 : Int)) ∧ w'.cell? ⟨T, 2, none⟩ = some (.int .i64 (P.1.junk : Int)) ∧ w'.cell? ⟨T, 3, none⟩ = some (.int .i64 (P.1.over : Int)) ∧ w'.cell? ⟨T, 4, none⟩ = some (.int .i64 (P.1.broken : Int))) (go_keep)
          (first
          | (go_at_call 16; refine (dHeld w0.heap.size D O4 m P.1 _ HD8.out.drew HFR8.out).mono ?_; rintro e w' ⟨rfl, rfl⟩)
          | (go_at_call 17; refine (dJunk w0.heap.size D O4 m P.1 _ HD8.out.drew).mono ?_; rintro e w' ⟨rfl, rfl⟩)
          | (go_at_call 18; refine (dOver w0.heap.size D O4 m P.1 _ HD8.out.drew).mono ?_; rintro e w' ⟨rfl, rfl⟩)
          | (go_at_call 19; refine (dBroken w0.heap.size D O4 m P.1 _ HD8.out.drew).mono ?_; rintro e w' ⟨rfl, rfl⟩))
        go_wp2_with (fail)
        refine ⟨⟨k + 1, O4, HLT.out, by go_num, ?_, ?_, HSEP5.out, ?_, HB8.out.drew, HSZ8.out⟩, by have := HLT.out; simp [intOf]; omega⟩
        · rw [HTK.out, HZ.out, HPP.out]
        · rw [HTK.out, HZ.out]
          exact HOWN8.out.below (Below.refl _ w8).drew
        · rw [HTK.out, HZ.out, HPP.out]
          exact HD8.out.drew
    · go_wp2_with (fail)
      go_ret
      exact ⟨rfl, HB.out⟩
end Go.Proofs.Ytbbamdcdpololaa
