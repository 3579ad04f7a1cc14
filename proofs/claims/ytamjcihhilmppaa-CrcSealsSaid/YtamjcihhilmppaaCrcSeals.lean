/- The law CrcSeals, walked. -/
import Derived.Test.YtamjcihhilmppaaCrcRef2
import Derived.Test.YtamjcihhilmppaaCrcTurns
import Derived.Deep.RegionHeld3
import Derived.Test.YtamjcihhilmppaaHeldMore
namespace Go.Proofs.Ytamjcihhilmppaa
open Go.RowKit

set_option maxRecDepth 100000 in
set_option maxHeartbeats 16000000 in
theorem crcSeals_walk (A : Option Addr) (n c : Nat) (l : List UInt8) (w : World) (hB : Bs w A n c l) (_hR : c ≤ 140737488351232) :
    Calls Try.prog 3 #[.slice A n c] w (True_ w) := by
  have hmax := hB.nmax
  have HB := Lib.hid hB; clear hB
  by_cases hn : 3000 < n
  · go_enter Try.func3, Try.ntmps3
    go_wp2_with (fail)
    refine (crcAlive w).mono ?_
    rintro e w1 ⟨rfl, hb1⟩
    go_wp2
    go_ret
    exact ⟨rfl, hb1⟩
  · have HL := Lib.hid HB.out.len
    go_enter Try.func3, Try.ntmps3
    go_wp2_with (fail)
    refine (crcSeal A n c l w HB.out (by omega)).mono ?_
    rintro e w1 ⟨g, rfl, hh1, hg1, hb1⟩
    have hsz1 := hb1.size
    have HB1 := Lib.hid hb1
    have HO := Lib.hid (open_sealed l)
    have RS := Lib.hid (fun (W : World) (h : Bs W A n c l) => refSeal A n c l W h (by omega))
    obtain ⟨S, hS⟩ : ∃ S, S = l ++ be4 (Crc.sum 0 l) := ⟨_, rfl⟩
    have hSl : S.length = n + 4 := by rw [hS, List.length_append, be4_length, HL.out]
    rw [← hS] at hh1 HO RS
    have XS := Lib.hid (Bs.block hh1 hSl (by unfold maxLen; omega))
    have HSl := Lib.hid hSl
    clear hh1 hS hSl hb1
    go_wp2_with (fail)
    refine (crcOpen _ _ _ l w1 (HB.out.below HB1.out) (by omega)).mono ?_
    rintro e w2 ⟨A2, c2, rfl, hB2, hb2⟩
    have HB2 := Lib.hid (HB1.out.trans (hb2.mono hsz1))
    have X2 := Lib.hid hB2
    have XS2 := Lib.hid (XS.out.below hb2)
    clear hB2 hb2
    go_wp2_with (fail)
    refine (refOpen _ _ _ l w2 (HB.out.below HB2.out)).mono ?_
    rintro e w3 ⟨A3, c3, rfl, hB3, hb3⟩
    have HB3 := Lib.hid (HB2.out.trans (hb3.mono HB2.out.size))
    have X3 := Lib.hid hB3
    have X23 := Lib.hid (X2.out.below hb3)
    have XS3 := Lib.hid (XS2.out.below hb3)
    clear hB3 hb3
    go_wp2_with (fail)
    refine (crcOpen _ _ _ S w3 XS3.out (by omega)).mono ?_
    rw [HO.out.1, HO.out.2]
    rintro e w4 ⟨A4, c4, rfl, hB4, hb4⟩
    have HB4 := Lib.hid (HB3.out.trans (hb4.mono HB3.out.size))
    have X4 := Lib.hid hB4
    have X34 := Lib.hid (X3.out.below hb4)
    have X24 := Lib.hid (X23.out.below hb4)
    have XS4 := Lib.hid (XS3.out.below hb4)
    have XB4 := Lib.hid (HB.out.below HB4.out)
    clear hB4 hb4
    generalize openGet l = G at *
    generalize openOk l = ok at *
    rw [HL.out] at X4 ⊢
    generalize G.length = m at *
    go_wp2_with (fail)
    have hok : (ok == ok) = true := beq_self_eq_true ok
    refine wp_region_held_drew (S := fun w' => (convert 22 9 (.slice (some ⟨g, 0, none⟩) (n + 4) (n + 4))).run Try.prog w' = .ok (.string (txt S)) w' ∧ (convert 22 9 (.slice A2 m c2)).run Try.prog w' = .ok (.string (txt G)) w' ∧ (convert 22 9 (.slice A3 m c3)).run Try.prog w' = .ok (.string (txt G)) w' ∧ (convert 22 9 (.slice A4 n c4)).run Try.prog w' = .ok (.string (txt l)) w' ∧ (convert 22 9 (.slice A n c)).run Try.prog w' = .ok (.string (txt l)) w') (by kernel_rfl) ?_ (fun hHeld => ?_)
    · exact ⟨(XS4.out.drew).str1, (X24.out.drew).str1, (X34.out.drew).str1, (X4.out.drew).str1, (XB4.out.drew).str1⟩
    clear hHeld
    refine wpAnyH_ready (rs := [0]) (by kernel_rfl) (by simp) (AllReadyH.cons (o := _) rfl (fun K hK => ?_) AllReadyH.nil)
    go_simp
    refine (crcAlive _).mono ?_
    rintro e w5 ⟨rfl, hb5'⟩
    have hb5 := ((Below.refl _ w4).drew).trans hb5'
    have HB5 := Lib.hid hb5
    dsimp only
    refine hK.out _ _ ⟨(XS4.out.below HB5.out).str1, (X24.out.below HB5.out).str1, (X34.out.below HB5.out).str1, (X4.out.below HB5.out).str1, (XB4.out.below HB5.out).str1⟩ (fun hHeld => ?_)
    clear hK K hb5 hb5'
    refine wpAnyH_take (i := 1) (oi := ⟨some 32, _, _, _, _, _⟩) (v := ?v1) rfl (by kernel_rfl) (by kernel_rfl) (by kernel_rfl) (fun _ _ _ h => h) (Or.inl ⟨by kernel_rfl, ?hy1⟩) hHeld ?rest1
    case hy1 =>
      intro w hSw
      (try dsimp only at hSw)
      go_simp
      (try with_reducible rfl)
    (try simp only [Act.put])
    refine wpAnyH_take (i := 2) (oi := ⟨some 33, _, _, _, _, _⟩) (v := ?v2) rfl (by kernel_rfl) (by kernel_rfl) (by kernel_rfl) (fun _ _ _ h => h) (Or.inl ⟨by kernel_rfl, ?hy2⟩) hHeld ?rest2
    case hy2 =>
      intro w hSw
      (try dsimp only at hSw)
      go_simp
      (try with_reducible rfl)
    (try simp only [Act.put])
    refine wpAnyH_take (i := 3) (oi := ⟨some 34, _, _, _, _, _⟩) (v := ?v3) rfl (by kernel_rfl) (by kernel_rfl) (by kernel_rfl) (fun _ _ _ h => h) (Or.inl ⟨by kernel_rfl, ?hy3⟩) hHeld ?rest3
    case hy3 =>
      intro w hSw
      (try dsimp only at hSw)
      go_simp
      (try with_reducible rfl)
    (try simp only [Act.put])
    refine wpAnyH_take (i := 4) (oi := ⟨some 35, _, _, _, _, _⟩) (v := ?v4) rfl (by kernel_rfl) (by kernel_rfl) (by kernel_rfl) (fun _ _ _ h => h) (Or.inl ⟨by kernel_rfl, ?hy4⟩) hHeld ?rest4
    case hy4 =>
      intro w hSw
      (try dsimp only at hSw)
      go_simp
      (try with_reducible rfl)
    (try simp only [Act.put])
    refine wpAnyH_ready (rs := [5]) (by kernel_rfl) (by simp) (AllReadyH.cons (o := _) rfl (fun K hK => ?_) AllReadyH.nil)
    go_simp
    refine (RS.out _ (XB4.out.below HB5.out)).mono ?_
    rintro e w6 ⟨A6, c6, rfl, hB6, hb6'⟩
    rw [HSl.out] at hB6 ⊢
    have HB6 := Lib.hid (HB5.out.trans (hb6'.mono HB5.out.size))
    dsimp only
    refine hK.out _ _ ⟨(XS4.out.below HB6.out).str1, (X24.out.below HB6.out).str1, (X34.out.below HB6.out).str1, (X4.out.below HB6.out).str1, (XB4.out.below HB6.out).str1⟩ (fun hHeld => ?_)
    clear hK K
    have hHeld : (convert 22 9 (.slice A6 (n + 4) c6)).run Try.prog w6 = .ok (.string (txt S)) w6 ∧ (convert 22 9 (.slice (some ⟨g, 0, none⟩) (n + 4) (n + 4))).run Try.prog w6 = .ok (.string (txt S)) w6 ∧ (convert 22 9 (.slice A2 m c2)).run Try.prog w6 = .ok (.string (txt G)) w6 ∧ (convert 22 9 (.slice A3 m c3)).run Try.prog w6 = .ok (.string (txt G)) w6 ∧ (convert 22 9 (.slice A4 n c4)).run Try.prog w6 = .ok (.string (txt l)) w6 ∧ (convert 22 9 (.slice A n c)).run Try.prog w6 = .ok (.string (txt l)) w6 := ⟨hB6.str1, hHeld⟩
    refine wpAnyH_imp (S' := fun w' => (convert 22 9 (.slice A6 (n + 4) c6)).run Try.prog w' = .ok (.string (txt S)) w' ∧ (convert 22 9 (.slice (some ⟨g, 0, none⟩) (n + 4) (n + 4))).run Try.prog w' = .ok (.string (txt S)) w' ∧ (convert 22 9 (.slice A2 m c2)).run Try.prog w' = .ok (.string (txt G)) w' ∧ (convert 22 9 (.slice A3 m c3)).run Try.prog w' = .ok (.string (txt G)) w' ∧ (convert 22 9 (.slice A4 n c4)).run Try.prog w' = .ok (.string (txt l)) w' ∧ (convert 22 9 (.slice A n c)).run Try.prog w' = .ok (.string (txt l)) w') (fun _ h => h.2) _ _ _ _ ?_
    clear hB6 hb6'
    refine wpAnyH_take (i := 6) (oi := ⟨some 37, _, _, _, _, _⟩) (v := ?v5) rfl (by kernel_rfl) (by kernel_rfl) (by kernel_rfl) (fun _ _ _ h => h) (Or.inl ⟨by kernel_rfl, ?hy5⟩) hHeld ?rest5
    case hy5 =>
      intro w hSw
      (try dsimp only at hSw)
      go_simp
      (try with_reducible rfl)
    (try simp only [Act.put])
    refine wpAnyH_take (i := 7) (oi := ⟨some 38, _, _, _, _, _⟩) (v := ?v6) rfl (by kernel_rfl) (by kernel_rfl) (by kernel_rfl) (fun _ _ _ h => h) (Or.inl ⟨by kernel_rfl, ?hy6⟩) hHeld ?rest6
    case hy6 =>
      intro w hSw
      (try dsimp only at hSw)
      go_simp
      (try with_reducible rfl)
    (try simp only [Act.put])
    refine wpAnyH_take (i := 8) (oi := ⟨some 39, _, _, _, _, _⟩) (v := ?v7) rfl (by kernel_rfl) (by kernel_rfl) (by kernel_rfl) (fun _ _ _ h => h) (Or.inl ⟨by kernel_rfl, ?hy7⟩) hHeld ?rest7
    case hy7 =>
      intro w hSw
      (try dsimp only at hSw)
      go_simp
      (try with_reducible rfl)
    (try simp only [Act.put])
    refine wpAnyH_take (i := 9) (oi := ⟨some 40, _, _, _, _, _⟩) (v := ?v8) rfl (by kernel_rfl) (by kernel_rfl) (by kernel_rfl) (fun _ _ _ h => h) (Or.inl ⟨by kernel_rfl, ?hy8⟩) hHeld ?rest8
    case hy8 =>
      intro w hSw
      (try dsimp only at hSw)
      go_simp
      (try with_reducible rfl)
    (try simp only [Act.put])
    refine wpAnyH_take (i := 10) (oi := ⟨some 41, _, _, _, _, _⟩) (v := ?v9) rfl (by kernel_rfl) (by kernel_rfl) (by kernel_rfl) (fun _ _ _ h => h) (Or.inl ⟨by kernel_rfl, ?hy9⟩) hHeld ?rest9
    case hy9 =>
      intro w hSw
      (try dsimp only at hSw)
      go_simp
      (try with_reducible rfl)
    (try simp only [Act.put])
    refine wpAnyH_take (i := 11) (oi := ⟨some 42, _, _, _, _, _⟩) (v := ?v10) rfl (by kernel_rfl) (by kernel_rfl) (by kernel_rfl) (fun _ _ _ h => h) (Or.inl ⟨by kernel_rfl, ?hy10⟩) hHeld ?rest10
    case hy10 =>
      intro w hSw
      (try dsimp only at hSw)
      go_simp
      (try with_reducible rfl)
    (try simp only [Act.put])
    refine wpAnyH_take (i := 12) (oi := ⟨some 43, _, _, _, _, _⟩) (v := ?v11) rfl (by kernel_rfl) (by kernel_rfl) (by kernel_rfl) (fun _ _ _ h => h) (Or.inl ⟨by kernel_rfl, ?hy11⟩) hHeld ?rest11
    case hy11 =>
      intro w hSw
      (try dsimp only at hSw)
      go_simp
      (try with_reducible rfl)
    (try simp only [Act.put])
    refine wpAnyH_take (i := 13) (oi := ⟨some 44, _, _, _, _, _⟩) (v := ?v12) rfl (by kernel_rfl) (by kernel_rfl) (by kernel_rfl) (fun _ _ _ h => h) (Or.inl ⟨by kernel_rfl, ?hy12⟩) hHeld ?rest12
    case hy12 =>
      intro w hSw
      (try dsimp only at hSw)
      go_simp
      (try with_reducible rfl)
    (try simp only [Act.put])
    refine wpAnyH_take (i := 14) (oi := ⟨some 45, _, _, _, _, _⟩) (v := ?v13) rfl (by kernel_rfl) (by kernel_rfl) (by kernel_rfl) (fun _ _ _ h => h) (Or.inl ⟨by kernel_rfl, ?hy13⟩) hHeld ?rest13
    case hy13 =>
      intro w hSw
      (try dsimp only at hSw)
      go_simp
      (try with_reducible rfl)
    (try simp only [Act.put])
    refine wpAnyH_take (i := 15) (oi := ⟨some 46, _, _, _, _, _⟩) (v := ?v14) rfl (by kernel_rfl) (by kernel_rfl) (by kernel_rfl) (fun _ _ _ h => h) (Or.inl ⟨by kernel_rfl, ?hy14⟩) hHeld ?rest14
    case hy14 =>
      intro w hSw
      (try dsimp only at hSw)
      go_simp
      (try with_reducible rfl)
    (try simp only [Act.put])
    refine wpAnyH_take (i := 16) (oi := ⟨some 47, _, _, _, _, _⟩) (v := ?v15) rfl (by kernel_rfl) (by kernel_rfl) (by kernel_rfl) (fun _ _ _ h => h) (Or.inl ⟨by kernel_rfl, ?hy15⟩) hHeld ?rest15
    case hy15 =>
      intro w hSw
      (try dsimp only at hSw)
      go_simp
      (try with_reducible rfl)
    (try simp only [Act.put])
    refine wpAnyH_take (i := 17) (oi := ⟨some 48, _, _, _, _, _⟩) (v := ?v16) rfl (by kernel_rfl) (by kernel_rfl) (by kernel_rfl) (fun _ _ _ h => h) (Or.inl ⟨by kernel_rfl, ?hy16⟩) hHeld ?rest16
    case hy16 =>
      intro w hSw
      (try dsimp only at hSw)
      go_simp
      (try with_reducible rfl)
    (try simp only [Act.put])
    refine wpAnyH_take (i := 18) (oi := ⟨some 49, _, _, _, _, _⟩) (v := ?v17) rfl (by kernel_rfl) (by kernel_rfl) (by kernel_rfl) (fun _ _ _ h => h) (Or.inl ⟨by kernel_rfl, ?hy17⟩) hHeld ?rest17
    case hy17 =>
      intro w hSw
      (try dsimp only at hSw)
      go_simp
      (try with_reducible rfl)
    (try simp only [Act.put])
    refine wpAnyH_take (i := 19) (oi := ⟨some 50, _, _, _, _, _⟩) (v := ?v18) rfl (by kernel_rfl) (by kernel_rfl) (by kernel_rfl) (fun _ _ _ h => h) (Or.inl ⟨by kernel_rfl, ?hy18⟩) hHeld ?rest18
    case hy18 =>
      intro w hSw
      (try dsimp only at hSw)
      go_simp
      (try with_reducible rfl)
    (try simp only [Act.put])
    refine wpAnyH_take (i := 20) (oi := ⟨some 51, _, _, _, _, _⟩) (v := ?v19) rfl (by kernel_rfl) (by kernel_rfl) (by kernel_rfl) (fun _ _ _ h => h) (Or.inl ⟨by kernel_rfl, ?hy19⟩) hHeld ?rest19
    case hy19 =>
      intro w hSw
      (try dsimp only at hSw)
      go_simp
      (try with_reducible rfl)
    (try simp only [Act.put])
    refine wpAnyH_take (i := 21) (oi := ⟨some 52, _, _, _, _, _⟩) (v := ?v20) rfl (by kernel_rfl) (by kernel_rfl) (by kernel_rfl) (fun _ _ _ h => h) (Or.inl ⟨by kernel_rfl, ?hy20⟩) hHeld ?rest20
    case hy20 =>
      intro w hSw
      (try dsimp only at hSw)
      go_simp
      (try with_reducible rfl)
    (try simp only [Act.put])
    refine wpAnyH_take (i := 22) (oi := ⟨some 53, _, _, _, _, _⟩) (v := ?v21) rfl (by kernel_rfl) (by kernel_rfl) (by kernel_rfl) (fun _ _ _ h => h) (Or.inl ⟨by kernel_rfl, ?hy21⟩) hHeld ?rest21
    case hy21 =>
      intro w hSw
      (try dsimp only at hSw)
      go_simp
      (try with_reducible rfl)
    (try simp only [Act.put])
    refine wpAnyH_take (i := 23) (oi := ⟨some 54, _, _, _, _, _⟩) (v := ?v22) rfl (by kernel_rfl) (by kernel_rfl) (by kernel_rfl) (fun _ _ _ h => h) (Or.inl ⟨by kernel_rfl, ?hy22⟩) hHeld ?rest22
    case hy22 =>
      intro w hSw
      (try dsimp only at hSw)
      go_simp
      (try with_reducible rfl)
    (try simp only [Act.put])
    refine wpAnyH_take (i := 24) (oi := ⟨some 55, _, _, _, _, _⟩) (v := ?v23) rfl (by kernel_rfl) (by kernel_rfl) (by kernel_rfl) (fun _ _ _ h => h) (Or.inl ⟨by kernel_rfl, ?hy23⟩) hHeld ?rest23
    case hy23 =>
      intro w hSw
      (try dsimp only at hSw)
      go_simp
      (try with_reducible rfl)
    (try simp only [Act.put])
    refine wpAnyH_take (i := 25) (oi := ⟨some 56, _, _, _, _, _⟩) (v := ?v24) rfl (by kernel_rfl) (by kernel_rfl) (by kernel_rfl) (fun _ _ _ h => h) (Or.inl ⟨by kernel_rfl, ?hy24⟩) hHeld ?rest24
    case hy24 =>
      intro w hSw
      (try dsimp only at hSw)
      go_simp
      (try with_reducible rfl)
    (try simp only [Act.put])
    refine wpAnyH_take (i := 26) (oi := ⟨some 57, _, _, _, _, _⟩) (v := ?v25) rfl (by kernel_rfl) (by kernel_rfl) (by kernel_rfl) (fun _ _ _ h => h) (Or.inl ⟨by kernel_rfl, ?hy25⟩) hHeld ?rest25
    case hy25 =>
      intro w hSw
      (try dsimp only at hSw)
      go_simp
      (try with_reducible rfl)
    (try simp only [Act.put])
    refine wpAnyH_take (i := 27) (oi := ⟨some 58, _, _, _, _, _⟩) (v := ?v26) rfl (by kernel_rfl) (by kernel_rfl) (by kernel_rfl) (fun _ _ _ h => h) (Or.inl ⟨by kernel_rfl, ?hy26⟩) hHeld ?rest26
    case hy26 =>
      intro w hSw
      (try dsimp only at hSw)
      go_simp
      (try with_reducible rfl)
    (try simp only [Act.put])
    refine wpAnyH_take (i := 28) (oi := ⟨some 59, _, _, _, _, _⟩) (v := ?v27) rfl (by kernel_rfl) (by kernel_rfl) (by kernel_rfl) (fun _ _ _ h => h) (Or.inl ⟨by kernel_rfl, ?hy27⟩) hHeld ?rest27
    case hy27 =>
      intro w hSw
      (try dsimp only at hSw)
      go_simp
      (try with_reducible rfl)
    (try simp only [Act.put])
    refine wpAnyH_take (i := 29) (oi := ⟨some 60, _, _, _, _, _⟩) (v := ?v28) rfl (by kernel_rfl) (by kernel_rfl) (by kernel_rfl) (fun _ _ _ h => h) (Or.inl ⟨by kernel_rfl, ?hy28⟩) hHeld ?rest28
    case hy28 =>
      intro w hSw
      (try dsimp only at hSw)
      go_simp
      (try with_reducible rfl)
    (try simp only [Act.put])
    refine wpAnyH_take (i := 30) (oi := ⟨some 61, _, _, _, _, _⟩) (v := ?v29) rfl (by kernel_rfl) (by kernel_rfl) (by kernel_rfl) (fun _ _ _ h => h) (Or.inl ⟨by kernel_rfl, ?hy29⟩) hHeld ?rest29
    case hy29 =>
      intro w hSw
      (try dsimp only at hSw)
      go_simp
      (try with_reducible rfl)
    (try simp only [Act.put])
    refine wpAnyH_take (i := 31) (oi := ⟨some 2, _, _, _, _, _⟩) (v := ?v30) rfl (by kernel_rfl) (by kernel_rfl) (by kernel_rfl) (fun _ _ _ h => h) (Or.inl ⟨by kernel_rfl, ?hy30⟩) hHeld ?rest30
    case hy30 =>
      intro w hSw
      (try dsimp only at hSw)
      go_simp
      (try with_reducible rfl)
    (try simp only [Act.put])
    simp only [List.setIfInBounds_toArray, List.set_cons_zero, List.set_cons_succ]
    refine wpAnyH_done (by kernel_rfl) ?_ _
    go_wp2_with (fail)
    go_ret
    exact ⟨rfl, HB4.out.trans (HB6.out.mono HB4.out.size)⟩
end Go.Proofs.Ytamjcihhilmppaa
