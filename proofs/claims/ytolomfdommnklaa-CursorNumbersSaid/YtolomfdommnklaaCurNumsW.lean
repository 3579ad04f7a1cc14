/- CursorNumbers, walked. -/
import Derived.Test.YtolomfdommnklaaCur7
import Derived.Test.YtolomfdommnklaaHeldMore
namespace Go.Proofs.Ytolomfdommnklaa
open Go.RowKit Go.MapKept

set_option maxHeartbeats 8000000 in
set_option maxRecDepth 100000 in
theorem curNums_no (A : Option Addr) (k c : Nat) (l : List UInt8) (nm : ByteArray) (w : World) (hB : Bs w A k c l) (hk : k ≤ 140737488351232) (n : Int) (hn : ¬ (0 ≤ n ∧ n ≤ 1099511627776)) : Calls Try.prog 3 #[.int .i64 n, .slice A k c, .string nm] w (True_ w) := by
  have HB := Lib.hid hB
  have HK := Lib.hid hk
  clear hB hk

  have HN := Lib.hid hn
  clear hn
  go_enter Try.func3, Try.ntmps3
  go_wp2_with (fail)
  refine (curBytes_no n HN.out w).mono ?_
  rintro e w1 ⟨rfl, hw⟩
  have HB1 : Hid (Below w.heap.size w w1) := Lib.hid (hw ▸ Below.refl _ _)
  clear hw
  go_wp2_with (fail)
  refine (curNumber A k c l w1 (HB.out.below HB1.out) HK.out).mono ?_
  rintro e w2 ⟨rfl, hb2⟩
  have HB2 : Hid (Below w.heap.size w w2) := Lib.hid (HB1.out.trans (hb2.mono HB1.out.size))
  clear hb2
  go_wp2_with (fail)
  refine (refNumber15 A k c l w2 (HB.out.below HB2.out)).mono ?_
  rintro e w3 ⟨rfl, hb3⟩
  have HB3 : Hid (Below w.heap.size w w3) := Lib.hid (HB2.out.trans (hb3.mono HB2.out.size))
  clear hb3
  generalize (numD l).1 = K
  generalize (numD l).2 = E
  go_wp2_with (fail)
  refine (curAlive w3).mono ?_
  rintro e w4 ⟨rfl, hb4⟩
  have HB4 : Hid (Below w.heap.size w w4) := Lib.hid (HB3.out.trans (hb4.mono HB3.out.size))
  clear hb4
  have nK : (K != K) = false := by simp
  have nE : (E != E) = false := by simp
  by_cases hneg : n < 0
  · have d0 : decide (n < 0) = true := by simpa using hneg
    clear hneg
    by_cases h5 : nm.size < 500
    · have d5 : decide ((nm.size : Int) < 500) = true := by simp; omega
      have s5 : ¬ 9223372036854775807 < nm.size + 4 := by omega
      have HS : Hid (nm.size ≤ 140737488355000) := Lib.hid (by omega)
      have hself : ((tmpN nm).toList == (tmpN nm).toList) = true := by simp
      have HTN : Hid (tmpN nm = nm ++ ⟨#[46, 116, 109, 112]⟩) := Lib.hid rfl
      clear h5
      go_wp2_with (fail)
      refine (curTemp nm HS.out w4).mono ?_
      rintro e w5 ⟨rfl, rfl⟩
      rw [HTN.out] at hself ⊢
      go_wp2_with (fail)
      go_ret
      exact ⟨rfl, HB4.out⟩
    · have d5 : decide ((nm.size : Int) < 500) = false := by simp; omega
      clear h5
      go_wp2_with (fail)
      go_ret
      exact ⟨rfl, HB4.out⟩
  · have d0 : decide (n < 0) = false := by simpa using hneg
    have d1' : 1099511627776 < n := by have := HN.out; omega
    have d1 : decide (1099511627776 < n) = true := by simpa using d1'
    by_cases h5 : nm.size < 500
    · have d5 : decide ((nm.size : Int) < 500) = true := by simp; omega
      have s5 : ¬ 9223372036854775807 < nm.size + 4 := by omega
      have HS : Hid (nm.size ≤ 140737488355000) := Lib.hid (by omega)
      have hself : ((tmpN nm).toList == (tmpN nm).toList) = true := by simp
      have HTN : Hid (tmpN nm = nm ++ ⟨#[46, 116, 109, 112]⟩) := Lib.hid rfl
      clear h5
      go_wp2_with (fail)
      refine (curTemp nm HS.out w4).mono ?_
      rintro e w5 ⟨rfl, rfl⟩
      rw [HTN.out] at hself ⊢
      go_wp2_with (fail)
      go_ret
      exact ⟨rfl, HB4.out⟩
    · have d5 : decide ((nm.size : Int) < 500) = false := by simp; omega
      clear h5
      go_wp2_with (fail)
      go_ret
      exact ⟨rfl, HB4.out⟩
set_option maxHeartbeats 8000000 in
set_option maxRecDepth 100000 in
theorem curNums_yes (A : Option Addr) (k c : Nat) (l : List UInt8) (nm : ByteArray) (w : World) (hB : Bs w A k c l) (hk : k ≤ 140737488351232) (m : Nat) (hm : m ≤ 1099511627776) : Calls Try.prog 3 #[.int .i64 (m : Int), .slice A k c, .string nm] w (True_ w) := by
  have HB := Lib.hid hB
  have HK := Lib.hid hk
  clear hB hk

  have HN := Lib.hid hm
  clear hm
  go_enter Try.func3, Try.ntmps3
  go_wp2_with (fail)
  refine (curBytes m HN.out w).mono ?_
  rintro e w1 ⟨g, rfl, hg, hrow, hb1⟩
  have HR1 := Lib.hid hrow
  have HB1 := Lib.hid hb1
  clear hg hrow hb1
  go_wp2_with (fail)
  refine (curNumber A k c l w1 (HB.out.below HB1.out) HK.out).mono ?_
  rintro e w2 ⟨rfl, hb2⟩
  have HR2 : Hid (w2.heap[g]? = some (.cells (u8s (bytesD m)).toArray 5)) := Lib.hid ((hb2.block g (Array.getElem?_eq_some_iff.1 HR1.out).1).trans HR1.out)
  have HB2 : Hid (Below w.heap.size w w2) := Lib.hid (HB1.out.trans (hb2.mono HB1.out.size))
  clear hb2
  go_wp2_with (fail)
  refine (refNumber15 A k c l w2 (HB.out.below HB2.out)).mono ?_
  rintro e w3 ⟨rfl, hb3⟩
  have HR3 : Hid (w3.heap[g]? = some (.cells (u8s (bytesD m)).toArray 5)) := Lib.hid ((hb3.block g (Array.getElem?_eq_some_iff.1 HR2.out).1).trans HR2.out)
  have HB3 : Hid (Below w.heap.size w w3) := Lib.hid (HB2.out.trans (hb3.mono HB2.out.size))
  clear hb3
  generalize (numD l).1 = K
  generalize (numD l).2 = E
  go_wp2_with (fail)
  refine (curAlive w3).mono ?_
  rintro e w4 ⟨rfl, hb4⟩
  have HR4 : Hid (w4.heap[g]? = some (.cells (u8s (bytesD m)).toArray 5)) := Lib.hid ((hb4.block g (Array.getElem?_eq_some_iff.1 HR3.out).1).trans HR3.out)
  have HB4 : Hid (Below w.heap.size w w4) := Lib.hid (HB3.out.trans (hb4.mono HB3.out.size))
  clear hb4
  have nK : (K != K) = false := by simp
  have nE : (E != E) = false := by simp
  have d0 : decide ((m : Int) < 0) = false := by simp
  have d1 : decide ((1099511627776 : Int) < (m : Int)) = false := by have := HN.out; simp; omega
  have d2 : ¬ ((1099511627776 : Int) < (m : Int)) := by have := HN.out; omega
  have hmm : ((m : Int) == (m : Int)) = true := by simp
  by_cases h5 : nm.size < 500
  · have d5 : decide ((nm.size : Int) < 500) = true := by simp; omega
    have s5 : ¬ 9223372036854775807 < nm.size + 4 := by omega
    have HS : Hid (nm.size ≤ 140737488355000) := Lib.hid (by omega)
    have hself : ((tmpN nm).toList == (tmpN nm).toList) = true := by simp
    have HTN : Hid (tmpN nm = nm ++ ⟨#[46, 116, 109, 112]⟩) := Lib.hid rfl
    clear h5
    go_wp2_with (fail)
    refine (curTemp nm HS.out w4).mono ?_
    rintro e w5 ⟨rfl, rfl⟩
    rw [HTN.out] at hself ⊢
    go_wp2_with (fail)
    refine (curNumber (some ⟨g, 0, none⟩) 12 12 (bytesD m) w4 (Bs.block HR4.out (n := 12) rfl (by decide)) (by decide)).mono ?_
    rw [numD_bytes HN.out]
    rintro e w6 ⟨rfl, hb6⟩
    have HR6 : Hid (w6.heap[g]? = some (.cells (u8s (bytesD m)).toArray 5)) := Lib.hid ((hb6.block g (Array.getElem?_eq_some_iff.1 HR4.out).1).trans HR4.out)
    have HB6 : Hid (Below w.heap.size w w6) := Lib.hid (HB4.out.trans (hb6.mono HB4.out.size))
    clear hb6
    obtain ⟨X, hX⟩ : ∃ X, X = bytesD m := ⟨_, rfl⟩
    have HXL : Hid (X.length = 12) := Lib.hid (by rw [hX]; rfl)
    have HPUT : Hid (∀ W, Calls Try.prog 14 #[.int .i64 (m : Int)] W (RetS X W)) := Lib.hid (fun W => hX ▸ refBytes15 m HN.out W)
    have HX6 : Hid (Bs w6.drew (some ⟨g, 0, none⟩) 12 12 X) := Lib.hid (hX ▸ ((Bs.block HR6.out (n := 12) rfl (by decide)).drew))
    clear hX HR6 HR4 HR3 HR2 HR1
    have htt : ((txt X).toList == (txt X).toList) = true := by simp
    clear d0 d1 d2 d5 nK nE
    go_wp2_with (fail)
    refine wp_region_held_drew (S := fun w' => (convert 22 9 (.slice (some ⟨g, 0, none⟩) 12 12)).run Try.prog w' = .ok (.string (txt X)) w') (by kernel_rfl) ?_ (fun hHeld => ?_)
    · exact HX6.out.str (P := Try.prog) 22 5 9 Try.underlying22 Try.underlying5 Try.underlying9
    refine wpAnyH_take (i := 0) (oi := ⟨some 72, _, _, _, _, _⟩) (v := ?v1) rfl (by kernel_rfl) (by kernel_rfl) (by kernel_rfl) (fun _ _ _ h => h) (Or.inl ⟨by kernel_rfl, ?hy1⟩) hHeld ?rest1
    case hy1 =>
      intro w hSw
      (try dsimp only at hSw)
      go_simp
      (try with_reducible rfl)
    (try simp only [Act.put])
    refine wpAnyH_take (i := 1) (oi := ⟨some 73, _, _, _, _, _⟩) (v := ?v2) rfl (by kernel_rfl) (by kernel_rfl) (by kernel_rfl) (fun _ _ _ h => h) (Or.inl ⟨by kernel_rfl, ?hy2⟩) hHeld ?rest2
    case hy2 =>
      intro w hSw
      (try dsimp only at hSw)
      go_simp
      (try with_reducible rfl)
    (try simp only [Act.put])
    refine wpAnyH_take (i := 2) (oi := ⟨some 74, _, _, _, _, _⟩) (v := ?v3) rfl (by kernel_rfl) (by kernel_rfl) (by kernel_rfl) (fun _ _ _ h => h) (Or.inl ⟨by kernel_rfl, ?hy3⟩) hHeld ?rest3
    case hy3 =>
      intro w hSw
      (try dsimp only at hSw)
      go_simp
      (try with_reducible rfl)
    (try simp only [Act.put])
    refine wpAnyH_take (i := 3) (oi := ⟨some 75, _, _, _, _, _⟩) (v := ?v4) rfl (by kernel_rfl) (by kernel_rfl) (by kernel_rfl) (fun _ _ _ h => h) (Or.inl ⟨by kernel_rfl, ?hy4⟩) hHeld ?rest4
    case hy4 =>
      intro w hSw
      (try dsimp only at hSw)
      go_simp
      (try with_reducible rfl)
    (try simp only [Act.put])
    refine wpAnyH_take (i := 4) (oi := ⟨some 76, _, _, _, _, _⟩) (v := ?v5) rfl (by kernel_rfl) (by kernel_rfl) (by kernel_rfl) (fun _ _ _ h => h) (Or.inl ⟨by kernel_rfl, ?hy5⟩) hHeld ?rest5
    case hy5 =>
      intro w hSw
      (try dsimp only at hSw)
      go_simp
      (try with_reducible rfl)
    (try simp only [Act.put])
    refine wpAnyH_take (i := 5) (oi := ⟨some 77, _, _, _, _, _⟩) (v := ?v6) rfl (by kernel_rfl) (by kernel_rfl) (by kernel_rfl) (fun _ _ _ h => h) (Or.inl ⟨by kernel_rfl, ?hy6⟩) hHeld ?rest6
    case hy6 =>
      intro w hSw
      (try dsimp only at hSw)
      go_simp
      (try with_reducible rfl)
    (try simp only [Act.put])
    refine wpAnyH_ready (rs := [6]) (by kernel_rfl) (by simp) (AllReadyH.cons (o := _) rfl (fun K hK => ?_) AllReadyH.nil)
    go_simp
    refine (HPUT.out _).mono ?_
    rintro e w7 ⟨A2, c2, rfl, hB7, hb7⟩
    rw [HXL.out] at hB7 ⊢
    have HB7 : Hid (Below w.heap.size w w7) := Lib.hid ((HB6.out.drew).trans (hb7.mono HB6.out.size))
    dsimp only
    refine hK.out _ _ ?_ (fun hHeld => ?_)
    · exact (HX6.out.below hb7).str (P := Try.prog) 22 5 9 Try.underlying22 Try.underlying5 Try.underlying9
    clear hK K
    have hHeld : (convert 22 9 (.slice (some ⟨g, 0, none⟩) 12 12)).run Try.prog w7 = .ok (.string (txt X)) w7 ∧ (convert 22 9 (.slice A2 12 c2)).run Try.prog w7 = .ok (.string (txt X)) w7 := ⟨hHeld, hB7.str (P := Try.prog) 22 5 9 Try.underlying22 Try.underlying5 Try.underlying9⟩
    refine wpAnyH_imp (S' := fun w' => (convert 22 9 (.slice (some ⟨g, 0, none⟩) 12 12)).run Try.prog w' = .ok (.string (txt X)) w' ∧ (convert 22 9 (.slice A2 12 c2)).run Try.prog w' = .ok (.string (txt X)) w') (fun _ h => h.1) _ _ _ _ ?_
    clear hB7 hb7
    refine wpAnyH_take (i := 7) (oi := ⟨some 79, _, _, _, _, _⟩) (v := ?v7) rfl (by kernel_rfl) (by kernel_rfl) (by kernel_rfl) (fun _ _ _ h => h) (Or.inl ⟨by kernel_rfl, ?hy7⟩) hHeld ?rest7
    case hy7 =>
      intro w hSw
      (try dsimp only at hSw)
      go_simp
      (try with_reducible rfl)
    (try simp only [Act.put])
    refine wpAnyH_take (i := 8) (oi := ⟨some 80, _, _, _, _, _⟩) (v := ?v8) rfl (by kernel_rfl) (by kernel_rfl) (by kernel_rfl) (fun _ _ _ h => h) (Or.inl ⟨by kernel_rfl, ?hy8⟩) hHeld ?rest8
    case hy8 =>
      intro w hSw
      (try dsimp only at hSw)
      go_simp
      (try with_reducible rfl)
    (try simp only [Act.put])
    refine wpAnyH_take (i := 9) (oi := ⟨some 81, _, _, _, _, _⟩) (v := ?v9) rfl (by kernel_rfl) (by kernel_rfl) (by kernel_rfl) (fun _ _ _ h => h) (Or.inl ⟨by kernel_rfl, ?hy9⟩) hHeld ?rest9
    case hy9 =>
      intro w hSw
      (try dsimp only at hSw)
      go_simp
      (try with_reducible rfl)
    (try simp only [Act.put])
    refine wpAnyH_take (i := 10) (oi := ⟨some 82, _, _, _, _, _⟩) (v := ?v10) rfl (by kernel_rfl) (by kernel_rfl) (by kernel_rfl) (fun _ _ _ h => h) (Or.inl ⟨by kernel_rfl, ?hy10⟩) hHeld ?rest10
    case hy10 =>
      intro w hSw
      (try dsimp only at hSw)
      go_simp
      (try with_reducible rfl)
    (try simp only [Act.put])
    refine wpAnyH_take (i := 11) (oi := ⟨some 83, _, _, _, _, _⟩) (v := ?v11) rfl (by kernel_rfl) (by kernel_rfl) (by kernel_rfl) (fun _ _ _ h => h) (Or.inl ⟨by kernel_rfl, ?hy11⟩) hHeld ?rest11
    case hy11 =>
      intro w hSw
      (try dsimp only at hSw)
      go_simp
      (try with_reducible rfl)
    (try simp only [Act.put])
    refine wpAnyH_take (i := 12) (oi := ⟨some 84, _, _, _, _, _⟩) (v := ?v12) rfl (by kernel_rfl) (by kernel_rfl) (by kernel_rfl) (fun _ _ _ h => h) (Or.inl ⟨by kernel_rfl, ?hy12⟩) hHeld ?rest12
    case hy12 =>
      intro w hSw
      (try dsimp only at hSw)
      go_simp
      (try with_reducible rfl)
    (try simp only [Act.put])
    refine wpAnyH_take (i := 13) (oi := ⟨some 85, _, _, _, _, _⟩) (v := ?v13) rfl (by kernel_rfl) (by kernel_rfl) (by kernel_rfl) (fun _ _ _ h => h) (Or.inl ⟨by kernel_rfl, ?hy13⟩) hHeld ?rest13
    case hy13 =>
      intro w hSw
      (try dsimp only at hSw)
      go_simp
      (try with_reducible rfl)
    (try simp only [Act.put])
    refine wpAnyH_take (i := 14) (oi := ⟨some 86, _, _, _, _, _⟩) (v := ?v14) rfl (by kernel_rfl) (by kernel_rfl) (by kernel_rfl) (fun _ _ _ h => h) (Or.inl ⟨by kernel_rfl, ?hy14⟩) hHeld ?rest14
    case hy14 =>
      intro w hSw
      (try dsimp only at hSw)
      go_simp
      (try with_reducible rfl)
    (try simp only [Act.put])
    refine wpAnyH_take (i := 15) (oi := ⟨some 87, _, _, _, _, _⟩) (v := ?v15) rfl (by kernel_rfl) (by kernel_rfl) (by kernel_rfl) (fun _ _ _ h => h) (Or.inl ⟨by kernel_rfl, ?hy15⟩) hHeld ?rest15
    case hy15 =>
      intro w hSw
      (try dsimp only at hSw)
      go_simp
      (try with_reducible rfl)
    (try simp only [Act.put])
    refine wpAnyH_take (i := 16) (oi := ⟨some 88, _, _, _, _, _⟩) (v := ?v16) rfl (by kernel_rfl) (by kernel_rfl) (by kernel_rfl) (fun _ _ _ h => h) (Or.inl ⟨by kernel_rfl, ?hy16⟩) hHeld ?rest16
    case hy16 =>
      intro w hSw
      (try dsimp only at hSw)
      go_simp
      (try with_reducible rfl)
    (try simp only [Act.put])
    refine wpAnyH_take (i := 17) (oi := ⟨some 89, _, _, _, _, _⟩) (v := ?v17) rfl (by kernel_rfl) (by kernel_rfl) (by kernel_rfl) (fun _ _ _ h => h) (Or.inl ⟨by kernel_rfl, ?hy17⟩) hHeld ?rest17
    case hy17 =>
      intro w hSw
      (try dsimp only at hSw)
      go_simp
      (try with_reducible rfl)
    (try simp only [Act.put])
    refine wpAnyH_take (i := 18) (oi := ⟨some 90, _, _, _, _, _⟩) (v := ?v18) rfl (by kernel_rfl) (by kernel_rfl) (by kernel_rfl) (fun _ _ _ h => h) (Or.inl ⟨by kernel_rfl, ?hy18⟩) hHeld ?rest18
    case hy18 =>
      intro w hSw
      (try dsimp only at hSw)
      go_simp
      (try with_reducible rfl)
    (try simp only [Act.put])
    refine wpAnyH_take (i := 19) (oi := ⟨some 6, _, _, _, _, _⟩) (v := ?v19) rfl (by kernel_rfl) (by kernel_rfl) (by kernel_rfl) (fun _ _ _ h => h) (Or.inl ⟨by kernel_rfl, ?hy19⟩) hHeld ?rest19
    case hy19 =>
      intro w hSw
      (try dsimp only at hSw)
      go_simp
      (try with_reducible rfl)
    (try simp only [Act.put])
    refine wpAnyH_done (by kernel_rfl) ?_ _
    go_wp2_with (fail)
    go_ret
    exact ⟨by kernel_rfl, HB7.out⟩
  · have d5 : decide ((nm.size : Int) < 500) = false := by simp; omega
    clear h5
    go_wp2_with (fail)
    refine (curNumber (some ⟨g, 0, none⟩) 12 12 (bytesD m) w4 (Bs.block HR4.out (n := 12) rfl (by decide)) (by decide)).mono ?_
    rw [numD_bytes HN.out]
    rintro e w6 ⟨rfl, hb6⟩
    have HR6 : Hid (w6.heap[g]? = some (.cells (u8s (bytesD m)).toArray 5)) := Lib.hid ((hb6.block g (Array.getElem?_eq_some_iff.1 HR4.out).1).trans HR4.out)
    have HB6 : Hid (Below w.heap.size w w6) := Lib.hid (HB4.out.trans (hb6.mono HB4.out.size))
    clear hb6
    obtain ⟨X, hX⟩ : ∃ X, X = bytesD m := ⟨_, rfl⟩
    have HXL : Hid (X.length = 12) := Lib.hid (by rw [hX]; rfl)
    have HPUT : Hid (∀ W, Calls Try.prog 14 #[.int .i64 (m : Int)] W (RetS X W)) := Lib.hid (fun W => hX ▸ refBytes15 m HN.out W)
    have HX6 : Hid (Bs w6.drew (some ⟨g, 0, none⟩) 12 12 X) := Lib.hid (hX ▸ ((Bs.block HR6.out (n := 12) rfl (by decide)).drew))
    clear hX HR6 HR4 HR3 HR2 HR1
    have htt : ((txt X).toList == (txt X).toList) = true := by simp
    clear d0 d1 d2 d5 nK nE
    go_wp2_with (fail)
    refine wp_region_held_drew (S := fun w' => (convert 22 9 (.slice (some ⟨g, 0, none⟩) 12 12)).run Try.prog w' = .ok (.string (txt X)) w') (by kernel_rfl) ?_ (fun hHeld => ?_)
    · exact HX6.out.str (P := Try.prog) 22 5 9 Try.underlying22 Try.underlying5 Try.underlying9
    refine wpAnyH_take (i := 0) (oi := ⟨some 72, _, _, _, _, _⟩) (v := ?v20) rfl (by kernel_rfl) (by kernel_rfl) (by kernel_rfl) (fun _ _ _ h => h) (Or.inl ⟨by kernel_rfl, ?hy20⟩) hHeld ?rest20
    case hy20 =>
      intro w hSw
      (try dsimp only at hSw)
      go_simp
      (try with_reducible rfl)
    (try simp only [Act.put])
    refine wpAnyH_take (i := 1) (oi := ⟨some 73, _, _, _, _, _⟩) (v := ?v21) rfl (by kernel_rfl) (by kernel_rfl) (by kernel_rfl) (fun _ _ _ h => h) (Or.inl ⟨by kernel_rfl, ?hy21⟩) hHeld ?rest21
    case hy21 =>
      intro w hSw
      (try dsimp only at hSw)
      go_simp
      (try with_reducible rfl)
    (try simp only [Act.put])
    refine wpAnyH_take (i := 2) (oi := ⟨some 74, _, _, _, _, _⟩) (v := ?v22) rfl (by kernel_rfl) (by kernel_rfl) (by kernel_rfl) (fun _ _ _ h => h) (Or.inl ⟨by kernel_rfl, ?hy22⟩) hHeld ?rest22
    case hy22 =>
      intro w hSw
      (try dsimp only at hSw)
      go_simp
      (try with_reducible rfl)
    (try simp only [Act.put])
    refine wpAnyH_take (i := 3) (oi := ⟨some 75, _, _, _, _, _⟩) (v := ?v23) rfl (by kernel_rfl) (by kernel_rfl) (by kernel_rfl) (fun _ _ _ h => h) (Or.inl ⟨by kernel_rfl, ?hy23⟩) hHeld ?rest23
    case hy23 =>
      intro w hSw
      (try dsimp only at hSw)
      go_simp
      (try with_reducible rfl)
    (try simp only [Act.put])
    refine wpAnyH_take (i := 4) (oi := ⟨some 76, _, _, _, _, _⟩) (v := ?v24) rfl (by kernel_rfl) (by kernel_rfl) (by kernel_rfl) (fun _ _ _ h => h) (Or.inl ⟨by kernel_rfl, ?hy24⟩) hHeld ?rest24
    case hy24 =>
      intro w hSw
      (try dsimp only at hSw)
      go_simp
      (try with_reducible rfl)
    (try simp only [Act.put])
    refine wpAnyH_take (i := 5) (oi := ⟨some 77, _, _, _, _, _⟩) (v := ?v25) rfl (by kernel_rfl) (by kernel_rfl) (by kernel_rfl) (fun _ _ _ h => h) (Or.inl ⟨by kernel_rfl, ?hy25⟩) hHeld ?rest25
    case hy25 =>
      intro w hSw
      (try dsimp only at hSw)
      go_simp
      (try with_reducible rfl)
    (try simp only [Act.put])
    refine wpAnyH_ready (rs := [6]) (by kernel_rfl) (by simp) (AllReadyH.cons (o := _) rfl (fun K hK => ?_) AllReadyH.nil)
    go_simp
    refine (HPUT.out _).mono ?_
    rintro e w7 ⟨A2, c2, rfl, hB7, hb7⟩
    rw [HXL.out] at hB7 ⊢
    have HB7 : Hid (Below w.heap.size w w7) := Lib.hid ((HB6.out.drew).trans (hb7.mono HB6.out.size))
    dsimp only
    refine hK.out _ _ ?_ (fun hHeld => ?_)
    · exact (HX6.out.below hb7).str (P := Try.prog) 22 5 9 Try.underlying22 Try.underlying5 Try.underlying9
    clear hK K
    have hHeld : (convert 22 9 (.slice (some ⟨g, 0, none⟩) 12 12)).run Try.prog w7 = .ok (.string (txt X)) w7 ∧ (convert 22 9 (.slice A2 12 c2)).run Try.prog w7 = .ok (.string (txt X)) w7 := ⟨hHeld, hB7.str (P := Try.prog) 22 5 9 Try.underlying22 Try.underlying5 Try.underlying9⟩
    refine wpAnyH_imp (S' := fun w' => (convert 22 9 (.slice (some ⟨g, 0, none⟩) 12 12)).run Try.prog w' = .ok (.string (txt X)) w' ∧ (convert 22 9 (.slice A2 12 c2)).run Try.prog w' = .ok (.string (txt X)) w') (fun _ h => h.1) _ _ _ _ ?_
    clear hB7 hb7
    refine wpAnyH_take (i := 7) (oi := ⟨some 79, _, _, _, _, _⟩) (v := ?v26) rfl (by kernel_rfl) (by kernel_rfl) (by kernel_rfl) (fun _ _ _ h => h) (Or.inl ⟨by kernel_rfl, ?hy26⟩) hHeld ?rest26
    case hy26 =>
      intro w hSw
      (try dsimp only at hSw)
      go_simp
      (try with_reducible rfl)
    (try simp only [Act.put])
    refine wpAnyH_take (i := 8) (oi := ⟨some 80, _, _, _, _, _⟩) (v := ?v27) rfl (by kernel_rfl) (by kernel_rfl) (by kernel_rfl) (fun _ _ _ h => h) (Or.inl ⟨by kernel_rfl, ?hy27⟩) hHeld ?rest27
    case hy27 =>
      intro w hSw
      (try dsimp only at hSw)
      go_simp
      (try with_reducible rfl)
    (try simp only [Act.put])
    refine wpAnyH_take (i := 9) (oi := ⟨some 81, _, _, _, _, _⟩) (v := ?v28) rfl (by kernel_rfl) (by kernel_rfl) (by kernel_rfl) (fun _ _ _ h => h) (Or.inl ⟨by kernel_rfl, ?hy28⟩) hHeld ?rest28
    case hy28 =>
      intro w hSw
      (try dsimp only at hSw)
      go_simp
      (try with_reducible rfl)
    (try simp only [Act.put])
    refine wpAnyH_take (i := 10) (oi := ⟨some 82, _, _, _, _, _⟩) (v := ?v29) rfl (by kernel_rfl) (by kernel_rfl) (by kernel_rfl) (fun _ _ _ h => h) (Or.inl ⟨by kernel_rfl, ?hy29⟩) hHeld ?rest29
    case hy29 =>
      intro w hSw
      (try dsimp only at hSw)
      go_simp
      (try with_reducible rfl)
    (try simp only [Act.put])
    refine wpAnyH_take (i := 11) (oi := ⟨some 83, _, _, _, _, _⟩) (v := ?v30) rfl (by kernel_rfl) (by kernel_rfl) (by kernel_rfl) (fun _ _ _ h => h) (Or.inl ⟨by kernel_rfl, ?hy30⟩) hHeld ?rest30
    case hy30 =>
      intro w hSw
      (try dsimp only at hSw)
      go_simp
      (try with_reducible rfl)
    (try simp only [Act.put])
    refine wpAnyH_take (i := 12) (oi := ⟨some 84, _, _, _, _, _⟩) (v := ?v31) rfl (by kernel_rfl) (by kernel_rfl) (by kernel_rfl) (fun _ _ _ h => h) (Or.inl ⟨by kernel_rfl, ?hy31⟩) hHeld ?rest31
    case hy31 =>
      intro w hSw
      (try dsimp only at hSw)
      go_simp
      (try with_reducible rfl)
    (try simp only [Act.put])
    refine wpAnyH_take (i := 13) (oi := ⟨some 85, _, _, _, _, _⟩) (v := ?v32) rfl (by kernel_rfl) (by kernel_rfl) (by kernel_rfl) (fun _ _ _ h => h) (Or.inl ⟨by kernel_rfl, ?hy32⟩) hHeld ?rest32
    case hy32 =>
      intro w hSw
      (try dsimp only at hSw)
      go_simp
      (try with_reducible rfl)
    (try simp only [Act.put])
    refine wpAnyH_take (i := 14) (oi := ⟨some 86, _, _, _, _, _⟩) (v := ?v33) rfl (by kernel_rfl) (by kernel_rfl) (by kernel_rfl) (fun _ _ _ h => h) (Or.inl ⟨by kernel_rfl, ?hy33⟩) hHeld ?rest33
    case hy33 =>
      intro w hSw
      (try dsimp only at hSw)
      go_simp
      (try with_reducible rfl)
    (try simp only [Act.put])
    refine wpAnyH_take (i := 15) (oi := ⟨some 87, _, _, _, _, _⟩) (v := ?v34) rfl (by kernel_rfl) (by kernel_rfl) (by kernel_rfl) (fun _ _ _ h => h) (Or.inl ⟨by kernel_rfl, ?hy34⟩) hHeld ?rest34
    case hy34 =>
      intro w hSw
      (try dsimp only at hSw)
      go_simp
      (try with_reducible rfl)
    (try simp only [Act.put])
    refine wpAnyH_take (i := 16) (oi := ⟨some 88, _, _, _, _, _⟩) (v := ?v35) rfl (by kernel_rfl) (by kernel_rfl) (by kernel_rfl) (fun _ _ _ h => h) (Or.inl ⟨by kernel_rfl, ?hy35⟩) hHeld ?rest35
    case hy35 =>
      intro w hSw
      (try dsimp only at hSw)
      go_simp
      (try with_reducible rfl)
    (try simp only [Act.put])
    refine wpAnyH_take (i := 17) (oi := ⟨some 89, _, _, _, _, _⟩) (v := ?v36) rfl (by kernel_rfl) (by kernel_rfl) (by kernel_rfl) (fun _ _ _ h => h) (Or.inl ⟨by kernel_rfl, ?hy36⟩) hHeld ?rest36
    case hy36 =>
      intro w hSw
      (try dsimp only at hSw)
      go_simp
      (try with_reducible rfl)
    (try simp only [Act.put])
    refine wpAnyH_take (i := 18) (oi := ⟨some 90, _, _, _, _, _⟩) (v := ?v37) rfl (by kernel_rfl) (by kernel_rfl) (by kernel_rfl) (fun _ _ _ h => h) (Or.inl ⟨by kernel_rfl, ?hy37⟩) hHeld ?rest37
    case hy37 =>
      intro w hSw
      (try dsimp only at hSw)
      go_simp
      (try with_reducible rfl)
    (try simp only [Act.put])
    refine wpAnyH_take (i := 19) (oi := ⟨some 6, _, _, _, _, _⟩) (v := ?v38) rfl (by kernel_rfl) (by kernel_rfl) (by kernel_rfl) (fun _ _ _ h => h) (Or.inl ⟨by kernel_rfl, ?hy38⟩) hHeld ?rest38
    case hy38 =>
      intro w hSw
      (try dsimp only at hSw)
      go_simp
      (try with_reducible rfl)
    (try simp only [Act.put])
    refine wpAnyH_done (by kernel_rfl) ?_ _
    go_wp2_with (fail)
    go_ret
    exact ⟨by kernel_rfl, HB7.out⟩
theorem cursorNumbers_walk (n : Int) (A : Option Addr) (k c : Nat) (l : List UInt8) (nm : ByteArray) (w : World) (_wn : (Lit.int .i64 n).wf = true) (hB : Bs w A k c l) (hR : c ≤ 140737488351232) (_hs : nm.size ≤ maxLen) : Calls Try.prog 3 #[.int .i64 n, .slice A k c, .string nm] w (True_ w) := by
  have hk : k ≤ 140737488351232 := Nat.le_trans hB.le hR
  by_cases hn : 0 ≤ n ∧ n ≤ 1099511627776
  · obtain ⟨m, rfl⟩ : ∃ m : Nat, n = (m : Int) := ⟨n.toNat, by omega⟩
    exact curNums_yes A k c l nm w hB hk m (by omega)
  · exact curNums_no A k c l nm w hB hk n hn
end Go.Proofs.Ytolomfdommnklaa
