/- EntryPuts, walked. -/
import Derived.Test.YtamjcihhilmppaaRef13
import Derived.Test.YtamjcihhilmppaaEntryAlive
namespace Go.Proofs.Ytamjcihhilmppaa
open Go.RowKit

set_option maxHeartbeats 4000000 in
set_option maxRecDepth 100000 in
theorem entryPuts_zero (A : Option Addr) (k c : Nat) (l : List UInt8) (n : Int) (w : World) (hB : Bs w A k c l) (hno : okLen k = false) (hz : k = 0) :
    Calls Try.prog 9 #[.slice A k c, .int .i64 n] w (True_ w) := by
  have HB := Lib.hid hB
  have hmax := hB.nmax
  have HNO := Lib.hid hno
  clear hB hno
  have hk0 : ((k : Int) == 0) = true := by rw [hz]; rfl
  clear hz
  by_cases h1 : 1 ≤ n
  · by_cases h2 : n ≤ 65536
    · obtain ⟨m, rfl⟩ : ∃ m : Nat, n = (m : Int) := ⟨n.toNat, by omega⟩
      have HM : Hid (okLen m = true) := Lib.hid (by simp [okLen]; omega)
      have hm8 : ((8 : Int) + (m : Int) != (m : Int) + 8) = false := by rw [bne_eq_false_iff_eq]; omega
      go_enter Try.func9, Try.ntmps9
      go_wp2_with (fail)
      refine (entryPut_no A k c w HNO.out).mono ?_
      rintro e w1 ⟨A1, c1, rfl, _, hb1⟩
      simp only [List.length_nil]
      have HB1 := Lib.hid hb1
      clear hb1
      go_wp2_with (fail)
      refine (entryAlive w1).mono ?_
      rintro e w2 ⟨rfl, hb2⟩
      have HB2 : Hid (Below w.heap.size w w2) := Lib.hid (HB1.out.trans (hb2.mono HB1.out.size))
      clear hb2
      go_wp2_with (fail)
      refine (entrySize_yes m w2 HM.out).mono ?_
      rintro e w' ⟨rfl, rfl⟩
      go_wp2_with (fail)
      go_ret
      exact ⟨rfl, HB2.out⟩
    · have HNN : Hid (n < 1 ∨ 65536 < n) := Lib.hid (by omega)
      go_enter Try.func9, Try.ntmps9
      go_wp2_with (fail)
      refine (entryPut_no A k c w HNO.out).mono ?_
      rintro e w1 ⟨A1, c1, rfl, _, hb1⟩
      simp only [List.length_nil]
      have HB1 := Lib.hid hb1
      clear hb1
      go_wp2_with (fail)
      refine (entryAlive w1).mono ?_
      rintro e w2 ⟨rfl, hb2⟩
      have HB2 : Hid (Below w.heap.size w w2) := Lib.hid (HB1.out.trans (hb2.mono HB1.out.size))
      clear hb2
      go_wp2_with (fail)
      refine (entrySize_no n w2 HNN.out).mono ?_
      rintro e w' ⟨rfl, rfl⟩
      go_wp2_with (fail)
      go_ret
      exact ⟨rfl, HB2.out⟩
  · have HNN : Hid (n < 1 ∨ 65536 < n) := Lib.hid (by omega)
    go_enter Try.func9, Try.ntmps9
    go_wp2_with (fail)
    refine (entryPut_no A k c w HNO.out).mono ?_
    rintro e w1 ⟨A1, c1, rfl, _, hb1⟩
    simp only [List.length_nil]
    have HB1 := Lib.hid hb1
    clear hb1
    go_wp2_with (fail)
    refine (entryAlive w1).mono ?_
    rintro e w2 ⟨rfl, hb2⟩
    have HB2 : Hid (Below w.heap.size w w2) := Lib.hid (HB1.out.trans (hb2.mono HB1.out.size))
    clear hb2
    go_wp2_with (fail)
    refine (entrySize_no n w2 HNN.out).mono ?_
    rintro e w' ⟨rfl, rfl⟩
    go_wp2_with (fail)
    go_ret
    exact ⟨rfl, HB2.out⟩

set_option maxHeartbeats 4000000 in
set_option maxRecDepth 100000 in
theorem entryPuts_long (A : Option Addr) (k c : Nat) (l : List UInt8) (n : Int) (w : World) (hB : Bs w A k c l) (hno : okLen k = false) (hz : 65536 < k) :
    Calls Try.prog 9 #[.slice A k c, .int .i64 n] w (True_ w) := by
  have HB := Lib.hid hB
  have hmax := hB.nmax
  have HNO := Lib.hid hno
  clear hB hno
  have hk0 : ((k : Int) == 0) = false := by rw [beq_eq_false_iff_ne]; omega
  have hkl : (65536 : Int) < (k : Int) := by omega
  clear hz
  by_cases h1 : 1 ≤ n
  · by_cases h2 : n ≤ 65536
    · obtain ⟨m, rfl⟩ : ∃ m : Nat, n = (m : Int) := ⟨n.toNat, by omega⟩
      have HM : Hid (okLen m = true) := Lib.hid (by simp [okLen]; omega)
      have hm8 : ((8 : Int) + (m : Int) != (m : Int) + 8) = false := by rw [bne_eq_false_iff_eq]; omega
      go_enter Try.func9, Try.ntmps9
      go_wp2_with (fail)
      refine (entryPut_no A k c w HNO.out).mono ?_
      rintro e w1 ⟨A1, c1, rfl, _, hb1⟩
      simp only [List.length_nil]
      have HB1 := Lib.hid hb1
      clear hb1
      go_wp2_with (fail)
      refine (entryAlive w1).mono ?_
      rintro e w2 ⟨rfl, hb2⟩
      have HB2 : Hid (Below w.heap.size w w2) := Lib.hid (HB1.out.trans (hb2.mono HB1.out.size))
      clear hb2
      go_wp2_with (fail)
      refine (entrySize_yes m w2 HM.out).mono ?_
      rintro e w' ⟨rfl, rfl⟩
      go_wp2_with (fail)
      go_ret
      exact ⟨rfl, HB2.out⟩
    · have HNN : Hid (n < 1 ∨ 65536 < n) := Lib.hid (by omega)
      go_enter Try.func9, Try.ntmps9
      go_wp2_with (fail)
      refine (entryPut_no A k c w HNO.out).mono ?_
      rintro e w1 ⟨A1, c1, rfl, _, hb1⟩
      simp only [List.length_nil]
      have HB1 := Lib.hid hb1
      clear hb1
      go_wp2_with (fail)
      refine (entryAlive w1).mono ?_
      rintro e w2 ⟨rfl, hb2⟩
      have HB2 : Hid (Below w.heap.size w w2) := Lib.hid (HB1.out.trans (hb2.mono HB1.out.size))
      clear hb2
      go_wp2_with (fail)
      refine (entrySize_no n w2 HNN.out).mono ?_
      rintro e w' ⟨rfl, rfl⟩
      go_wp2_with (fail)
      go_ret
      exact ⟨rfl, HB2.out⟩
  · have HNN : Hid (n < 1 ∨ 65536 < n) := Lib.hid (by omega)
    go_enter Try.func9, Try.ntmps9
    go_wp2_with (fail)
    refine (entryPut_no A k c w HNO.out).mono ?_
    rintro e w1 ⟨A1, c1, rfl, _, hb1⟩
    simp only [List.length_nil]
    have HB1 := Lib.hid hb1
    clear hb1
    go_wp2_with (fail)
    refine (entryAlive w1).mono ?_
    rintro e w2 ⟨rfl, hb2⟩
    have HB2 : Hid (Below w.heap.size w w2) := Lib.hid (HB1.out.trans (hb2.mono HB1.out.size))
    clear hb2
    go_wp2_with (fail)
    refine (entrySize_no n w2 HNN.out).mono ?_
    rintro e w' ⟨rfl, rfl⟩
    go_wp2_with (fail)
    go_ret
    exact ⟨rfl, HB2.out⟩

set_option maxHeartbeats 4000000 in
set_option maxRecDepth 100000 in
theorem entryPuts_ok (A : Option Addr) (k c : Nat) (l : List UInt8) (n : Int) (w : World) (hB : Bs w A k c l) (hok : okLen k = true) :
    Calls Try.prog 9 #[.slice A k c, .int .i64 n] w (True_ w) := by
  have HB := Lib.hid hB
  have hmax := hB.nmax
  have hk := okLen_yes hok
  have HOK := Lib.hid hok
  have HRL : Hid ((record l).length = k + 8) := Lib.hid (by rw [record_length, hB.len]; omega)
  have HPUT := Lib.hid (fun W h => refPut13 A k c l W h (by omega))
  have hk0 : ((k : Int) == 0) = false := by rw [beq_eq_false_iff_ne]; omega
  have hkl : ¬ (65536 : Int) < (k : Int) := by omega
  have hkl' : decide ((65536 : Int) < (k : Int)) = false := by rw [decide_eq_false_iff_not]; exact hkl
  have hk8 : (((k + 8 : Nat) : Int) == 8 + (k : Int)) = true := by rw [beq_iff_eq]; omega
  have hk8' : ((k : Int) + 8 == 8 + (k : Int)) = true := by rw [beq_iff_eq]; omega
  clear hB hok hk
  generalize hrc : record l = rec at *
  have HRC := Lib.hid hrc
  clear hrc
  by_cases h1 : 1 ≤ n
  · by_cases h2 : n ≤ 65536
    · obtain ⟨m, rfl⟩ : ∃ m : Nat, n = (m : Int) := ⟨n.toNat, by omega⟩
      have HM : Hid (okLen m = true) := Lib.hid (by simp [okLen]; omega)
      have hm8 : ((8 : Int) + (m : Int) != (m : Int) + 8) = false := by rw [bne_eq_false_iff_eq]; omega
      go_enter Try.func9, Try.ntmps9
      go_wp2_with (fail)
      refine (entryPut_yes A k c l w HB.out HOK.out).mono ?_
      rintro e w1 ⟨A1, c1, rfl, hB1, hb1⟩
      rw [HRC.out] at hB1 ⊢
      rw [HRL.out] at hB1 ⊢
      have HX1 := Lib.hid hB1
      have HB1 := Lib.hid hb1
      clear hb1 hB1
      go_wp2_with (fail)
      refine (entryAlive w1).mono ?_
      rintro e w2 ⟨rfl, hb2⟩
      have HB2 : Hid (Below w.heap.size w w2) := Lib.hid (HB1.out.trans (hb2.mono HB1.out.size))
      have HX2 := Lib.hid (HX1.out.below hb2)
      clear hb2
      go_wp2_with (fail)
      refine (entrySize_yes m w2 HM.out).mono ?_
      rintro e w' ⟨rfl, rfl⟩
      go_wp2_with (fail)
      refine wp_region_held_drew (S := fun w' => (convert 22 9 (.slice A1 (k + 8) c1)).run Try.prog w' = .ok (.string (txt rec)) w') (by kernel_rfl) ?_ (fun hHeld => ?_)
      · exact (HX2.out.drew).str (P := Try.prog) 22 5 9 Try.underlying22 Try.underlying5 Try.underlying9
      refine wpAnyH_take (i := 0) (oi := ⟨some 44, _, _, _, _, _⟩) (v := ?v1) rfl (by kernel_rfl) (by kernel_rfl) (by kernel_rfl) (fun _ _ _ h => h) (Or.inl ⟨by kernel_rfl, ?hy1⟩) hHeld ?rest1
      case hy1 =>
        intro w hSw
        (try dsimp only at hSw)
        go_simp
        (try with_reducible rfl)
      (try simp only [Act.put])
      refine wpAnyH_take (i := 1) (oi := ⟨some 45, _, _, _, _, _⟩) (v := ?v2) rfl (by kernel_rfl) (by kernel_rfl) (by kernel_rfl) (fun _ _ _ h => h) (Or.inl ⟨by kernel_rfl, ?hy2⟩) hHeld ?rest2
      case hy2 =>
        intro w hSw
        (try dsimp only at hSw)
        go_simp
        (try with_reducible rfl)
      (try simp only [Act.put])
      refine wpAnyH_take (i := 2) (oi := ⟨some 46, _, _, _, _, _⟩) (v := ?v3) rfl (by kernel_rfl) (by kernel_rfl) (by kernel_rfl) (fun _ _ _ h => h) (Or.inl ⟨by kernel_rfl, ?hy3⟩) hHeld ?rest3
      case hy3 =>
        intro w hSw
        (try dsimp only at hSw)
        go_simp
        (try with_reducible rfl)
      (try simp only [Act.put])
      refine wpAnyH_take (i := 3) (oi := ⟨some 47, _, _, _, _, _⟩) (v := ?v4) rfl (by kernel_rfl) (by kernel_rfl) (by kernel_rfl) (fun _ _ _ h => h) (Or.inl ⟨by kernel_rfl, ?hy4⟩) hHeld ?rest4
      case hy4 =>
        intro w hSw
        (try dsimp only at hSw)
        go_simp
        (try with_reducible rfl)
      (try simp only [Act.put])
      refine wpAnyH_take (i := 4) (oi := ⟨some 48, _, _, _, _, _⟩) (v := ?v5) rfl (by kernel_rfl) (by kernel_rfl) (by kernel_rfl) (fun _ _ _ h => h) (Or.inl ⟨by kernel_rfl, ?hy5⟩) hHeld ?rest5
      case hy5 =>
        intro w hSw
        (try dsimp only at hSw)
        go_simp
        (try with_reducible rfl)
      (try simp only [Act.put])
      refine wpAnyH_take (i := 5) (oi := ⟨some 49, _, _, _, _, _⟩) (v := ?v6) rfl (by kernel_rfl) (by kernel_rfl) (by kernel_rfl) (fun _ _ _ h => h) (Or.inl ⟨by kernel_rfl, ?hy6⟩) hHeld ?rest6
      case hy6 =>
        intro w hSw
        (try dsimp only at hSw)
        go_simp
        (try with_reducible rfl)
      (try simp only [Act.put])
      refine wpAnyH_ready (rs := [6]) (by kernel_rfl) (by simp) (AllReadyH.cons (o := _) rfl (fun K hK => ?_) AllReadyH.nil)
      go_simp
      refine (HPUT.out _ ((HB.out.below HB2.out).drew)).mono ?_
      rintro e w3 ⟨A2, c2, rfl, hB3, hb3⟩
      rw [HRL.out] at hB3 ⊢
      have HB3 : Hid (Below w.heap.size w w3) := Lib.hid ((HB2.out.drew).trans (hb3.mono HB2.out.size))
      dsimp only
      refine hK.out _ _ ?_ (fun hHeld => ?_)
      · exact ((HX2.out.drew).below hb3).str (P := Try.prog) 22 5 9 Try.underlying22 Try.underlying5 Try.underlying9
      clear hK K
      have hHeld : (convert 22 9 (.slice A1 (k + 8) c1)).run Try.prog w3 = .ok (.string (txt rec)) w3 ∧ (convert 22 9 (.slice A2 (k + 8) c2)).run Try.prog w3 = .ok (.string (txt rec)) w3 := ⟨hHeld, hB3.str (P := Try.prog) 22 5 9 Try.underlying22 Try.underlying5 Try.underlying9⟩
      refine wpAnyH_imp (S' := fun w' => (convert 22 9 (.slice A1 (k + 8) c1)).run Try.prog w' = .ok (.string (txt rec)) w' ∧ (convert 22 9 (.slice A2 (k + 8) c2)).run Try.prog w' = .ok (.string (txt rec)) w') (fun _ h => h.1) _ _ _ _ ?_
      clear hB3 hb3
      refine wpAnyH_take (i := 7) (oi := ⟨some 51, _, _, _, _, _⟩) (v := ?v7) rfl (by kernel_rfl) (by kernel_rfl) (by kernel_rfl) (fun _ _ _ h => h) (Or.inl ⟨by kernel_rfl, ?hy7⟩) hHeld ?rest7
      case hy7 =>
        intro w hSw
        (try dsimp only at hSw)
        go_simp
        (try with_reducible rfl)
      (try simp only [Act.put])
      refine wpAnyH_take (i := 8) (oi := ⟨some 52, _, _, _, _, _⟩) (v := ?v8) rfl (by kernel_rfl) (by kernel_rfl) (by kernel_rfl) (fun _ _ _ h => h) (Or.inl ⟨by kernel_rfl, ?hy8⟩) hHeld ?rest8
      case hy8 =>
        intro w hSw
        (try dsimp only at hSw)
        go_simp
        (try with_reducible rfl)
      (try simp only [Act.put])
      refine wpAnyH_take (i := 9) (oi := ⟨some 53, _, _, _, _, _⟩) (v := ?v9) rfl (by kernel_rfl) (by kernel_rfl) (by kernel_rfl) (fun _ _ _ h => h) (Or.inl ⟨by kernel_rfl, ?hy9⟩) hHeld ?rest9
      case hy9 =>
        intro w hSw
        (try dsimp only at hSw)
        go_simp
        (try with_reducible rfl)
      (try simp only [Act.put])
      refine wpAnyH_take (i := 10) (oi := ⟨some 54, _, _, _, _, _⟩) (v := ?v10) rfl (by kernel_rfl) (by kernel_rfl) (by kernel_rfl) (fun _ _ _ h => h) (Or.inl ⟨by kernel_rfl, ?hy10⟩) hHeld ?rest10
      case hy10 =>
        intro w hSw
        (try dsimp only at hSw)
        go_simp
        (try with_reducible rfl)
      (try simp only [Act.put])
      refine wpAnyH_take (i := 11) (oi := ⟨some 55, _, _, _, _, _⟩) (v := ?v11) rfl (by kernel_rfl) (by kernel_rfl) (by kernel_rfl) (fun _ _ _ h => h) (Or.inl ⟨by kernel_rfl, ?hy11⟩) hHeld ?rest11
      case hy11 =>
        intro w hSw
        (try dsimp only at hSw)
        go_simp
        (try with_reducible rfl)
      (try simp only [Act.put])
      refine wpAnyH_take (i := 12) (oi := ⟨some 56, _, _, _, _, _⟩) (v := ?v12) rfl (by kernel_rfl) (by kernel_rfl) (by kernel_rfl) (fun _ _ _ h => h) (Or.inl ⟨by kernel_rfl, ?hy12⟩) hHeld ?rest12
      case hy12 =>
        intro w hSw
        (try dsimp only at hSw)
        go_simp
        (try with_reducible rfl)
      (try simp only [Act.put])
      refine wpAnyH_take (i := 13) (oi := ⟨some 57, _, _, _, _, _⟩) (v := ?v13) rfl (by kernel_rfl) (by kernel_rfl) (by kernel_rfl) (fun _ _ _ h => h) (Or.inl ⟨by kernel_rfl, ?hy13⟩) hHeld ?rest13
      case hy13 =>
        intro w hSw
        (try dsimp only at hSw)
        go_simp
        (try with_reducible rfl)
      (try simp only [Act.put])
      refine wpAnyH_take (i := 14) (oi := ⟨some 58, _, _, _, _, _⟩) (v := ?v14) rfl (by kernel_rfl) (by kernel_rfl) (by kernel_rfl) (fun _ _ _ h => h) (Or.inl ⟨by kernel_rfl, ?hy14⟩) hHeld ?rest14
      case hy14 =>
        intro w hSw
        (try dsimp only at hSw)
        go_simp
        (try with_reducible rfl)
      (try simp only [Act.put])
      refine wpAnyH_ready (rs := [15]) (by kernel_rfl) (by simp) (AllReadyH.cons (o := _) rfl (fun K hK => ?_) AllReadyH.nil)
      go_simp
      refine (entrySize_yes k w3 HOK.out).mono ?_
      rintro e w' ⟨rfl, rfl⟩
      dsimp only
      refine hK.out _ _ hHeld (fun hHeld => ?_)
      clear hK K
      refine wpAnyH_take (i := 16) (oi := ⟨some 60, _, _, _, _, _⟩) (v := ?v15) rfl (by kernel_rfl) (by kernel_rfl) (by kernel_rfl) (fun _ _ _ h => h) (Or.inl ⟨by kernel_rfl, ?hy15⟩) hHeld ?rest15
      case hy15 =>
        intro w hSw
        (try dsimp only at hSw)
        go_simp
        (try with_reducible rfl)
      (try simp only [Act.put])
      refine wpAnyH_take (i := 17) (oi := ⟨some 61, _, _, _, _, _⟩) (v := ?v16) rfl (by kernel_rfl) (by kernel_rfl) (by kernel_rfl) (fun _ _ _ h => h) (Or.inl ⟨by kernel_rfl, ?hy16⟩) hHeld ?rest16
      case hy16 =>
        intro w hSw
        (try dsimp only at hSw)
        go_simp
        (try with_reducible rfl)
      (try simp only [Act.put])
      refine wpAnyH_take (i := 18) (oi := ⟨some 4, _, _, _, _, _⟩) (v := ?v17) rfl (by kernel_rfl) (by kernel_rfl) (by kernel_rfl) (fun _ _ _ h => h) (Or.inl ⟨by kernel_rfl, ?hy17⟩) hHeld ?rest17
      case hy17 =>
        intro w hSw
        (try dsimp only at hSw)
        go_simp
        (try with_reducible rfl)
      (try simp only [Act.put])
      refine wpAnyH_done (by kernel_rfl) ?_ _
      go_wp2_with (fail)
      go_ret
      exact ⟨rfl, HB3.out⟩
    · have HNN : Hid (n < 1 ∨ 65536 < n) := Lib.hid (by omega)
      go_enter Try.func9, Try.ntmps9
      go_wp2_with (fail)
      refine (entryPut_yes A k c l w HB.out HOK.out).mono ?_
      rintro e w1 ⟨A1, c1, rfl, hB1, hb1⟩
      rw [HRC.out] at hB1 ⊢
      rw [HRL.out] at hB1 ⊢
      have HX1 := Lib.hid hB1
      have HB1 := Lib.hid hb1
      clear hb1 hB1
      go_wp2_with (fail)
      refine (entryAlive w1).mono ?_
      rintro e w2 ⟨rfl, hb2⟩
      have HB2 : Hid (Below w.heap.size w w2) := Lib.hid (HB1.out.trans (hb2.mono HB1.out.size))
      have HX2 := Lib.hid (HX1.out.below hb2)
      clear hb2
      go_wp2_with (fail)
      refine (entrySize_no n w2 HNN.out).mono ?_
      rintro e w' ⟨rfl, rfl⟩
      go_wp2_with (fail)
      refine wp_region_held_drew (S := fun w' => (convert 22 9 (.slice A1 (k + 8) c1)).run Try.prog w' = .ok (.string (txt rec)) w') (by kernel_rfl) ?_ (fun hHeld => ?_)
      · exact (HX2.out.drew).str (P := Try.prog) 22 5 9 Try.underlying22 Try.underlying5 Try.underlying9
      refine wpAnyH_take (i := 0) (oi := ⟨some 44, _, _, _, _, _⟩) (v := ?v18) rfl (by kernel_rfl) (by kernel_rfl) (by kernel_rfl) (fun _ _ _ h => h) (Or.inl ⟨by kernel_rfl, ?hy18⟩) hHeld ?rest18
      case hy18 =>
        intro w hSw
        (try dsimp only at hSw)
        go_simp
        (try with_reducible rfl)
      (try simp only [Act.put])
      refine wpAnyH_take (i := 1) (oi := ⟨some 45, _, _, _, _, _⟩) (v := ?v19) rfl (by kernel_rfl) (by kernel_rfl) (by kernel_rfl) (fun _ _ _ h => h) (Or.inl ⟨by kernel_rfl, ?hy19⟩) hHeld ?rest19
      case hy19 =>
        intro w hSw
        (try dsimp only at hSw)
        go_simp
        (try with_reducible rfl)
      (try simp only [Act.put])
      refine wpAnyH_take (i := 2) (oi := ⟨some 46, _, _, _, _, _⟩) (v := ?v20) rfl (by kernel_rfl) (by kernel_rfl) (by kernel_rfl) (fun _ _ _ h => h) (Or.inl ⟨by kernel_rfl, ?hy20⟩) hHeld ?rest20
      case hy20 =>
        intro w hSw
        (try dsimp only at hSw)
        go_simp
        (try with_reducible rfl)
      (try simp only [Act.put])
      refine wpAnyH_take (i := 3) (oi := ⟨some 47, _, _, _, _, _⟩) (v := ?v21) rfl (by kernel_rfl) (by kernel_rfl) (by kernel_rfl) (fun _ _ _ h => h) (Or.inl ⟨by kernel_rfl, ?hy21⟩) hHeld ?rest21
      case hy21 =>
        intro w hSw
        (try dsimp only at hSw)
        go_simp
        (try with_reducible rfl)
      (try simp only [Act.put])
      refine wpAnyH_take (i := 4) (oi := ⟨some 48, _, _, _, _, _⟩) (v := ?v22) rfl (by kernel_rfl) (by kernel_rfl) (by kernel_rfl) (fun _ _ _ h => h) (Or.inl ⟨by kernel_rfl, ?hy22⟩) hHeld ?rest22
      case hy22 =>
        intro w hSw
        (try dsimp only at hSw)
        go_simp
        (try with_reducible rfl)
      (try simp only [Act.put])
      refine wpAnyH_take (i := 5) (oi := ⟨some 49, _, _, _, _, _⟩) (v := ?v23) rfl (by kernel_rfl) (by kernel_rfl) (by kernel_rfl) (fun _ _ _ h => h) (Or.inl ⟨by kernel_rfl, ?hy23⟩) hHeld ?rest23
      case hy23 =>
        intro w hSw
        (try dsimp only at hSw)
        go_simp
        (try with_reducible rfl)
      (try simp only [Act.put])
      refine wpAnyH_ready (rs := [6]) (by kernel_rfl) (by simp) (AllReadyH.cons (o := _) rfl (fun K hK => ?_) AllReadyH.nil)
      go_simp
      refine (HPUT.out _ ((HB.out.below HB2.out).drew)).mono ?_
      rintro e w3 ⟨A2, c2, rfl, hB3, hb3⟩
      rw [HRL.out] at hB3 ⊢
      have HB3 : Hid (Below w.heap.size w w3) := Lib.hid ((HB2.out.drew).trans (hb3.mono HB2.out.size))
      dsimp only
      refine hK.out _ _ ?_ (fun hHeld => ?_)
      · exact ((HX2.out.drew).below hb3).str (P := Try.prog) 22 5 9 Try.underlying22 Try.underlying5 Try.underlying9
      clear hK K
      have hHeld : (convert 22 9 (.slice A1 (k + 8) c1)).run Try.prog w3 = .ok (.string (txt rec)) w3 ∧ (convert 22 9 (.slice A2 (k + 8) c2)).run Try.prog w3 = .ok (.string (txt rec)) w3 := ⟨hHeld, hB3.str (P := Try.prog) 22 5 9 Try.underlying22 Try.underlying5 Try.underlying9⟩
      refine wpAnyH_imp (S' := fun w' => (convert 22 9 (.slice A1 (k + 8) c1)).run Try.prog w' = .ok (.string (txt rec)) w' ∧ (convert 22 9 (.slice A2 (k + 8) c2)).run Try.prog w' = .ok (.string (txt rec)) w') (fun _ h => h.1) _ _ _ _ ?_
      clear hB3 hb3
      refine wpAnyH_take (i := 7) (oi := ⟨some 51, _, _, _, _, _⟩) (v := ?v24) rfl (by kernel_rfl) (by kernel_rfl) (by kernel_rfl) (fun _ _ _ h => h) (Or.inl ⟨by kernel_rfl, ?hy24⟩) hHeld ?rest24
      case hy24 =>
        intro w hSw
        (try dsimp only at hSw)
        go_simp
        (try with_reducible rfl)
      (try simp only [Act.put])
      refine wpAnyH_take (i := 8) (oi := ⟨some 52, _, _, _, _, _⟩) (v := ?v25) rfl (by kernel_rfl) (by kernel_rfl) (by kernel_rfl) (fun _ _ _ h => h) (Or.inl ⟨by kernel_rfl, ?hy25⟩) hHeld ?rest25
      case hy25 =>
        intro w hSw
        (try dsimp only at hSw)
        go_simp
        (try with_reducible rfl)
      (try simp only [Act.put])
      refine wpAnyH_take (i := 9) (oi := ⟨some 53, _, _, _, _, _⟩) (v := ?v26) rfl (by kernel_rfl) (by kernel_rfl) (by kernel_rfl) (fun _ _ _ h => h) (Or.inl ⟨by kernel_rfl, ?hy26⟩) hHeld ?rest26
      case hy26 =>
        intro w hSw
        (try dsimp only at hSw)
        go_simp
        (try with_reducible rfl)
      (try simp only [Act.put])
      refine wpAnyH_take (i := 10) (oi := ⟨some 54, _, _, _, _, _⟩) (v := ?v27) rfl (by kernel_rfl) (by kernel_rfl) (by kernel_rfl) (fun _ _ _ h => h) (Or.inl ⟨by kernel_rfl, ?hy27⟩) hHeld ?rest27
      case hy27 =>
        intro w hSw
        (try dsimp only at hSw)
        go_simp
        (try with_reducible rfl)
      (try simp only [Act.put])
      refine wpAnyH_take (i := 11) (oi := ⟨some 55, _, _, _, _, _⟩) (v := ?v28) rfl (by kernel_rfl) (by kernel_rfl) (by kernel_rfl) (fun _ _ _ h => h) (Or.inl ⟨by kernel_rfl, ?hy28⟩) hHeld ?rest28
      case hy28 =>
        intro w hSw
        (try dsimp only at hSw)
        go_simp
        (try with_reducible rfl)
      (try simp only [Act.put])
      refine wpAnyH_take (i := 12) (oi := ⟨some 56, _, _, _, _, _⟩) (v := ?v29) rfl (by kernel_rfl) (by kernel_rfl) (by kernel_rfl) (fun _ _ _ h => h) (Or.inl ⟨by kernel_rfl, ?hy29⟩) hHeld ?rest29
      case hy29 =>
        intro w hSw
        (try dsimp only at hSw)
        go_simp
        (try with_reducible rfl)
      (try simp only [Act.put])
      refine wpAnyH_take (i := 13) (oi := ⟨some 57, _, _, _, _, _⟩) (v := ?v30) rfl (by kernel_rfl) (by kernel_rfl) (by kernel_rfl) (fun _ _ _ h => h) (Or.inl ⟨by kernel_rfl, ?hy30⟩) hHeld ?rest30
      case hy30 =>
        intro w hSw
        (try dsimp only at hSw)
        go_simp
        (try with_reducible rfl)
      (try simp only [Act.put])
      refine wpAnyH_take (i := 14) (oi := ⟨some 58, _, _, _, _, _⟩) (v := ?v31) rfl (by kernel_rfl) (by kernel_rfl) (by kernel_rfl) (fun _ _ _ h => h) (Or.inl ⟨by kernel_rfl, ?hy31⟩) hHeld ?rest31
      case hy31 =>
        intro w hSw
        (try dsimp only at hSw)
        go_simp
        (try with_reducible rfl)
      (try simp only [Act.put])
      refine wpAnyH_ready (rs := [15]) (by kernel_rfl) (by simp) (AllReadyH.cons (o := _) rfl (fun K hK => ?_) AllReadyH.nil)
      go_simp
      refine (entrySize_yes k w3 HOK.out).mono ?_
      rintro e w' ⟨rfl, rfl⟩
      dsimp only
      refine hK.out _ _ hHeld (fun hHeld => ?_)
      clear hK K
      refine wpAnyH_take (i := 16) (oi := ⟨some 60, _, _, _, _, _⟩) (v := ?v32) rfl (by kernel_rfl) (by kernel_rfl) (by kernel_rfl) (fun _ _ _ h => h) (Or.inl ⟨by kernel_rfl, ?hy32⟩) hHeld ?rest32
      case hy32 =>
        intro w hSw
        (try dsimp only at hSw)
        go_simp
        (try with_reducible rfl)
      (try simp only [Act.put])
      refine wpAnyH_take (i := 17) (oi := ⟨some 61, _, _, _, _, _⟩) (v := ?v33) rfl (by kernel_rfl) (by kernel_rfl) (by kernel_rfl) (fun _ _ _ h => h) (Or.inl ⟨by kernel_rfl, ?hy33⟩) hHeld ?rest33
      case hy33 =>
        intro w hSw
        (try dsimp only at hSw)
        go_simp
        (try with_reducible rfl)
      (try simp only [Act.put])
      refine wpAnyH_take (i := 18) (oi := ⟨some 4, _, _, _, _, _⟩) (v := ?v34) rfl (by kernel_rfl) (by kernel_rfl) (by kernel_rfl) (fun _ _ _ h => h) (Or.inl ⟨by kernel_rfl, ?hy34⟩) hHeld ?rest34
      case hy34 =>
        intro w hSw
        (try dsimp only at hSw)
        go_simp
        (try with_reducible rfl)
      (try simp only [Act.put])
      refine wpAnyH_done (by kernel_rfl) ?_ _
      go_wp2_with (fail)
      go_ret
      exact ⟨rfl, HB3.out⟩
  · have HNN : Hid (n < 1 ∨ 65536 < n) := Lib.hid (by omega)
    go_enter Try.func9, Try.ntmps9
    go_wp2_with (fail)
    refine (entryPut_yes A k c l w HB.out HOK.out).mono ?_
    rintro e w1 ⟨A1, c1, rfl, hB1, hb1⟩
    rw [HRC.out] at hB1 ⊢
    rw [HRL.out] at hB1 ⊢
    have HX1 := Lib.hid hB1
    have HB1 := Lib.hid hb1
    clear hb1 hB1
    go_wp2_with (fail)
    refine (entryAlive w1).mono ?_
    rintro e w2 ⟨rfl, hb2⟩
    have HB2 : Hid (Below w.heap.size w w2) := Lib.hid (HB1.out.trans (hb2.mono HB1.out.size))
    have HX2 := Lib.hid (HX1.out.below hb2)
    clear hb2
    go_wp2_with (fail)
    refine (entrySize_no n w2 HNN.out).mono ?_
    rintro e w' ⟨rfl, rfl⟩
    go_wp2_with (fail)
    refine wp_region_held_drew (S := fun w' => (convert 22 9 (.slice A1 (k + 8) c1)).run Try.prog w' = .ok (.string (txt rec)) w') (by kernel_rfl) ?_ (fun hHeld => ?_)
    · exact (HX2.out.drew).str (P := Try.prog) 22 5 9 Try.underlying22 Try.underlying5 Try.underlying9
    refine wpAnyH_take (i := 0) (oi := ⟨some 44, _, _, _, _, _⟩) (v := ?v35) rfl (by kernel_rfl) (by kernel_rfl) (by kernel_rfl) (fun _ _ _ h => h) (Or.inl ⟨by kernel_rfl, ?hy35⟩) hHeld ?rest35
    case hy35 =>
      intro w hSw
      (try dsimp only at hSw)
      go_simp
      (try with_reducible rfl)
    (try simp only [Act.put])
    refine wpAnyH_take (i := 1) (oi := ⟨some 45, _, _, _, _, _⟩) (v := ?v36) rfl (by kernel_rfl) (by kernel_rfl) (by kernel_rfl) (fun _ _ _ h => h) (Or.inl ⟨by kernel_rfl, ?hy36⟩) hHeld ?rest36
    case hy36 =>
      intro w hSw
      (try dsimp only at hSw)
      go_simp
      (try with_reducible rfl)
    (try simp only [Act.put])
    refine wpAnyH_take (i := 2) (oi := ⟨some 46, _, _, _, _, _⟩) (v := ?v37) rfl (by kernel_rfl) (by kernel_rfl) (by kernel_rfl) (fun _ _ _ h => h) (Or.inl ⟨by kernel_rfl, ?hy37⟩) hHeld ?rest37
    case hy37 =>
      intro w hSw
      (try dsimp only at hSw)
      go_simp
      (try with_reducible rfl)
    (try simp only [Act.put])
    refine wpAnyH_take (i := 3) (oi := ⟨some 47, _, _, _, _, _⟩) (v := ?v38) rfl (by kernel_rfl) (by kernel_rfl) (by kernel_rfl) (fun _ _ _ h => h) (Or.inl ⟨by kernel_rfl, ?hy38⟩) hHeld ?rest38
    case hy38 =>
      intro w hSw
      (try dsimp only at hSw)
      go_simp
      (try with_reducible rfl)
    (try simp only [Act.put])
    refine wpAnyH_take (i := 4) (oi := ⟨some 48, _, _, _, _, _⟩) (v := ?v39) rfl (by kernel_rfl) (by kernel_rfl) (by kernel_rfl) (fun _ _ _ h => h) (Or.inl ⟨by kernel_rfl, ?hy39⟩) hHeld ?rest39
    case hy39 =>
      intro w hSw
      (try dsimp only at hSw)
      go_simp
      (try with_reducible rfl)
    (try simp only [Act.put])
    refine wpAnyH_take (i := 5) (oi := ⟨some 49, _, _, _, _, _⟩) (v := ?v40) rfl (by kernel_rfl) (by kernel_rfl) (by kernel_rfl) (fun _ _ _ h => h) (Or.inl ⟨by kernel_rfl, ?hy40⟩) hHeld ?rest40
    case hy40 =>
      intro w hSw
      (try dsimp only at hSw)
      go_simp
      (try with_reducible rfl)
    (try simp only [Act.put])
    refine wpAnyH_ready (rs := [6]) (by kernel_rfl) (by simp) (AllReadyH.cons (o := _) rfl (fun K hK => ?_) AllReadyH.nil)
    go_simp
    refine (HPUT.out _ ((HB.out.below HB2.out).drew)).mono ?_
    rintro e w3 ⟨A2, c2, rfl, hB3, hb3⟩
    rw [HRL.out] at hB3 ⊢
    have HB3 : Hid (Below w.heap.size w w3) := Lib.hid ((HB2.out.drew).trans (hb3.mono HB2.out.size))
    dsimp only
    refine hK.out _ _ ?_ (fun hHeld => ?_)
    · exact ((HX2.out.drew).below hb3).str (P := Try.prog) 22 5 9 Try.underlying22 Try.underlying5 Try.underlying9
    clear hK K
    have hHeld : (convert 22 9 (.slice A1 (k + 8) c1)).run Try.prog w3 = .ok (.string (txt rec)) w3 ∧ (convert 22 9 (.slice A2 (k + 8) c2)).run Try.prog w3 = .ok (.string (txt rec)) w3 := ⟨hHeld, hB3.str (P := Try.prog) 22 5 9 Try.underlying22 Try.underlying5 Try.underlying9⟩
    refine wpAnyH_imp (S' := fun w' => (convert 22 9 (.slice A1 (k + 8) c1)).run Try.prog w' = .ok (.string (txt rec)) w' ∧ (convert 22 9 (.slice A2 (k + 8) c2)).run Try.prog w' = .ok (.string (txt rec)) w') (fun _ h => h.1) _ _ _ _ ?_
    clear hB3 hb3
    refine wpAnyH_take (i := 7) (oi := ⟨some 51, _, _, _, _, _⟩) (v := ?v41) rfl (by kernel_rfl) (by kernel_rfl) (by kernel_rfl) (fun _ _ _ h => h) (Or.inl ⟨by kernel_rfl, ?hy41⟩) hHeld ?rest41
    case hy41 =>
      intro w hSw
      (try dsimp only at hSw)
      go_simp
      (try with_reducible rfl)
    (try simp only [Act.put])
    refine wpAnyH_take (i := 8) (oi := ⟨some 52, _, _, _, _, _⟩) (v := ?v42) rfl (by kernel_rfl) (by kernel_rfl) (by kernel_rfl) (fun _ _ _ h => h) (Or.inl ⟨by kernel_rfl, ?hy42⟩) hHeld ?rest42
    case hy42 =>
      intro w hSw
      (try dsimp only at hSw)
      go_simp
      (try with_reducible rfl)
    (try simp only [Act.put])
    refine wpAnyH_take (i := 9) (oi := ⟨some 53, _, _, _, _, _⟩) (v := ?v43) rfl (by kernel_rfl) (by kernel_rfl) (by kernel_rfl) (fun _ _ _ h => h) (Or.inl ⟨by kernel_rfl, ?hy43⟩) hHeld ?rest43
    case hy43 =>
      intro w hSw
      (try dsimp only at hSw)
      go_simp
      (try with_reducible rfl)
    (try simp only [Act.put])
    refine wpAnyH_take (i := 10) (oi := ⟨some 54, _, _, _, _, _⟩) (v := ?v44) rfl (by kernel_rfl) (by kernel_rfl) (by kernel_rfl) (fun _ _ _ h => h) (Or.inl ⟨by kernel_rfl, ?hy44⟩) hHeld ?rest44
    case hy44 =>
      intro w hSw
      (try dsimp only at hSw)
      go_simp
      (try with_reducible rfl)
    (try simp only [Act.put])
    refine wpAnyH_take (i := 11) (oi := ⟨some 55, _, _, _, _, _⟩) (v := ?v45) rfl (by kernel_rfl) (by kernel_rfl) (by kernel_rfl) (fun _ _ _ h => h) (Or.inl ⟨by kernel_rfl, ?hy45⟩) hHeld ?rest45
    case hy45 =>
      intro w hSw
      (try dsimp only at hSw)
      go_simp
      (try with_reducible rfl)
    (try simp only [Act.put])
    refine wpAnyH_take (i := 12) (oi := ⟨some 56, _, _, _, _, _⟩) (v := ?v46) rfl (by kernel_rfl) (by kernel_rfl) (by kernel_rfl) (fun _ _ _ h => h) (Or.inl ⟨by kernel_rfl, ?hy46⟩) hHeld ?rest46
    case hy46 =>
      intro w hSw
      (try dsimp only at hSw)
      go_simp
      (try with_reducible rfl)
    (try simp only [Act.put])
    refine wpAnyH_take (i := 13) (oi := ⟨some 57, _, _, _, _, _⟩) (v := ?v47) rfl (by kernel_rfl) (by kernel_rfl) (by kernel_rfl) (fun _ _ _ h => h) (Or.inl ⟨by kernel_rfl, ?hy47⟩) hHeld ?rest47
    case hy47 =>
      intro w hSw
      (try dsimp only at hSw)
      go_simp
      (try with_reducible rfl)
    (try simp only [Act.put])
    refine wpAnyH_take (i := 14) (oi := ⟨some 58, _, _, _, _, _⟩) (v := ?v48) rfl (by kernel_rfl) (by kernel_rfl) (by kernel_rfl) (fun _ _ _ h => h) (Or.inl ⟨by kernel_rfl, ?hy48⟩) hHeld ?rest48
    case hy48 =>
      intro w hSw
      (try dsimp only at hSw)
      go_simp
      (try with_reducible rfl)
    (try simp only [Act.put])
    refine wpAnyH_ready (rs := [15]) (by kernel_rfl) (by simp) (AllReadyH.cons (o := _) rfl (fun K hK => ?_) AllReadyH.nil)
    go_simp
    refine (entrySize_yes k w3 HOK.out).mono ?_
    rintro e w' ⟨rfl, rfl⟩
    dsimp only
    refine hK.out _ _ hHeld (fun hHeld => ?_)
    clear hK K
    refine wpAnyH_take (i := 16) (oi := ⟨some 60, _, _, _, _, _⟩) (v := ?v49) rfl (by kernel_rfl) (by kernel_rfl) (by kernel_rfl) (fun _ _ _ h => h) (Or.inl ⟨by kernel_rfl, ?hy49⟩) hHeld ?rest49
    case hy49 =>
      intro w hSw
      (try dsimp only at hSw)
      go_simp
      (try with_reducible rfl)
    (try simp only [Act.put])
    refine wpAnyH_take (i := 17) (oi := ⟨some 61, _, _, _, _, _⟩) (v := ?v50) rfl (by kernel_rfl) (by kernel_rfl) (by kernel_rfl) (fun _ _ _ h => h) (Or.inl ⟨by kernel_rfl, ?hy50⟩) hHeld ?rest50
    case hy50 =>
      intro w hSw
      (try dsimp only at hSw)
      go_simp
      (try with_reducible rfl)
    (try simp only [Act.put])
    refine wpAnyH_take (i := 18) (oi := ⟨some 4, _, _, _, _, _⟩) (v := ?v51) rfl (by kernel_rfl) (by kernel_rfl) (by kernel_rfl) (fun _ _ _ h => h) (Or.inl ⟨by kernel_rfl, ?hy51⟩) hHeld ?rest51
    case hy51 =>
      intro w hSw
      (try dsimp only at hSw)
      go_simp
      (try with_reducible rfl)
    (try simp only [Act.put])
    refine wpAnyH_done (by kernel_rfl) ?_ _
    go_wp2_with (fail)
    go_ret
    exact ⟨rfl, HB3.out⟩

theorem entryPuts_walk (A : Option Addr) (k c : Nat) (l : List UInt8) (n : Int) (w : World) (hB : Bs w A k c l) (_hR : c ≤ 140737488351232) (_wf : (Lit.int .i64 n).wf = true) :
    Calls Try.prog 9 #[.slice A k c, .int .i64 n] w (True_ w) := by
  cases h : okLen k with
  | true => exact entryPuts_ok A k c l n w hB h
  | false =>
    rcases okLen_no h with h1 | h1
    · exact entryPuts_zero A k c l n w hB h (by omega)
    · exact entryPuts_long A k c l n w hB h h1
end Go.Proofs.Ytamjcihhilmppaa
