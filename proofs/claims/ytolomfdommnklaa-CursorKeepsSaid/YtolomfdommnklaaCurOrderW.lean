/- CursorOrder, walked. -/
import Derived.Test.YtolomfdommnklaaCur6
import Derived.Sort.Walk0
namespace Go.Proofs.Ytolomfdommnklaa
open Go.RowKit Go.MapKept

/-- a number that may be -/
def numF (n : Int) : Nat := (IntKind.u64.wrap n % 1099511627777).toNat
theorem numF_le (n : Int) : numF n ≤ 1099511627776 := by
  have h0 : 0 ≤ IntKind.u64.wrap n := by simp [IntKind.wrap, IntKind.bits, IntKind.signed]; omega
  unfold numF; omega
theorem curNum (n : Int) (w : World) : Calls Try.prog 32 #[.int .i64 n] w fun e w' => e = .returned (.int .i64 (numF n : Int)) ∧ w = w' := by
  have h0 : 0 ≤ IntKind.u64.wrap n := by simp [IntKind.wrap, IntKind.bits, IntKind.signed]; omega
  have h3 : (IntKind.u64.wrap n).tmod 1099511627777 = (numF n : Int) := by rw [Int.tmod_eq_emod_of_nonneg h0]; unfold numF; omega
  have h4 : wrap64 (numF n : Int) = (numF n : Int) := IntWalk.wrap64_in _ (by have := numF_le n; omega)
  have H := Lib.hid (And.intro h3 h4)
  clear h0 h3 h4
  go_enter Try.func32, Try.ntmps32
  go_wp2_with (fail)
  go_ret
  rw [H.out.1, H.out.2]
  exact ⟨rfl, rfl⟩
theorem be8_inj {m n : Nat} (hm : m ≤ 1099511627776) (hn : n ≤ 1099511627776) (h : be8 m = be8 n) : m = n := by
  have := congrArg valD h
  rwa [valD_be8 hm, valD_be8 hn] at this
theorem bytesD_inj {m n : Nat} (hm : m ≤ 1099511627776) (hn : n ≤ 1099511627776) (h : bytesD m = bytesD n) : m = n := by
  have := congrArg (List.take 8) h
  exact be8_inj hm hn this
theorem lt8 (a0 a1 a2 a3 a4 a5 a6 a7 b0 b1 b2 b3 b4 b5 b6 b7 : UInt8) :
    ([a0, a1, a2, a3, a4, a5, a6, a7] < [b0, b1, b2, b3, b4, b5, b6, b7]) ↔ valD [a0, a1, a2, a3, a4, a5, a6, a7] < valD [b0, b1, b2, b3, b4, b5, b6, b7] := by
  have k0 := a0.toNat_lt; have k1 := a1.toNat_lt; have k2 := a2.toNat_lt; have k3 := a3.toNat_lt
  have k4 := a4.toNat_lt; have k5 := a5.toNat_lt; have k6 := a6.toNat_lt; have k7 := a7.toNat_lt
  have j0 := b0.toNat_lt; have j1 := b1.toNat_lt; have j2 := b2.toNat_lt; have j3 := b3.toNat_lt
  have j4 := b4.toNat_lt; have j5 := b5.toNat_lt; have j6 := b6.toNat_lt; have j7 := b7.toNat_lt
  simp only [valD, List.foldl_cons, List.foldl_nil, List.cons_lt_cons_iff, UInt8.lt_iff_toNat_lt, ← UInt8.toNat_inj, List.lt_irrefl, and_false, or_false]
  omega
theorem be8_lt {m n : Nat} (hm : m ≤ 1099511627776) (hn : n ≤ 1099511627776) : (be8 m < be8 n) ↔ m < n := by
  have h := lt8 (UInt8.ofNat (m / 72057594037927936)) (UInt8.ofNat (m / 281474976710656)) (UInt8.ofNat (m / 1099511627776)) (UInt8.ofNat (m / 4294967296)) (UInt8.ofNat (m / 16777216)) (UInt8.ofNat (m / 65536)) (UInt8.ofNat (m / 256)) (UInt8.ofNat m)
    (UInt8.ofNat (n / 72057594037927936)) (UInt8.ofNat (n / 281474976710656)) (UInt8.ofNat (n / 1099511627776)) (UInt8.ofNat (n / 4294967296)) (UInt8.ofNat (n / 16777216)) (UInt8.ofNat (n / 65536)) (UInt8.ofNat (n / 256)) (UInt8.ofNat n)
  have h1 : (be8 m < be8 n) ↔ valD (be8 m) < valD (be8 n) := h
  rw [h1, valD_be8 hm, valD_be8 hn]
set_option maxHeartbeats 4000000 in
set_option maxRecDepth 100000 in
theorem cursorOrder_walk (a b : Int) (w : World) (_wa : (Lit.int .i64 a).wf = true) (_wb : (Lit.int .i64 b).wf = true) : Calls Try.prog 7 #[.int .i64 a, .int .i64 b] w (True_ w) := by
  go_enter Try.func7, Try.ntmps7
  go_wp2_with (fail)
  refine (curNum a w).mono ?_
  rintro e w1 ⟨rfl, rfl⟩
  go_wp2_with (fail)
  refine (curNum b w).mono ?_
  rintro e w1 ⟨rfl, rfl⟩
  have HA := Lib.hid (numF_le a)
  have HB := Lib.hid (numF_le b)
  generalize numF a = m at *
  generalize numF b = n at *
  go_wp2_with (fail)
  refine (curBytes m HA.out w).mono ?_
  rintro e w1 ⟨g, rfl, hg, hrow, hb1⟩
  have HR1 := Lib.hid hrow
  have HB1 := Lib.hid hb1
  clear hg hrow hb1
  go_wp2_with (fail)
  refine (curBytes n HB.out w1).mono ?_
  rintro e w2 ⟨g2, rfl, hg2, hrow2, hb2⟩
  have HR2 := Lib.hid hrow2
  have HR12 : Hid (w2.heap[g]? = some (.cells (u8s (bytesD m)).toArray 5)) := Lib.hid ((hb2.block g (Array.getElem?_eq_some_iff.1 HR1.out).1).trans HR1.out)
  have HB2 : Hid (Below w.heap.size w w2) := Lib.hid (HB1.out.trans (hb2.mono HB1.out.size))
  clear hg2 hrow2 hb2 HR1 HB1
  go_wp2_with (fail)
  refine (curAlive w2).mono ?_
  rintro e w3 ⟨rfl, hb3⟩
  have hr1 := (hb3.block g (Array.getElem?_eq_some_iff.1 HR12.out).1).trans HR12.out
  have hr2 := (hb3.block g2 (Array.getElem?_eq_some_iff.1 HR2.out).1).trans HR2.out
  have HB3 : Hid (Below w.heap.size w w3) := Lib.hid (HB2.out.trans (hb3.mono HB2.out.size))
  have c1 := fun q => ((Bs.of_block (n := 8) (c := 12) (cur := u8s (bytesD m)) (l := be8 m) hr1 rfl rfl (by decide) (by decide)).drewN q).str (P := Try.prog) 22 5 9 Try.underlying22 Try.underlying5 Try.underlying9
  have c2 := fun q => ((Bs.of_block (n := 8) (c := 12) (cur := u8s (bytesD n)) (l := be8 n) hr2 rfl rfl (by decide) (by decide)).drewN q).str (P := Try.prog) 22 5 9 Try.underlying22 Try.underlying5 Try.underlying9
  have c3 := fun q => ((Bs.block hr1 (n := 12) rfl (by decide)).drewN q).str (P := Try.prog) 22 5 9 Try.underlying22 Try.underlying5 Try.underlying9
  have c4 := fun q => ((Bs.block hr2 (n := 12) rfl (by decide)).drewN q).str (P := Try.prog) 22 5 9 Try.underlying22 Try.underlying5 Try.underlying9
  have hlt : Op.bytesLess (txt (be8 m)).toList (txt (be8 n)).toList = decide ((m : Int) < (n : Int)) := by
    rw [bytesLess_eq, Go.ByteArray.toList_eq, Go.ByteArray.toList_eq, decide_eq_decide]
    rw [show (txt (be8 m)).data.toList = be8 m from by simp, show (txt (be8 n)).data.toList = be8 n from by simp, be8_lt HA.out HB.out]
    omega
  have heq : ((txt (bytesD m)).toList == (txt (bytesD n)).toList) = ((m : Int) == (n : Int)) := by
    rw [Go.ByteArray.toList_eq, Go.ByteArray.toList_eq]
    rw [show (txt (bytesD m)).data.toList = bytesD m from by simp, show (txt (bytesD n)).data.toList = bytesD n from by simp]
    by_cases h : m = n
    · subst h; simp
    · have h1 : (bytesD m == bytesD n) = false := by rw [beq_eq_false_iff_ne]; exact fun e => h (bytesD_inj HA.out HB.out e)
      have h2 : ((m : Int) == (n : Int)) = false := by rw [beq_eq_false_iff_ne]; omega
      rw [h1, h2]
  clear hb3 hr1 hr2 HR12 HR2 HB2 HA HB
  generalize txt (be8 m) = x1 at *
  generalize txt (be8 n) = x2 at *
  generalize txt (bytesD m) = x3 at *
  generalize txt (bytesD n) = x4 at *
  have h3 : (m < n ∧ m ≠ n) ∨ m = n ∨ (¬ m < n ∧ m ≠ n) := by omega
  rcases h3 with ⟨h1, h2⟩ | h2 | ⟨h1, h2⟩
  · have e1 : decide ((m : Int) < (n : Int)) = true := by simp; omega
    have e2 : ((m : Int) == (n : Int)) = false := by rw [beq_eq_false_iff_ne]; omega
    have e3 : (m : Int) < (n : Int) := by omega
    rw [e1] at hlt
    rw [e2] at heq
    clear h1 h2
    go_wp2_with (fail)
    go_quiet (fail)
    go_wp2_with (fail)
    go_ret
    exact ⟨rfl, drawN_below HB3.out _⟩
  · subst h2
    have e1 : decide ((m : Int) < (m : Int)) = false := by simp
    have e2 : ((m : Int) == (m : Int)) = true := by simp
    rw [e1] at hlt
    rw [e2] at heq
    go_wp2_with (fail)
    go_quiet (fail)
    go_wp2_with (fail)
    go_ret
    exact ⟨rfl, drawN_below HB3.out _⟩
  · have e1 : decide ((m : Int) < (n : Int)) = false := by simp; omega
    have e2 : ((m : Int) == (n : Int)) = false := by rw [beq_eq_false_iff_ne]; omega
    have e3 : decide (m < n) = false := by simpa using h1
    rw [e1] at hlt
    rw [e2] at heq
    clear h2
    go_wp2_with (fail)
    go_quiet (fail)
    go_wp2_with (fail)
    go_ret
    exact ⟨rfl, drawN_below HB3.out _⟩
end Go.Proofs.Ytolomfdommnklaa
