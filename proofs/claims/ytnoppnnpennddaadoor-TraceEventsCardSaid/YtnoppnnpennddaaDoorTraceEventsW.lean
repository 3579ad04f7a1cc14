/- TraceEvents, walked. -/
import Derived.Test.YtnoppnnpennddaaDoorTr8
import Derived.Test.YtnoppnnpennddaaDoorTr10
import Derived.Test.YtnoppnnpennddaaDoorTr12
import Derived.Test.YtnoppnnpennddaaDoorTr13
import Derived.Test.YtnoppnnpennddaaDoorTr14
namespace Go.Proofs.YtnoppnnpennddaaDoor
open Go.RowKit

/-- what a text reads to, with the code -/
def fieldsR (r : Option (Int × Int × Int × List UInt8)) : (Int × Int × Int × List UInt8) × Int := match r with
  | none => ((0, 0, 0, []), 10)
  | some q => (q, 0)
theorem RetRd.any {r : Option (Int × Int × Int × List UInt8)} {w w' : World} {e : Ending} (h : RetRd r w e w') : ∃ A m c, e = .returned (.tuple #[evV (fieldsR r).1.1 (fieldsR r).1.2.1 (fieldsR r).1.2.2.1 (.slice A m c), .int .i64 (fieldsR r).2]) ∧ Bs w' A m c (fieldsR r).1.2.2.2 ∧ Below w.heap.size w w' := by
  rcases h with ⟨rfl, h1, h2⟩ | ⟨k, n, kp, l, A, m, c, rfl, h1, h2, h3⟩
  · exact ⟨none, 0, 0, h1, Bs.none_ _, h2⟩
  · exact ⟨A, m, c, h1, h2, h3⟩
theorem i64_bd {n : Int} (h : (Lit.int .i64 n).wf = true) : -9223372036854775808 ≤ n ∧ n ≤ 9223372036854775807 := by simpa [Lit.wf, IntKind.min, IntKind.max, IntKind.signed, IntKind.bits] using h

set_option maxHeartbeats 8000000 in
set_option maxRecDepth 100000 in
theorem traceEvents_walk (k n kp : Int) (A : Option Addr) (m c : Nat) (l : List UInt8) (s : ByteArray) (w : World) (hv : TRows w ∧ MaxLen w ∧ Pow w) (hB : Bs w A m c l) (_wk : (Lit.int .i64 k).wf = true) (wn : (Lit.int .i64 n).wf = true) (wq : (Lit.int .i64 kp).wf = true) (_hs : s.size ≤ maxLen) :
    Calls Tryd.prog 3 #[evV k n kp (.slice A m c), .string s] w fun e w' => e = .returned (.bool true) ∧ Below w.heap.size w w' := by
  have HR := Lib.hid (fun W (hb : Below w.heap.size w W) => hv.1.below hb)
  have HM := Lib.hid (fun W (hb : Below w.heap.size w W) => hv.2.1.below hb)
  have HP := Lib.hid (fun W (hb : Below w.heap.size w W) => hv.2.2.below hb)
  have HN := Lib.hid (i64_bd wn)
  have HK := Lib.hid (i64_bd wq)
  have hbA : Below w.heap.size w (w.alloc (.cells (evC k n kp (.slice A m c)) TE)) := (Below.refl _ w).alloc (Nat.le_refl _) _
  have HZ : Hid ((w.alloc (.cells (evC k n kp (.slice A m c)) TE)).heap[w.heap.size]? = some (.cells (evC k n kp (.slice A m c)) TE)) := Lib.hid (heap_alloc_new w _)
  have HBS := Lib.hid (hB.below hbA)
  have HB := Lib.hid hbA
  clear hv hB hbA _wk wn wq
  go_enter Tryd.func3, Tryd.ntmps3
  obtain ⟨g0, hg0⟩ : ∃ g, g = w.heap.size := ⟨_, rfl⟩
  have e3 : (w.alloc (.cells (evC k n kp (.slice A m c)) TE)).cell? ⟨w.heap.size, 3, none⟩ = some (.slice A m c) := cell_of_row _ _ 3 _ _ _ HZ.out
  by_cases hbig : 1000 < m
  · as_aux_lemma =>
    have d1 : decide ((1000 : Int) < (m : Int)) = true := by simp; omega
    go_wp2_with (fail)
    refine (alive19 _ (HM.out _ HB.out) (HR.out _ HB.out)).mono ?_
    rintro e w2 ⟨rfl, hbA⟩
    have HBA := Lib.hid (HB.out.trans (hbA.mono HB.out.size))
    clear hbA
    go_wp2_with (fail)
    go_ret
    exact ⟨rfl, HBA.out⟩
  have d1 : decide ((1000 : Int) < (m : Int)) = false := by simp; omega
  have HMM : Hid (m ≤ 1000) := Lib.hid (by omega)
  clear hbig
  by_cases hbig : 1000 < s.size
  · as_aux_lemma =>
    have d2 : decide ((1000 : Int) < (s.size : Int)) = true := by simp; omega
    go_wp2_with (fail)
    refine (alive19 _ (HM.out _ HB.out) (HR.out _ HB.out)).mono ?_
    rintro e w2 ⟨rfl, hbA⟩
    have HBA := Lib.hid (HB.out.trans (hbA.mono HB.out.size))
    clear hbA
    go_wp2_with (fail)
    go_ret
    exact ⟨rfl, HBA.out⟩
  have d2 : decide ((1000 : Int) < (s.size : Int)) = false := by simp; omega
  have HSN : Hid (s.size ≤ 1000) := Lib.hid (by omega)
  clear hbig
  have e0 : (w.alloc (.cells (evC k n kp (.slice A m c)) TE)).cell? ⟨w.heap.size, 0, none⟩ = some (.int .i64 k) := cell_of_row _ _ 0 _ _ _ HZ.out
  have e1 : (w.alloc (.cells (evC k n kp (.slice A m c)) TE)).cell? ⟨w.heap.size, 1, none⟩ = some (.int .i64 n) := cell_of_row _ _ 1 _ _ _ HZ.out
  have e2 : (w.alloc (.cells (evC k n kp (.slice A m c)) TE)).cell? ⟨w.heap.size, 2, none⟩ = some (.int .i64 kp) := cell_of_row _ _ 2 _ _ _ HZ.out
  go_wp2_with (fail)
  clear e0 e1 e2 e3 d1 d2
  rw [← hg0] at HZ ⊢
  clear hg0
  generalize w.alloc (.cells (evC k n kp (.slice A m c)) TE) = w0 at *
  have HBO := Lib.hid HB.out
  have HZO := Lib.hid HZ.out
  have HBSO := Lib.hid HBS.out
  obtain ⟨T, hT⟩ : ∃ T, T = evT k n kp l := ⟨_, rfl⟩
  refine (event_ k n kp A m c l w0 HBS.out (by have := HMM.out; omega) HN.out.1 HN.out.2 HK.out.1 HK.out.2 (HR.out _ HB.out) (HP.out _ HB.out)).mono ?_
  rw [← hT]
  rintro e w1 ⟨rfl, hb1⟩
  have HREF : Hid (∀ W, Bs W A m c l → Calls Tryd.prog 12 #[evV k n kp (.slice A m c)] W (RetT T W)) := Lib.hid (fun W hW => hT ▸ refEvent k n kp A m c l W hW (by have := HMM.out; omega) HN.out.1 HN.out.2 HK.out.1 HK.out.2)
  clear hT
  have hlt := (Array.getElem?_eq_some_iff.1 HZ.out).1
  have HZ1 := Lib.hid ((hb1.block _ hlt).trans HZ.out)
  have HB1 := Lib.hid (HB.out.trans (hb1.mono HB.out.size))
  have HBS1 := Lib.hid (HBS.out.below hb1)
  clear hb1 hlt HZ HB HBS HBO HZO HBSO
  have e0 : w1.cell? ⟨g0, 0, none⟩ = some (.int .i64 k) := cell_of_row _ g0 0 _ _ _ HZ1.out
  have e1 : w1.cell? ⟨g0, 1, none⟩ = some (.int .i64 n) := cell_of_row _ g0 1 _ _ _ HZ1.out
  have e2 : w1.cell? ⟨g0, 2, none⟩ = some (.int .i64 kp) := cell_of_row _ g0 2 _ _ _ HZ1.out
  have e3 : w1.cell? ⟨g0, 3, none⟩ = some (.slice A m c) := cell_of_row _ g0 3 _ _ _ HZ1.out
  go_wp2_with (fail)
  clear e0 e1 e2 e3
  refine (HREF.out w1 HBS1.out).mono ?_
  rintro e w2 ⟨rfl, hb2⟩
  have HB2 := Lib.hid (HB1.out.trans (hb2.mono HB1.out.size))
  clear hb2 HREF HZ1 HB1 HBS1 HN HK HP HMM
  obtain ⟨t1, t2⟩ := T
  dsimp only
  obtain ⟨Q, hQ⟩ : ∃ Q, Q = readW (wordsN s.data.toList) := ⟨_, rfl⟩
  have HRF : Hid (∀ W, Calls Tryd.prog 14 #[.string s] W (RetRd Q W)) := Lib.hid (fun W => hQ ▸ refRead19 s W (by have := HSN.out; omega))
  go_wp2_with (fail)
  refine (read_ s w2 (by have := HSN.out; omega) (HM.out _ HB2.out) (HR.out _ HB2.out)).mono ?_
  rw [← hQ]
  intro e w3 hret
  obtain ⟨A3, m3, c3, rfl, hB3, hb3⟩ := hret.any
  clear hret hQ
  obtain ⟨F, hF⟩ : ∃ F, F = fieldsR Q := ⟨_, rfl⟩
  have HRG : Hid (∀ W, Calls Tryd.prog 14 #[.string s] W fun e w' => ∃ A m c, e = .returned (.tuple #[evV F.1.1 F.1.2.1 F.1.2.2.1 (.slice A m c), .int .i64 F.2]) ∧ Bs w' A m c F.1.2.2.2 ∧ Below W.heap.size W w') := Lib.hid (fun W => (HRF.out W).mono fun e w' h => hF ▸ h.any)
  rw [← hF] at hB3 ⊢
  clear hF HRF
  obtain ⟨⟨fk, fn, fp, fl⟩, fe⟩ := F
  dsimp only at hB3 HRG ⊢
  have hb3' : Below w2.heap.size w2 (w3.alloc (.cells (evC fk fn fp (.slice A3 m3 c3)) TE)) := hb3.alloc hb3.size _
  have HZ3 : Hid ((w3.alloc (.cells (evC fk fn fp (.slice A3 m3 c3)) TE)).heap[w3.heap.size]? = some (.cells (evC fk fn fp (.slice A3 m3 c3)) TE)) := Lib.hid (heap_alloc_new w3 _)
  have HB3 := Lib.hid (HB2.out.trans (hb3'.mono HB2.out.size))
  have HBS3 := Lib.hid (hB3.below ((Below.refl _ w3).alloc (Nat.le_refl _) (.cells (evC fk fn fp (.slice A3 m3 c3)) TE)))
  clear hb3 hb3' hB3 HB2
  go_wp2_with (fail)
  obtain ⟨g3, hg3⟩ : ∃ g, g = w3.heap.size := ⟨_, rfl⟩
  rw [← hg3] at HZ3 ⊢
  clear hg3
  generalize w3.alloc (.cells (evC fk fn fp (.slice A3 m3 c3)) TE) = w4 at *
  refine (HRG.out w4).mono ?_
  rintro e w5 ⟨A5, m5, c5, rfl, hB5, hb5⟩
  have hb5' : Below w4.heap.size w4 (w5.alloc (.cells (evC fk fn fp (.slice A5 m5 c5)) TE)) := hb5.alloc hb5.size _
  have HZ5 : Hid ((w5.alloc (.cells (evC fk fn fp (.slice A5 m5 c5)) TE)).heap[w5.heap.size]? = some (.cells (evC fk fn fp (.slice A5 m5 c5)) TE)) := Lib.hid (heap_alloc_new w5 _)
  have hlt := (Array.getElem?_eq_some_iff.1 HZ3.out).1
  have HZ4 := Lib.hid ((hb5'.block _ hlt).trans HZ3.out)
  have HB5 := Lib.hid (HB3.out.trans (hb5'.mono HB3.out.size))
  have HBS5 := Lib.hid (HBS3.out.below hb5')
  have HBT5 := Lib.hid (hB5.below ((Below.refl _ w5).alloc (Nat.le_refl _) (.cells (evC fk fn fp (.slice A5 m5 c5)) TE)))
  clear hb5 hb5' hB5 hlt HZ3 HB3 HBS3 HRG
  go_wp2_with (fail)
  obtain ⟨g5, hg5⟩ : ∃ g, g = w5.heap.size := ⟨_, rfl⟩
  rw [← hg5] at HZ5 ⊢
  clear hg5
  generalize w5.alloc (.cells (evC fk fn fp (.slice A5 m5 c5)) TE) = w6 at *
  refine (alive19 w6 (HM.out _ HB5.out) (HR.out _ HB5.out)).mono ?_
  rintro e w7 ⟨rfl, hb7⟩
  have hl4 := (Array.getElem?_eq_some_iff.1 HZ4.out).1
  have hl5 := (Array.getElem?_eq_some_iff.1 HZ5.out).1
  have HZ6 := Lib.hid ((hb7.block _ hl4).trans HZ4.out)
  have HZ7 := Lib.hid ((hb7.block _ hl5).trans HZ5.out)
  have HB7 := Lib.hid (HB5.out.trans (hb7.mono HB5.out.size))
  have HBS7 := Lib.hid (HBS5.out.below hb7)
  have HBT7 := Lib.hid (HBT5.out.below hb7)
  clear hb7 hl4 hl5 HZ4 HZ5 HB5 HBS5 HBT5
  have a0 : w7.cell? ⟨g3, 0, none⟩ = some (.int .i64 fk) := cell_of_row _ g3 0 _ _ _ HZ6.out
  have a1 : w7.cell? ⟨g3, 1, none⟩ = some (.int .i64 fn) := cell_of_row _ g3 1 _ _ _ HZ6.out
  have a2 : w7.cell? ⟨g3, 2, none⟩ = some (.int .i64 fp) := cell_of_row _ g3 2 _ _ _ HZ6.out
  have a3 : w7.cell? ⟨g3, 3, none⟩ = some (.slice A3 m3 c3) := cell_of_row _ g3 3 _ _ _ HZ6.out
  have hb1 : Below w7.heap.size w7 (w7.alloc (.cells #[.int .i64 fk, .int .i64 fn, .int .i64 fp, .slice A3 m3 c3, .slice none 0 0, .bool false] TS)) := (Below.refl _ w7).alloc (Nat.le_refl _) _
  have hb2 : Below w7.heap.size w7 ((w7.alloc (.cells #[.int .i64 fk, .int .i64 fn, .int .i64 fp, .slice A3 m3 c3, .slice none 0 0, .bool false] TS)).alloc (.cells #[.int .i64 fk, .int .i64 fn, .int .i64 fp, .slice A5 m5 c5, .slice none 0 0, .bool false] TS)) := hb1.alloc hb1.size _
  have HZ8 := Lib.hid ((hb1.block _ (Array.getElem?_eq_some_iff.1 HZ7.out).1).trans HZ7.out)
  have b0 : (w7.alloc (.cells #[.int .i64 fk, .int .i64 fn, .int .i64 fp, .slice A3 m3 c3, .slice none 0 0, .bool false] TS)).cell? ⟨g5, 0, none⟩ = some (.int .i64 fk) := cell_of_row _ g5 0 _ _ _ HZ8.out
  have b1 : (w7.alloc (.cells #[.int .i64 fk, .int .i64 fn, .int .i64 fp, .slice A3 m3 c3, .slice none 0 0, .bool false] TS)).cell? ⟨g5, 1, none⟩ = some (.int .i64 fn) := cell_of_row _ g5 1 _ _ _ HZ8.out
  have b2 : (w7.alloc (.cells #[.int .i64 fk, .int .i64 fn, .int .i64 fp, .slice A3 m3 c3, .slice none 0 0, .bool false] TS)).cell? ⟨g5, 2, none⟩ = some (.int .i64 fp) := cell_of_row _ g5 2 _ _ _ HZ8.out
  have b3 : (w7.alloc (.cells #[.int .i64 fk, .int .i64 fn, .int .i64 fp, .slice A3 m3 c3, .slice none 0 0, .bool false] TS)).cell? ⟨g5, 3, none⟩ = some (.slice A5 m5 c5) := cell_of_row _ g5 3 _ _ _ HZ8.out
  have HX1 : Hid (((w7.alloc (.cells #[.int .i64 fk, .int .i64 fn, .int .i64 fp, .slice A3 m3 c3, .slice none 0 0, .bool false] TS)).alloc (.cells #[.int .i64 fk, .int .i64 fn, .int .i64 fp, .slice A5 m5 c5, .slice none 0 0, .bool false] TS)).heap[w7.heap.size]? = some (.cells #[.int .i64 fk, .int .i64 fn, .int .i64 fp, .slice A3 m3 c3, .slice none 0 0, .bool false] TS)) := Lib.hid (heap_keep (heap_alloc_new w7 (.cells #[.int .i64 fk, .int .i64 fn, .int .i64 fp, .slice A3 m3 c3, .slice none 0 0, .bool false] TS)) (.cells #[.int .i64 fk, .int .i64 fn, .int .i64 fp, .slice A5 m5 c5, .slice none 0 0, .bool false] TS))
  have HX2 : Hid (((w7.alloc (.cells #[.int .i64 fk, .int .i64 fn, .int .i64 fp, .slice A3 m3 c3, .slice none 0 0, .bool false] TS)).alloc (.cells #[.int .i64 fk, .int .i64 fn, .int .i64 fp, .slice A5 m5 c5, .slice none 0 0, .bool false] TS)).heap[w7.heap.size + 1]? = some (.cells #[.int .i64 fk, .int .i64 fn, .int .i64 fp, .slice A5 m5 c5, .slice none 0 0, .bool false] TS)) := Lib.hid (by have := heap_alloc_new (w7.alloc (.cells #[.int .i64 fk, .int .i64 fn, .int .i64 fp, .slice A3 m3 c3, .slice none 0 0, .bool false] TS)) (.cells #[.int .i64 fk, .int .i64 fn, .int .i64 fp, .slice A5 m5 c5, .slice none 0 0, .bool false] TS); rwa [World.size_alloc] at this)
  have HBF := Lib.hid (HB7.out.trans (hb2.mono HB7.out.size))
  have HBS8 := Lib.hid (HBS7.out.below hb2)
  have HBT8 := Lib.hid (HBT7.out.below hb2)
  have z1 : decide (t2 = t2) = true := by simp
  clear hb1 hb2
  go_wp2_with (fail)
  refine (same1 fk fn fp A3 A5 m3 c3 m5 c5 _ 1 _ 1 fl _ HX1.out HX2.out HBS8.out HBT8.out).mono ?_
  rintro e w9 ⟨rfl, hb9⟩
  have HB9 := Lib.hid (HBF.out.trans (hb9.mono HBF.out.size))
  clear hb9 a0 a1 a2 a3 b0 b1 b2 b3
  go_wp2_with (fail)
  go_ret
  exact ⟨rfl, HB9.out⟩
end Go.Proofs.YtnoppnnpennddaaDoor
