/- Layer 19: the document's examples, walked. -/
import Derived.Test.YtnoppnnpennddaaDoorTr7
import Derived.Deep.Onto
namespace Go.Proofs.YtnoppnnpennddaaDoor
open Go.RowKit

abbrev ex0 : ByteArray := ⟨#[105, 110, 32, 48, 98, 48, 100, 10, 98, 97, 99, 107, 32, 45, 10]⟩
abbrev ex1 : ByteArray := ⟨#[98, 97, 99, 107, 32, 45, 10]⟩
abbrev lineA : ByteArray := ⟨#[105, 110, 32, 48, 98, 48, 100]⟩
abbrev lineB : ByteArray := ⟨#[98, 97, 99, 107, 32, 45]⟩
theorem cutA : Lib.cut ex0.data.toList [10] = (lineA.data.toList, ex1.data.toList, true) := by decide +kernel
theorem cutB : Lib.cut ex1.data.toList [10] = (lineB.data.toList, [], true) := by decide +kernel
theorem outA : outD lineA.data.toList = none := by decide +kernel
theorem readA' : readW (wordsN lineA.data.toList) = some (0, 0, 0, [11, 13]) := by decide +kernel
theorem outB : outD lineB.data.toList = some (true, []) := by decide +kernel
/-- where the example's parsing stands -/
def ExS (w : World) (s l n : Value) (wr : World) : Prop :=
  (s = .string ex0 ∧ l = nilE ∧ n = .int .i64 0 ∧ Below w.heap.size w wr) ∨
  (s = .string ex1 ∧ n = .int .i64 1 ∧ ∃ g c A m c2, l = .slice (some ⟨g, 0, none⟩) 1 c ∧ wr.ownsRow w.heap.size TS 6 (.slice (some ⟨g, 0, none⟩) 1 c) 1 (stC 0 0 0 (.slice A m c2) nilE false) ∧ Bs wr A m c2 [11, 13] ∧ (∀ b, A = some b → m = 0 ∨ b.block ≠ g) ∧ Below w.heap.size w wr) ∨
  (s = .string ⟨#[]⟩ ∧ n = .int .i64 2 ∧ ∃ g c A m c2 gO cO, l = .slice (some ⟨g, 0, none⟩) 1 c ∧ wr.ownsRow w.heap.size TS 6 (.slice (some ⟨g, 0, none⟩) 1 c) 1 (stC 0 0 0 (.slice A m c2) (.slice (some ⟨gO, 0, none⟩) 1 cO) false) ∧ wr.cell? ⟨gO, 0, none⟩ = some (.bool true) ∧ Bs wr A m c2 [11, 13] ∧ Below w.heap.size w wr)
/-- what parsing the example gives -/
def ExP (w : World) (e : Ending) (w' : World) : Prop :=
  ∃ g c A m c2 gO cO, e = .returned (.tuple #[.slice (some ⟨g, 0, none⟩) 1 c, .int .i64 2, .int .i64 0]) ∧ w'.ownsRow w.heap.size TS 6 (.slice (some ⟨g, 0, none⟩) 1 c) 1 (stC 0 0 0 (.slice A m c2) (.slice (some ⟨gO, 0, none⟩) 1 cO) false) ∧ w'.cell? ⟨gO, 0, none⟩ = some (.bool true) ∧ Bs w' A m c2 [11, 13] ∧ Below w.heap.size w w'

theorem results_tmp3 {fn : Func} {t u v : Tmp} (h : fn.results = #[.tmp t, .tmp u, .tmp v]) (tmps : Array Value) (P : Program) (w : World) :
    (results fn tmps).run P w = .ok (.tuple #[tmps.getD t undef, tmps.getD u undef, tmps.getD v undef]) w := by
  simp [results, h]
theorem Bs.grown {w w' : World} {A : Option Addr} {n c : Nat} {l : List UInt8} (h : Bs w A n c l) {g : Nat} (hg : w.grownBy w' (some g)) (hA : ∀ b, A = some b → n = 0 ∨ b.block ≠ g) : Bs w' A n c l := by
  refine ⟨h.1, h.2.1, h.2.2.1, fun hn => ?_⟩
  obtain ⟨b, o, e, hlt, hc⟩ := h.at_ hn
  refine ⟨b, o, e, fun i x hx => ?_⟩
  have hne := (hA _ e).resolve_left (by omega)
  have hb := hg.block b hlt (fun e => hne (Option.some.inj e))
  have := hc i x hx
  simp only [World.cell?, hb] at this ⊢
  exact this
set_option maxHeartbeats 4000000 in
set_option maxRecDepth 100000 in
theorem parseEx (w : World) (hm : MaxLen w) (hr : TRows w) : Calls Tryd.prog 23 #[.string ex0] w (ExP w) := by
  have HM := Lib.hid (fun W (hb : Below w.heap.size w W) => hm.below hb)
  have HR := Lib.hid (fun W (hb : Below w.heap.size w W) => hr.below hb)
  clear hm hr
  go_enter Tryd.func23, Tryd.ntmps23
  go_wp2_with (fail)
  go_loopw [0, 5, 6, 7, 8, 9, 10, 11] (fun s l n _ _ _ _ _ wr => ExS w s l n wr) (fun _ _ n _ _ _ _ _ _ => 2 - (intOf n).toNat)
  case atStart => exact .inl ⟨rfl, rfl, rfl, Below.refl _ _⟩
  case round =>
    obtain ⟨wo, rfl⟩ : ∃ wo : World, wo = wr := ⟨_, rfl⟩
    rcases hrel with ⟨rfl, rfl, rfl, hb⟩ | ⟨rfl, rfl, g, c, A, m, c2, rfl, ho, hB, hA, hb⟩ | ⟨rfl, rfl, g, c, A, m, c2, gO, cO, rfl, ho, hc, hB, hb⟩
    · as_aux_lemma =>
      have HB := Lib.hid hb
      clear hb
      go_wp2_with (fail)
      obtain ⟨q, hq⟩ := HM.out _ HB.out
      refine (Tryd.strings_Cut ex0 (txt [10]) q wo (by decide) hq).mono ?_
      rw [show (txt [10]).data.toList = [10] from rfl, cutA]
      rintro e w1 ⟨rfl, nq, rfl⟩
      have HB1 : Hid (Below w.heap.size w (wo.drewN nq)) := Lib.hid (drawN_below HB.out _)
      generalize wo.drewN nq = w1 at *
      clear hq
      go_wp2_with (fail)
      refine (parseLine1 lineA 0 0 0 [11, 13] w1 (by decide) (HM.out _ HB1.out) (HR.out _ HB1.out) outA (by decide +kernel) readA').mono ?_
      rintro e w2 ⟨g, c, A, m, c2, rfl, ho, hB, hA, hb2⟩
      have HO := Lib.hid ho
      have HBS := Lib.hid hB
      have HAA := Lib.hid hA
      have HB2 := Lib.hid (HB1.out.trans (hb2.mono HB1.out.size))
      have HSZ := Lib.hid HB1.out.size
      clear ho hB hA hb2
      go_wp2_with (fail)
      exact ⟨.inr (.inl ⟨rfl, rfl, g, c, A, m, c2, rfl, World.ownsRow.mono HO.out HSZ.out, HBS.out, HAA.out, HB2.out⟩), by simp [intOf]⟩
    · as_aux_lemma =>
      have HO := Lib.hid ho
      have HBS := Lib.hid hB
      have HAA := Lib.hid hA
      have HB := Lib.hid hb
      clear ho hB hA hb
      go_wp2_with (fail)
      obtain ⟨q, hq⟩ := HM.out _ HB.out
      refine (Tryd.strings_Cut ex1 (txt [10]) q wo (by decide) hq).mono ?_
      rw [show (txt [10]).data.toList = [10] from rfl, cutB]
      rintro e w1 ⟨rfl, nq, rfl⟩
      have HB1 : Hid (Below w.heap.size w (wo.drewN nq)) := Lib.hid (drawN_below HB.out _)
      have HO1 := Lib.hid (row_below HO.out (drawN_below (Below.refl _ _) nq))
      have HBS1 := Lib.hid (HBS.out.drewN nq)
      generalize wo.drewN nq = w1 at *
      clear hq
      go_wp2_with (fail)
      refine (parseLine2 lineB w.heap.size g c 0 0 0 A m c2 true [] w1 (by decide) outB HO1.out).mono ?_
      rintro e w2 ⟨gO, cO, rfl, ho, hc, hg⟩
      have HO2 := Lib.hid ho
      have HC2 := Lib.hid hc
      have hge := (World.ownsRow.lt HO1.out g rfl).1
      have HB2 : Hid (Below w.heap.size w w2) := Lib.hid (HB1.out.grown hg HB1.out.size (fun k hk => by cases hk; exact hge))
      have HBS2 : Hid (Bs w2 A m c2 [11, 13]) := Lib.hid (Bs.grown HBS1.out hg HAA.out)
      clear ho hc hg hge
      go_wp2_with (fail)
      exact ⟨.inr (.inr ⟨rfl, rfl, g, c, A, m, c2, gO, cO, rfl, HO2.out, HC2.out, HBS2.out, HB2.out⟩), by simp [intOf]⟩
    · as_aux_lemma =>
      have HO := Lib.hid ho
      have HBS := Lib.hid hB
      have HC := Lib.hid hc
      have HB := Lib.hid hb
      clear ho hB hc hb
      go_wp2_with (fail)
      refine bodyPost_ret (v := .tuple #[.slice (some ⟨g, 0, none⟩) 1 c, .int .i64 2, .int .i64 0]) (results_tmp3 Tryd.results23 _ _ _) rfl ⟨g, c, A, m, c2, gO, cO, rfl, HO.out, HC.out, HBS.out, HB.out⟩

set_option maxHeartbeats 4000000 in
set_option maxRecDepth 100000 in
theorem alive19 (w : World) (hm : MaxLen w) (hr : TRows w) : Calls Tryd.prog 10 #[] w fun e w' => e = .returned (.bool true) ∧ Below w.heap.size w w' := by
  have HM := Lib.hid (fun W (hb : Below w.heap.size w W) => hm.below hb)
  have HR := Lib.hid (fun W (hb : Below w.heap.size w W) => hr.below hb)
  go_enter Tryd.func10, Tryd.ntmps10
  go_wp2_with (fail)
  refine (parseEx w hm hr).mono ?_
  clear hm hr
  rintro e w1 ⟨g, c, A, m, c2, gO, cO, rfl, ho, hc, hB, hb⟩
  have HO := Lib.hid ho
  have HC := Lib.hid hc
  have HBS := Lib.hid hB
  have HB := Lib.hid hb
  have HCO := Lib.hid (World.block_lt_of_cell? w1 _ hc)
  clear ho hc hB hb
  go_wp2_with (fail)
  refine (read_ ⟨#[116, 105, 99, 107, 32, 48, 53]⟩ w1 (by decide) (HM.out _ HB.out) (HR.out _ HB.out)).mono ?_
  rw [show readW (wordsN (⟨#[116, 105, 99, 107, 32, 48, 53]⟩ : ByteArray).data.toList) = none from by decide +kernel]
  rintro e w2 (⟨_, rfl, hb2⟩ | ⟨k, n, kp, l, A', m', c', he, _⟩)
  · have hb3 : Below w1.heap.size w1 (w2.alloc (.cells (evC 0 0 0 nilE) TE)) := hb2.alloc hb2.size _
    have HO3 := Lib.hid (row_below HO.out hb3)
    have HBS3 := Lib.hid (HBS.out.below hb3)
    have hc3 : (w2.alloc (.cells (evC 0 0 0 nilE) TE)).cell? ⟨gO, 0, none⟩ = some (.bool true) := (hb3.cell (p := ⟨gO, 0, none⟩) HCO.out).trans HC.out
    have HB3 := Lib.hid (HB.out.trans (hb3.mono HB.out.size))
    have e3 : (w2.alloc (.cells (evC 0 0 0 nilE) TE)).cell? ⟨g, 3, none⟩ = some (.slice A m c2) := HO3.out.cellAt 3 (by decide)
    have e4 : (w2.alloc (.cells (evC 0 0 0 nilE) TE)).cell? ⟨g, 4, none⟩ = some (.slice (some ⟨gO, 0, none⟩) 1 cO) := HO3.out.cellAt 4 (by decide)
    have hcv := HBS3.out.str (P := Tryd.prog) 22 5 9 Tryd.underlying22 Tryd.underlying5 Tryd.underlying9
    clear hb2 hb3
    go_wp2_with (fail)
    go_ret
    exact ⟨rfl, HB3.out⟩
  · cases he
end Go.Proofs.YtnoppnnpennddaaDoor
