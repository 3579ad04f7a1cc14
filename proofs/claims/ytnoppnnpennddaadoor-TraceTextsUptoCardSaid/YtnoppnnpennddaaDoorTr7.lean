/- Layer 19: a line parsed, walked: the first event, and its first output. -/
import Derived.Test.YtnoppnnpennddaaDoorTr6
import Derived.Deep.AppendLies
namespace Go.Proofs.YtnoppnnpennddaaDoor
open Go.RowKit

abbrev TS : TypeId := 38
abbrev stC (k n kp : Int) (dv ov : Value) (cr : Bool) : List Value := [.int .i64 k, .int .i64 n, .int .i64 kp, dv, ov, .bool cr]
theorem stInfo : (Tryd.prog.info? TS).map (fun i => (i.zero, i.size, i.bytes)) = some (some (.agg (stC 0 0 0 nilE nilE false).toArray), 6, 80) := by kernel_rfl
theorem ouInfo : (Tryd.prog.info? TO).map (fun i => (i.zero, i.size, i.bytes)) = some (some (ouV false nilE), 2, 32) := by kernel_rfl
theorem cells_new (w : World) (cs : List Value) (t : TypeId) : ∀ j u, cs[j]? = some u → (w.alloc (.cells cs.toArray t)).cell? ((⟨w.heap.size, 0, none⟩ : Addr).add j) = some u := by
  intro j u hj
  have hadd : (⟨w.heap.size, 0, none⟩ : Addr).add j = ⟨w.heap.size, j, none⟩ := by unfold Addr.add; split <;> simp_all
  rw [hadd, cell_of_row _ _ _ _ _ _ (heap_alloc_new w _)]
  simpa using hj
theorem row_below {w w' : World} {B n size : Nat} {e : TypeId} {v : Value} {xs : List Value} (h : w.ownsRow B e size v n xs) (hb : Below w.heap.size w w') : w'.ownsRow B e size v n xs := by
  refine ⟨h.1, ?_⟩
  rcases h.2 with hn | ⟨g, cap, cur, q, q1, q2, q3⟩
  · exact .inl hn
  · exact .inr ⟨g, cap, cur, q, q1, (hb.block g (Array.getElem?_eq_some_iff.1 q2).1).trans q2, q3⟩
/-- append of one element that was built right ahead, to a row of the call's own -/
theorem wpList_appOne {ops : Array Oper} {rest : List Oper} {o : Oper} {a : Act} {Q : Exit → Act → World → Prop} {w : World} (hgd : o.guard = none) (s x : Operand) (t : TypeId)
    (ho : o.op = .call { callee := .builtin .append, args := #[s, x], argTypes := #[t, t] }) (base : Nat) (e : TypeId) (z : Value) (size bytes : Nat) (ht : Tryd.prog.underlying t = some (.slice e))
    (hi : (Tryd.prog.info? e).map (fun i => (i.zero, i.size, i.bytes)) = some (some z, size, bytes)) (hzs : z.cells.size = size) (hsz : 0 < size)
    (v : Value) (n : Nat) (xs : List Value) (hs : a.eval s = v) (hown : w.ownsRow base e size v n xs) (cs : List Value) (c gx : Nat) (hgx : w.heap.size = gx) (hx : a.eval x = .slice (some ⟨gx, 0, none⟩) 1 c) (hl : cs.length = size) (h1 : ∀ u ∈ cs, u.oneCell' = true)
    (h63 : n + 1 ≤ 1000000000) (hb : bytes ≤ 1000) (hbase : base ≤ w.heap.size)
    (h : ∀ g cap w', w'.ownsRow base e size (.slice (some ⟨g, 0, none⟩) (n + 1) cap) (n + 1) (xs ++ cs) → (w.alloc (.cells cs.toArray e)).grownBy w' v.ownBlock → (v.ownBlock = some g ∨ g = w.heap.size + 1) → g < w'.heap.size → wpList Tryd.prog ops Q rest (a.put o.dst (.slice (some ⟨g, 0, none⟩) (n + 1) cap)) w') :
    wpList Tryd.prog ops Q (o :: rest) a (w.alloc (.cells cs.toArray e)) := by
  subst hgx
  obtain ⟨i, hi, hzz⟩ := Option.map_eq_some_iff.1 hi
  simp only [Prod.mk.injEq] at hzz
  obtain ⟨hz, hsize, hby⟩ := hzz
  refine wpList_append_lies _ hgd s x t ho base e i z size bytes ht hi hz hsize hby hzs hsz v n xs hs (hown.alloc _) ⟨w.heap.size, 0, none⟩ 1 c cs hx (by omega) (cells_new w cs e) h1 (by decide) (by simp only [maxLen]; omega) ?_ (Nat.le_trans hbase (by rw [World.size_alloc]; omega)) (w.heap.size + 1) (World.size_alloc _ _) h
  have : (n + 1) * bytes ≤ 1000000000 * 1000 := Nat.mul_le_mul h63 hb
  omega
/-- the same, within a region that draws its order -/
theorem step_appOne {ops : Array Oper} {o : Oper} {a : Act} {W : World} {K : Act → World → Prop} {Q : Exit → Act → World → Prop} {E : Prop} (hgd : o.guard = none) (s x : Operand) (t : TypeId)
    (ho : o.op = .call { callee := .builtin .append, args := #[s, x], argTypes := #[t, t] }) (base : Nat) (e : TypeId) (z : Value) (size bytes : Nat) (ht : Tryd.prog.underlying t = some (.slice e))
    (hi : (Tryd.prog.info? e).map (fun i => (i.zero, i.size, i.bytes)) = some (some z, size, bytes)) (hzs : z.cells.size = size) (hsz : 0 < size)
    (v : Value) (n : Nat) (xs : List Value) (hs : a.eval s = v) (hown : W.ownsRow base e size v n xs) (cs : List Value) (c gx : Nat) (hcell : W.heap[gx]? = some (.cells cs.toArray e)) (hx : a.eval x = .slice (some ⟨gx, 0, none⟩) 1 c) (hl : cs.length = size) (h1 : ∀ u ∈ cs, u.oneCell' = true)
    (h63 : n + 1 ≤ 1000000000) (hb : bytes ≤ 1000) (hbase : base ≤ W.heap.size)
    (h : ∀ g cap w', w'.ownsRow base e size (.slice (some ⟨g, 0, none⟩) (n + 1) cap) (n + 1) (xs ++ cs) → W.grownBy w' v.ownBlock → (v.ownBlock = some g ∨ g = W.heap.size) → g < w'.heap.size → K (a.put o.dst (.slice (some ⟨g, 0, none⟩) (n + 1) cap)) w') :
    if Region.wanted o (yielded ops a.tmps) = true then Oper.wp Tryd.prog o a W K Q else E := by
  obtain ⟨i, hi, hzz⟩ := Option.map_eq_some_iff.1 hi
  simp only [Prod.mk.injEq] at hzz
  obtain ⟨hz, hsize, hby⟩ := hzz
  have hnews : ∀ j u, cs[j]? = some u → W.cell? ((⟨gx, 0, none⟩ : Addr).add j) = some u := by
    intro j u hj
    have hadd : (⟨gx, 0, none⟩ : Addr).add j = ⟨gx, j, none⟩ := by unfold Addr.add; split <;> simp_all
    rw [hadd, cell_of_row _ _ _ _ _ _ hcell]
    simpa using hj
  have h2 : (n + 1) * bytes ≤ 1000000000 * 1000 := Nat.mul_le_mul h63 hb
  exact step_append_lies _ hgd s x t ho base e i z size bytes ht hi hz hsize hby hzs hsz v n xs hs hown ⟨gx, 0, none⟩ 1 c cs hx (by omega) hnews h1 (by decide) (by simp only [maxLen]; omega) (by omega) hbase W.heap.size rfl h
theorem stC_one (k n kp : Int) (A : Option Addr) (m c : Nat) (B : Option Addr) (m2 c2 : Nat) (cr : Bool) : ∀ u ∈ stC k n kp (.slice A m c) (.slice B m2 c2) cr, u.oneCell' = true := by
  intro u hu
  simp only [stC, List.mem_cons, List.not_mem_nil, or_false] at hu
  rcases hu with rfl | rfl | rfl | rfl | rfl | rfl <;> rfl
theorem ouC_one (b : Bool) (A : Option Addr) (m c : Nat) : ∀ u ∈ [Value.bool b, .slice A m c], u.oneCell' = true := by
  intro u hu
  simp only [List.mem_cons, List.not_mem_nil, or_false] at hu
  rcases hu with rfl | rfl <;> rfl
/-- what parsing a line of an event gives, where none stands ahead -/
def RetP1 (k n kp : Int) (l : List UInt8) (w : World) (e : Ending) (w' : World) : Prop :=
  ∃ g c A m c2, e = .returned (.tuple #[.slice (some ⟨g, 0, none⟩) 1 c, .bool true]) ∧ w'.ownsRow w.heap.size TS 6 (.slice (some ⟨g, 0, none⟩) 1 c) 1 (stC k n kp (.slice A m c2) nilE false) ∧ Bs w' A m c2 l ∧ (∀ b, A = some b → m = 0 ∨ b.block ≠ g) ∧ Below w.heap.size w w'

set_option maxHeartbeats 4000000 in
set_option maxRecDepth 100000 in
theorem parseLine1 (x : ByteArray) (k n kp : Int) (l : List UInt8) (w : World) (hx : x.size ≤ 100000000) (hm : MaxLen w) (hr : TRows w) (h1 : outD x.data.toList = none) (h2 : (x.toList == [103, 111, 110, 101]) = false) (h3 : readW (wordsN x.data.toList) = some (k, n, kp, l)) :
    Calls Tryd.prog 41 #[nilE, .string x] w (RetP1 k n kp l w) := by
  have HM := Lib.hid (fun W (hb : Below w.heap.size w W) => hm.below hb)
  have HR := Lib.hid (fun W (hb : Below w.heap.size w W) => hr.below hb)
  have H3 := Lib.hid h3
  have HX := Lib.hid hx
  have h4 : (x.toList != [103, 111, 110, 101]) = true := by rw [bne, h2]; rfl
  clear hm hr h3
  go_enter Tryd.func41, Tryd.ntmps41
  go_wp2_with (fail)
  refine (readOutput_ x w hx).mono ?_
  rw [h1]
  clear h1
  rintro e w1 (⟨_, rfl, hb1⟩ | ⟨b, l', A, m, c, hne, _⟩)
  · have HB1 := Lib.hid hb1
    clear hb1
    have HB2 : Hid (Below w.heap.size w (w1.alloc (.cells (ouC false nilE) TO))) := Lib.hid (HB1.out.alloc HB1.out.size _)
    go_wp2_with (fail)
    generalize w1.alloc (.cells (ouC false nilE) TO) = w2 at *
    generalize w1.heap.size = g1 at *
    refine (read_ x w2 HX.out (HM.out _ HB2.out) (HR.out _ HB2.out)).mono ?_
    rw [H3.out]
    rintro e w3 (⟨hne, _⟩ | ⟨k', n', kp', l', A, m, c, he, rfl, hB3, _, hb3⟩)
    · cases hne
    · injection he with he
      simp only [Prod.mk.injEq] at he
      obtain ⟨rfl, rfl, rfl, rfl⟩ := he
      have hb4 : Below w.heap.size w (w3.alloc (.cells (evC k n kp (.slice A m c)) TE)) := (HB2.out.trans (hb3.mono HB2.out.size)).alloc (Nat.le_trans HB2.out.size hb3.size) _
      have HB4 := Lib.hid hb4
      have HBS4 := Lib.hid (hB3.alloc (.cells (evC k n kp (.slice A m c)) TE))
      clear hB3 hb3 hb4 h2 HB2 HB1
      have tok1 : Hid True := Lib.hid trivial
      obtain ⟨w4, hw4⟩ : ∃ W, W = w3.alloc (.cells (evC k n kp (.slice A m c)) TE) := ⟨_, rfl⟩
      rw [← hw4] at HB4 HBS4
      have HW4 := Lib.hid hw4
      clear hw4
      go_wp2_with (at_builtin; have _t := tok1; go_loud ((rw [← HW4.out]; refine wpList_appOne rfl (.tmp 27) (.tmp 30) 39 rfl w.heap.size TS (.agg (stC 0 0 0 nilE nilE false).toArray) 6 80 Tryd.underlying39 stInfo rfl (by decide) (.slice none 0 0) 0 [] rfl (World.ownsRow_nil _ _ _ _) (stC k n kp (.slice A m c) nilE false) _ (w3.heap.size + 1) (by rw [HW4.out]; exact World.size_alloc _ _) rfl rfl (stC_one _ _ _ _ _ _ _ _ _ _) (by decide) (by decide) HB4.out.size ?_; intro g5 c5 w5 ho5 hg5 hat5 hlt5; have HO5 := Lib.hid ho5; have HG5 := Lib.hid hg5; have HA5 := Lib.hid hat5; clear tok1 _t ho5 hg5 hat5)))
      go_ret2
      have hbl : Below (w4.alloc (.cells (stC k n kp (.slice A m c) nilE false).toArray TS)).heap.size (w4.alloc (.cells (stC k n kp (.slice A m c) nilE false).toArray TS)) w5 := (Below.refl _ _).grown HG5.out (Nat.le_refl _) (fun k hk => by cases hk)
      refine ⟨g5, c5, A, m, c, rfl, HO5.out, (HBS4.out.alloc _).below hbl, fun b hb => ?_, HB4.out.alloc HB4.out.size _ |>.trans (hbl.mono (Nat.le_trans HB4.out.size (by rw [World.size_alloc]; omega)))⟩
      by_cases hm0 : m = 0
      · exact .inl hm0
      · right
        obtain ⟨b', o', e', hlt', _⟩ := HBS4.out.at_ (by omega)
        rw [hb] at e'
        injection e' with e'
        subst e'
        rcases HA5.out with h | h
        · cases h
        · rw [h]
          simp only
          omega
  · cases hne

/-- what parsing a line of an output gives, where one event without outputs stands ahead -/
def RetP2 (B g c : Nat) (k n kp : Int) (A : Option Addr) (m c2 : Nat) (b : Bool) (w : World) (e : Ending) (w' : World) : Prop :=
  ∃ gO cO, e = .returned (.tuple #[.slice (some ⟨g, 0, none⟩) 1 c, .bool true]) ∧ w'.ownsRow B TS 6 (.slice (some ⟨g, 0, none⟩) 1 c) 1 (stC k n kp (.slice A m c2) (.slice (some ⟨gO, 0, none⟩) 1 cO) false) ∧ w'.cell? ⟨gO, 0, none⟩ = some (.bool b) ∧ w.grownBy w' (some g)

set_option maxHeartbeats 4000000 in
set_option maxRecDepth 100000 in
theorem parseLine2 (x : ByteArray) (B g c : Nat) (k n kp : Int) (A : Option Addr) (m c2 : Nat) (b : Bool) (l : List UInt8) (w : World) (hx : x.size ≤ 100000000) (h1 : outD x.data.toList = some (b, l)) (ho : w.ownsRow B TS 6 (.slice (some ⟨g, 0, none⟩) 1 c) 1 (stC k n kp (.slice A m c2) nilE false)) :
    Calls Tryd.prog 41 #[.slice (some ⟨g, 0, none⟩) 1 c, .string x] w (RetP2 B g c k n kp A m c2 b w) := by
  have HO := Lib.hid ho
  clear ho
  go_enter Tryd.func41, Tryd.ntmps41
  go_wp2_with (fail)
  refine (readOutput_ x w hx).mono ?_
  rw [h1]
  clear h1
  rintro e w1 (⟨hne, _⟩ | ⟨b', l', A5, m5, c5, he, rfl, hB5, _, hb1⟩)
  · cases hne
  · injection he with he
    simp only [Prod.mk.injEq] at he
    obtain ⟨rfl, rfl⟩ := he
    have ho1 := row_below HO.out hb1
    have c5' := ho1.cellAt 5 (by decide)
    have c4' := ho1.cellAt 4 (by decide)
    have f4' := ho1.frozenAt 4
    have q5 : ∀ o, (w1.alloc o).cell? ⟨g, 5, none⟩ = some (.bool false) := fun o => ((ho1.alloc o).cellAt 5 (by decide))
    have q4 : ∀ o, (w1.alloc o).cell? ⟨g, 4, none⟩ = some nilE := fun o => ((ho1.alloc o).cellAt 4 (by decide))
    have p4 : ∀ o, (w1.alloc o).frozen? ⟨g, 4, none⟩ = false := fun o => (ho1.alloc o).frozenAt 4
    have hg := ((World.ownsRow.lt HO.out g rfl).2)
    have hg1 : g < w1.heap.size := Nat.lt_of_lt_of_le hg hb1.size
    clear c5' c4' f4'
    have HO1 := Lib.hid ho1
    have HC : Hid (((w1.alloc (.cells (ouC b (.slice A5 m5 c5)) TO)).alloc (.cells (ouC b (.slice A5 m5 c5)) TO)).heap[w1.heap.size + 1]? = some (.cells [Value.bool b, .slice A5 m5 c5].toArray TO)) := Lib.hid (by
      have h := heap_alloc_new (w1.alloc (.cells (ouC b (.slice A5 m5 c5)) TO)) (.cells (ouC b (.slice A5 m5 c5)) TO)
      rwa [World.size_alloc] at h)
    have HBB := Lib.hid hb1.size
    have HG1 := Lib.hid hg1
    have HOB := Lib.hid (World.ownsRow.lt HO.out g rfl).1
    have HG0 := Lib.hid hb1
    have tok1 : Hid True := Lib.hid trivial
    clear ho1 hb1
    go_wp2_with (fail)
    have HSZ : Hid (w1.heap.size ≤ ((w1.alloc (.cells (ouC b (.slice A5 m5 c5)) TO)).alloc (.cells (ouC b (.slice A5 m5 c5)) TO)).drew.heap.size) := Lib.hid (Nat.le_trans (by rw [World.size_alloc]; omega) (((Below.refl _ (w1.alloc (.cells (ouC b (.slice A5 m5 c5)) TO))).alloc (Nat.le_refl _) (.cells (ouC b (.slice A5 m5 c5)) TO)).size))
    have HW1 : Hid (((w1.alloc (.cells (ouC b (.slice A5 m5 c5)) TO)).alloc (.cells (ouC b (.slice A5 m5 c5)) TO)).drew.ownsRow B TS 6 (.slice (some ⟨g, 0, none⟩) 1 c) 1 (stC k n kp (.slice A m c2) nilE false)) := Lib.hid ((HO1.out.alloc _).alloc _)
    have HBL : Hid (Below w.heap.size w ((w1.alloc (.cells (ouC b (.slice A5 m5 c5)) TO)).alloc (.cells (ouC b (.slice A5 m5 c5)) TO)).drew) := Lib.hid ((HG0.out.alloc HG0.out.size _).alloc (Nat.le_trans HG0.out.size (by rw [World.size_alloc]; omega)) _).drew
    go_region_law (first | (have _t := tok1; refine step_appOne rfl (.tmp 57) (.tmp 59) 36 rfl w1.heap.size TO (ouV false nilE) 2 32 Tryd.underlying36 ouInfo rfl (by decide) nilE 0 [] rfl (World.ownsRow_nil _ _ _ _) [.bool b, .slice A5 m5 c5] _ (w1.heap.size + 1) HC.out rfl rfl (ouC_one _ _ _ _) (by decide) (by decide) HSZ.out ?_; intro gO cO w5 ho5 hg5 hat5 hlt5; have HO5 := Lib.hid ho5; have hbl := (Below.refl _ _).grown hg5 (Nat.le_refl _) (fun k hk => by cases hk); have HW5 := Lib.hid (row_below HW1.out hbl); have HB5' := Lib.hid (HBL.out.trans (hbl.mono HBL.out.size)); have s4 : w5.cell? ⟨g, 4, none⟩ = some nilE := HW5.out.cellAt 4 (by decide); have t4 := HW5.out.frozenAt 4; have HAT := Lib.hid hat5; clear tok1 _t ho5 hg5 hat5 hbl))
    all_goals
      have hne : gO ≠ g := by
        rcases HAT.out with h | h
        · cases h
        · have h3 : w1.heap.size ≤ gO := by rw [h]; exact HSZ.out
          have := HG1.out
          omega
      have hce : (w5.setCell ⟨g, 4, none⟩ (.slice (some ⟨gO, 0, none⟩) 1 cO)).cell? ⟨gO, 0, none⟩ = some (.bool b) := (cell_set_other hne _).trans (HO5.out.cellAt 0 (by decide))
      have HCE := Lib.hid hce
      have HST := Lib.hid (HW5.out.stored 4 (.slice (some ⟨gO, 0, none⟩) 1 cO))
      have hgb : w.grownBy (w5.setCell ⟨g, 4, none⟩ (.slice (some ⟨gO, 0, none⟩) 1 cO)) (some g) := ⟨HB5'.out.os, HB5'.out.tape, HB5'.out.output, Nat.le_trans HB5'.out.size (by simp [World.setCell]), fun j hj hn => (heap_set_other (fun e => hn (by rw [e])) _).trans (HB5'.out.block j hj)⟩
      have HGB := Lib.hid hgb
      clear hne hce hgb
      go_wp2_with (fail)
      go_ret2
      exact ⟨gO, cO, rfl, HST.out.1, HCE.out, HGB.out⟩
end Go.Proofs.YtnoppnnpennddaaDoor
