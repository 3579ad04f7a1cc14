/- Layer 2: Sync, walked. -/
import Derived.Test.YtolomfdommnklaaDk3
import Derived.Conc.MuLone
namespace Go.Proofs.Ytolomfdommnklaa
open Go.RowKit Go.MapKept

section
variable {w : World} {B D M : Nat} {d : Dk} {F : List Ent}
/-- a file that is synced, or that fails to be -/
def syncErr (failed : Bool) : Int := if failed then 5 else 0
def syncFl (failed : Bool) (f : Fl) : Fl := if failed then f else ⟨f.bs, f.bs.length⟩
theorem DkAt.safe {P Q : List Ent} {nm : ByteArray} {g : Nat} {v : Value} {f : Fl} (h : DkAt w B D M d (P ++ ⟨nm, g, v, f⟩ :: Q)) (n : Nat) :
    DkAt (w.setCell ⟨g, 1, none⟩ (.int .i64 (n : Int))) B D M d (P ++ ⟨nm, g, v, ⟨f.bs, n⟩⟩ :: Q) ∧ DkCh D M (P ++ ⟨nm, g, v, f⟩ :: Q) (P ++ ⟨nm, g, v, ⟨f.bs, n⟩⟩ :: Q) w (w.setCell ⟨g, 1, none⟩ (.int .i64 (n : Int))) := by
  have he := h.files ⟨nm, g, v, f⟩ (by simp)
  exact h.file ((Ch.refl _ w).set (a := ⟨g, 1, none⟩) (.inl rfl) _) v ⟨f.bs, n⟩ (heap_set_row he.row _) (he.own.ch ((Ch.refl (fun k => k = g) w).set (a := ⟨g, 1, none⟩) rfl _) (fun k hk hs => (own_ne he.own he.row (by decide)) (by rw [hk, hs]))) (fun k hk => .inl hk)
theorem Dk.Ok.syncs {d : Dk} (ok : d.Ok) : d.syncs.Ok := ⟨ok.room, ok.used, ok.ops, by
  have := ok.failIn
  unfold Dk.syncs
  simp only
  by_cases h : d.failIn = 0
  · rw [if_pos h]; omega
  · rw [if_neg h]; omega, ok.armedIn, ok.armKeep⟩
theorem okSync1 : FnOk 83 := fun args w => Go.MuLone.run_callFunc_enter Try.func83 (by kernel_rfl) rfl args w

set_option maxHeartbeats 1000000 in
set_option maxRecDepth 100000 in
theorem dkSync_none (h : DkAt w B D M d F) (nm : ByteArray) (hn : ∀ e ∈ F, e.nm ≠ nm) : Calls Try.prog 64 #[pD D, .string nm] w fun e w' => e = .returned (.int .i64 6) ∧ Below w.heap.size w w' := by
  have c0' : w.cell? ⟨D, 0, none⟩ = some (.map (some M)) := h.cell 0
  have hz : (zeroValue 91).run Try.prog w = .ok (.pointer none) w := by kernel_rfl
  have HNO := Lib.hid (aget_none hn)
  have H := Lib.hid h
  have tok1 : Hid True := Lib.hid trivial
  clear h hn
  go_enter Try.func64, Try.ntmps64
  go_wp2_with (first | (at_lookup; have _t := tok1; refine wpList_lookupL rfl kS (.tmp 12) (.tmp 13) 78 91 false rfl Try.underlying78 M (mapL F) rfl H.out.map nm rfl (.pointer none) hz ?_; rw [HNO.out]; simp only [Option.getD_none, Bool.false_eq_true, if_false]; clear tok1 _t))
  go_ret
  exact ⟨rfl, (Below.refl _ _).alloc (Nat.le_refl _) _⟩
/-- what Sync's closure does -/
theorem dkSync1 {P Q : List Ent} {nm : ByteArray} {g : Nat} {v : Value} {f : Fl} (h : DkAt w B D M d (P ++ ⟨nm, g, v, f⟩ :: Q)) (X Y : Nat) (b : Bool) (hx : w.cell? ⟨X, 0, none⟩ = some (.bool b)) (hy : w.cell? ⟨Y, 0, none⟩ = some (pf g)) :
    Calls Try.prog 83 #[.pointer (some ⟨X, 0, none⟩), .pointer (some ⟨Y, 0, none⟩)] w fun e w' => e = .returned (.tuple #[]) ∧ DkAt w' B D M d (P ++ ⟨nm, g, v, syncFl b f⟩ :: Q) ∧ DkCh D M (P ++ ⟨nm, g, v, f⟩ :: Q) (P ++ ⟨nm, g, v, syncFl b f⟩ :: Q) w w' := by
  have HFA := Lib.hid (h.files ⟨nm, g, v, f⟩ (by simp))
  have H := Lib.hid h
  obtain ⟨A0, c0, hv⟩ := own_form (show w.ownsRow B 5 1 v f.bs.length (u8s f.bs) from HFA.out.own)
  subst hv
  have y0 : w.cell? ⟨g, 0, none⟩ = some (.slice A0 f.bs.length c0) := HFA.out.cell 0
  have y1 : w.cell? ⟨g, 1, none⟩ = some (.int .i64 f.safe) := HFA.out.cell 1
  have f1 : w.frozen? ⟨g, 1, none⟩ = false := HFA.out.frozen 1
  clear h
  cases b
  · go_enter Try.func83, Try.ntmps83
    go_wp2_with (fail)
    go_region
    all_goals
      go_end0
      have hs := H.out.safe f.bs.length
      exact ⟨rfl, hs.1.below (Below.refl _ _).drew, hs.2.trans (DkCh.of_below (Below.refl _ _).drew)⟩
  · go_enter Try.func83, Try.ntmps83
    go_wp2_with (fail)
    go_end0
    exact ⟨rfl, H.out, DkCh.refl _ _ _ _⟩
set_option maxHeartbeats 1000000 in
set_option maxRecDepth 100000 in
theorem dkSync_go {P Q : List Ent} {nm : ByteArray} {g : Nat} {v : Value} {f : Fl} (h : DkAt w B D M d (P ++ ⟨nm, g, v, f⟩ :: Q)) (ok : d.Ok) (ha : d.armedIn ≠ 1) (hfi : ∀ x ∈ P, x.nm ≠ nm) : Calls Try.prog 64 #[pD D, .string nm] w fun e w' => e = .returned (.int .i64 (syncErr (d.failIn == 1))) ∧ DkAt w' B D M d.syncs.begin (P ++ ⟨nm, g, v, syncFl (d.failIn == 1) f⟩ :: Q) ∧ DkCh D M (P ++ ⟨nm, g, v, f⟩ :: Q) (P ++ ⟨nm, g, v, syncFl (d.failIn == 1) f⟩ :: Q) w w' := by
  have c0' : w.cell? ⟨D, 0, none⟩ = some (.map (some M)) := h.cell 0
  have hz : (zeroValue 91).run Try.prog w = .ok (.pointer none) w := by kernel_rfl
  have hmf : ∀ (fn : Fn) (first cap : Array Value) (w : World), (Instr.makeFunc fn first cap).run Try.prog w = .ok (.func fn first cap) w := fun _ _ _ _ => rfl
  have HYES : Hid (aget (mapL (P ++ ⟨nm, g, v, f⟩ :: Q)) nm = some (pf g)) := Lib.hid (aget_at (e := ⟨nm, g, v, f⟩) hfi)
  have H := Lib.hid h
  have OK := Lib.hid ok
  have HA := Lib.hid ha
  have tok1 : Hid True := Lib.hid trivial
  have HB1 : Hid (Below w.heap.size w (w.alloc (.cells #[pf g] 91))) := Lib.hid ((Below.refl _ _).alloc (Nat.le_refl _) _)
  have H1 := Lib.hid (h.below HB1.out)
  have HY1 : Hid ((w.alloc (.cells #[pf g] 91)).heap[w.heap.size]? = some (.cells #[pf g] 91)) := Lib.hid (heap_alloc_new w _)
  have HCH1 : Hid (DkCh D M (P ++ ⟨nm, g, v, f⟩ :: Q) (P ++ ⟨nm, g, v, f⟩ :: Q) w (w.alloc (.cells #[pf g] 91))) := Lib.hid (DkCh.of_below HB1.out)
  have HYD : Hid (D < w.heap.size) := Lib.hid h.lt
  clear h hfi ok ha
  go_enter Try.func64, Try.ntmps64
  go_wp2_with (first | (at_lookup; have _t := tok1; refine wpList_lookupL rfl kS (.tmp 12) (.tmp 13) 78 91 false rfl Try.underlying78 M (mapL (P ++ ⟨nm, g, v, f⟩ :: Q)) rfl H.out.map nm rfl (.pointer none) hz ?_; rw [HYES.out]; simp only [Option.getD_some, Bool.false_eq_true, if_false]; clear tok1 _t))
  refine (dkSyncFails H1.out OK.out).mono ?_
  rintro e w2 ⟨rfl, h2, hc2⟩
  have HY2 := Lib.hid (hc2.row HY1.out (by have := HYD.out; simp only [At1]; omega))
  have HCH2 := Lib.hid (HCH1.out.trans (DkCh.of1 hc2))
  have hb3 : Below w2.heap.size w2 (w2.alloc (.cells #[.bool (d.failIn == 1)] 4)) := (Below.refl _ _).alloc (Nat.le_refl _) _
  have H3 := Lib.hid (h2.below hb3)
  have HY3 : Hid ((w2.alloc (.cells #[.bool (d.failIn == 1)] 4)).heap[w.heap.size]? = some (.cells #[pf g] 91)) := Lib.hid ((hb3.block _ (Array.getElem?_eq_some_iff.1 HY2.out).1).trans HY2.out)
  have HX3 : Hid ((w2.alloc (.cells #[.bool (d.failIn == 1)] 4)).heap[w2.heap.size]? = some (.cells #[.bool (d.failIn == 1)] 4)) := Lib.hid (heap_alloc_new w2 _)
  have HCH3 := Lib.hid (HCH2.out.trans (DkCh.of_below (F := P ++ ⟨nm, g, v, f⟩ :: Q) (D := D) (M := M) hb3))
  have HZ : Hid (D < w2.heap.size ∧ w.heap.size < w2.heap.size) := Lib.hid ⟨h2.lt, (Array.getElem?_eq_some_iff.1 HY2.out).1⟩
  have OK3 : Hid d.syncs.Ok := Lib.hid OK.out.syncs
  have HCL : Hid (∀ k, Foot (P ++ ⟨nm, g, v, f⟩ :: Q) k → k < w2.heap.size) := Lib.hid (fun k hk => (h2.foot_lt (.inr (.inr hk))).2)
  clear h2 hc2 hb3
  go_wp2_with (fail)
  generalize (w2.alloc (.cells #[.bool (d.failIn == 1)] 4)) = w3 at *
  have hy5 : ∀ {w4 : World} (w5 : World), Ch (At1 D) w3 w4 → DkCh D M (P ++ ⟨nm, g, v, f⟩ :: Q) (P ++ ⟨nm, g, v, syncFl (d.failIn == 1) f⟩ :: Q) w4 w5 → w5.heap[w2.heap.size]? = some (.cells #[.bool (d.failIn == 1)] 4) := fun w5 hc4 hc5 => hc5.ch.row (hc4.row HX3.out (by have := HZ.out; simp only [At1]; omega)) (fun hs => by
    have hlt := H3.out
    rcases hs with hs | hs | hs
    · have := HZ.out; omega
    · exact (H3.out.map.ne HX3.out) hs.symm
    · have hcl := HCL.out _ hs
      omega)
  refine (dkChange_go H3.out OK3.out (show d.syncs.armedIn ≠ 1 from HA.out) _ _ okSync1 (fun w' => DkAt w' B D M d.syncs.begin (P ++ ⟨nm, g, v, syncFl (d.failIn == 1) f⟩ :: Q) ∧ w'.heap[w2.heap.size]? = some (.cells #[.bool (d.failIn == 1)] 4) ∧ DkCh D M (P ++ ⟨nm, g, v, f⟩ :: Q) (P ++ ⟨nm, g, v, syncFl (d.failIn == 1) f⟩ :: Q) w w') (fun w4 h4 hc4 => by
    have hx : w4.cell? ⟨w2.heap.size, 0, none⟩ = some (.bool (d.failIn == 1)) := cell_of_row _ _ 0 _ _ _ (hc4.row HX3.out (by have := HZ.out; simp only [At1]; omega))
    have hy : w4.cell? ⟨w.heap.size, 0, none⟩ = some (pf g) := cell_of_row _ _ 0 _ _ _ (hc4.row HY3.out (by have := HYD.out; simp only [At1]; omega))
    refine (dkSync1 h4 _ _ _ hx hy).mono ?_
    rintro e w5 ⟨rfl, h5, hc5⟩
    exact ⟨rfl, h5, (hy5 w5 hc4 hc5), HCH3.out.trans ((DkCh.of1 hc4).trans hc5)⟩)).mono ?_
  rintro e w6 ⟨rfl, h6, hb6, hc6⟩
  have c6 : w6.cell? ⟨w2.heap.size, 0, none⟩ = some (.bool (d.failIn == 1)) := cell_of_row _ _ 0 _ _ _ hb6
  have HR := Lib.hid (And.intro h6 hc6)
  clear h6 hb6 hc6 hy5
  cases hf1 : (d.failIn == 1)
  · rw [hf1] at c6
    have HF1 := Lib.hid hf1
    clear hf1
    go_wp2_with (fail)
    go_ret
    exact ⟨by rw [HF1.out]; rfl, HR.out⟩
  · rw [hf1] at c6
    have HF1 := Lib.hid hf1
    clear hf1
    go_wp2_with (fail)
    go_ret
    exact ⟨by rw [HF1.out]; rfl, HR.out⟩
set_option maxHeartbeats 1000000 in
set_option maxRecDepth 100000 in
theorem dkSync_odd {P Q : List Ent} {nm : ByteArray} {g : Nat} {v : Value} {f : Fl} (h : DkAt w B D M d (P ++ ⟨nm, g, v, f⟩ :: Q)) (ok : d.Ok) (ha : d.armedIn = 1) (ho : dOdd d = true) (hfi : ∀ x ∈ P, x.nm ≠ nm) : Calls Try.prog 64 #[pD D, .string nm] w fun e w' => e = .panicked [{ v := crashI (d.ops + 1), recovered := false }] ∧ DkAt w' B D M d.syncs.begin (P ++ ⟨nm, g, v, syncFl (d.failIn == 1) f⟩ :: Q) ∧ DkCh D M (P ++ ⟨nm, g, v, f⟩ :: Q) (P ++ ⟨nm, g, v, syncFl (d.failIn == 1) f⟩ :: Q) w w' := by
  have c0' : w.cell? ⟨D, 0, none⟩ = some (.map (some M)) := h.cell 0
  have hz : (zeroValue 91).run Try.prog w = .ok (.pointer none) w := by kernel_rfl
  have hmf : ∀ (fn : Fn) (first cap : Array Value) (w : World), (Instr.makeFunc fn first cap).run Try.prog w = .ok (.func fn first cap) w := fun _ _ _ _ => rfl
  have HYES : Hid (aget (mapL (P ++ ⟨nm, g, v, f⟩ :: Q)) nm = some (pf g)) := Lib.hid (aget_at (e := ⟨nm, g, v, f⟩) hfi)
  have H := Lib.hid h
  have OK := Lib.hid ok
  have HA := Lib.hid ha
  have HO := Lib.hid ho
  have tok1 : Hid True := Lib.hid trivial
  have HB1 : Hid (Below w.heap.size w (w.alloc (.cells #[pf g] 91))) := Lib.hid ((Below.refl _ _).alloc (Nat.le_refl _) _)
  have H1 := Lib.hid (h.below HB1.out)
  have HY1 : Hid ((w.alloc (.cells #[pf g] 91)).heap[w.heap.size]? = some (.cells #[pf g] 91)) := Lib.hid (heap_alloc_new w _)
  have HCH1 : Hid (DkCh D M (P ++ ⟨nm, g, v, f⟩ :: Q) (P ++ ⟨nm, g, v, f⟩ :: Q) w (w.alloc (.cells #[pf g] 91))) := Lib.hid (DkCh.of_below HB1.out)
  have HYD : Hid (D < w.heap.size) := Lib.hid h.lt
  clear h hfi ok ha ho
  go_enter Try.func64, Try.ntmps64
  go_wp2_with (first | (at_lookup; have _t := tok1; refine wpList_lookupL rfl kS (.tmp 12) (.tmp 13) 78 91 false rfl Try.underlying78 M (mapL (P ++ ⟨nm, g, v, f⟩ :: Q)) rfl H.out.map nm rfl (.pointer none) hz ?_; rw [HYES.out]; simp only [Option.getD_some, Bool.false_eq_true, if_false]; clear tok1 _t))
  refine (dkSyncFails H1.out OK.out).mono ?_
  rintro e w2 ⟨rfl, h2, hc2⟩
  have HY2 := Lib.hid (hc2.row HY1.out (by have := HYD.out; simp only [At1]; omega))
  have HCH2 := Lib.hid (HCH1.out.trans (DkCh.of1 hc2))
  have hb3 : Below w2.heap.size w2 (w2.alloc (.cells #[.bool (d.failIn == 1)] 4)) := (Below.refl _ _).alloc (Nat.le_refl _) _
  have H3 := Lib.hid (h2.below hb3)
  have HY3 : Hid ((w2.alloc (.cells #[.bool (d.failIn == 1)] 4)).heap[w.heap.size]? = some (.cells #[pf g] 91)) := Lib.hid ((hb3.block _ (Array.getElem?_eq_some_iff.1 HY2.out).1).trans HY2.out)
  have HX3 : Hid ((w2.alloc (.cells #[.bool (d.failIn == 1)] 4)).heap[w2.heap.size]? = some (.cells #[.bool (d.failIn == 1)] 4)) := Lib.hid (heap_alloc_new w2 _)
  have HCH3 := Lib.hid (HCH2.out.trans (DkCh.of_below (F := P ++ ⟨nm, g, v, f⟩ :: Q) (D := D) (M := M) hb3))
  have HZ : Hid (D < w2.heap.size ∧ w.heap.size < w2.heap.size) := Lib.hid ⟨h2.lt, (Array.getElem?_eq_some_iff.1 HY2.out).1⟩
  have OK3 : Hid d.syncs.Ok := Lib.hid OK.out.syncs
  have HCL : Hid (∀ k, Foot (P ++ ⟨nm, g, v, f⟩ :: Q) k → k < w2.heap.size) := Lib.hid (fun k hk => (h2.foot_lt (.inr (.inr hk))).2)
  clear h2 hc2 hb3
  go_wp2_with (fail)
  generalize (w2.alloc (.cells #[.bool (d.failIn == 1)] 4)) = w3 at *
  have hy5 : ∀ {w4 : World} (w5 : World), Ch (At1 D) w3 w4 → DkCh D M (P ++ ⟨nm, g, v, f⟩ :: Q) (P ++ ⟨nm, g, v, syncFl (d.failIn == 1) f⟩ :: Q) w4 w5 → w5.heap[w2.heap.size]? = some (.cells #[.bool (d.failIn == 1)] 4) := fun w5 hc4 hc5 => hc5.ch.row (hc4.row HX3.out (by have := HZ.out; simp only [At1]; omega)) (fun hs => by
    have hlt := H3.out
    rcases hs with hs | hs | hs
    · have := HZ.out; omega
    · exact (H3.out.map.ne HX3.out) hs.symm
    · have hcl := HCL.out _ hs
      omega)
  refine (dkChange_odd H3.out OK3.out (show d.syncs.armedIn = 1 from HA.out) (show dOdd d.syncs = true from HO.out) _ _ okSync1 (fun w' => DkAt w' B D M d.syncs.begin (P ++ ⟨nm, g, v, syncFl (d.failIn == 1) f⟩ :: Q) ∧ w'.heap[w2.heap.size]? = some (.cells #[.bool (d.failIn == 1)] 4) ∧ DkCh D M (P ++ ⟨nm, g, v, f⟩ :: Q) (P ++ ⟨nm, g, v, syncFl (d.failIn == 1) f⟩ :: Q) w w') (fun w4 h4 hc4 => by
    have hx : w4.cell? ⟨w2.heap.size, 0, none⟩ = some (.bool (d.failIn == 1)) := cell_of_row _ _ 0 _ _ _ (hc4.row HX3.out (by have := HZ.out; simp only [At1]; omega))
    have hy : w4.cell? ⟨w.heap.size, 0, none⟩ = some (pf g) := cell_of_row _ _ 0 _ _ _ (hc4.row HY3.out (by have := HYD.out; simp only [At1]; omega))
    refine (dkSync1 h4 _ _ _ hx hy).mono ?_
    rintro e w5 ⟨rfl, h5, hc5⟩
    exact ⟨rfl, h5, (hy5 w5 hc4 hc5), HCH3.out.trans ((DkCh.of1 hc4).trans hc5)⟩) (fun w6 h6 => h6.1.cell 3)).mono ?_
  rintro e w6 ⟨rfl, h6, _, hc6⟩
  have HR := Lib.hid (And.intro h6 hc6)
  clear h6 hc6 hy5
  go_wp2_with (fail)
  exact ⟨rfl, rfl, HR.out⟩
set_option maxHeartbeats 1000000 in
set_option maxRecDepth 100000 in
theorem dkSync_even {P Q : List Ent} {nm : ByteArray} {g : Nat} {v : Value} {f : Fl} (h : DkAt w B D M d (P ++ ⟨nm, g, v, f⟩ :: Q)) (ok : d.Ok) (ha : d.armedIn = 1) (ho : dOdd d = false) (hfi : ∀ x ∈ P, x.nm ≠ nm) : Calls Try.prog 64 #[pD D, .string nm] w fun e w' => e = .panicked [{ v := crashI (d.ops + 1), recovered := false }] ∧ DkAt w' B D M d.syncs.begin (P ++ ⟨nm, g, v, f⟩ :: Q) ∧ DkCh D M (P ++ ⟨nm, g, v, f⟩ :: Q) (P ++ ⟨nm, g, v, f⟩ :: Q) w w' := by
  have c0' : w.cell? ⟨D, 0, none⟩ = some (.map (some M)) := h.cell 0
  have hz : (zeroValue 91).run Try.prog w = .ok (.pointer none) w := by kernel_rfl
  have hmf : ∀ (fn : Fn) (first cap : Array Value) (w : World), (Instr.makeFunc fn first cap).run Try.prog w = .ok (.func fn first cap) w := fun _ _ _ _ => rfl
  have HYES : Hid (aget (mapL (P ++ ⟨nm, g, v, f⟩ :: Q)) nm = some (pf g)) := Lib.hid (aget_at (e := ⟨nm, g, v, f⟩) hfi)
  have H := Lib.hid h
  have OK := Lib.hid ok
  have HA := Lib.hid ha
  have HO := Lib.hid ho
  have tok1 : Hid True := Lib.hid trivial
  have HB1 : Hid (Below w.heap.size w (w.alloc (.cells #[pf g] 91))) := Lib.hid ((Below.refl _ _).alloc (Nat.le_refl _) _)
  have H1 := Lib.hid (h.below HB1.out)
  have HY1 : Hid ((w.alloc (.cells #[pf g] 91)).heap[w.heap.size]? = some (.cells #[pf g] 91)) := Lib.hid (heap_alloc_new w _)
  have HCH1 : Hid (DkCh D M (P ++ ⟨nm, g, v, f⟩ :: Q) (P ++ ⟨nm, g, v, f⟩ :: Q) w (w.alloc (.cells #[pf g] 91))) := Lib.hid (DkCh.of_below HB1.out)
  have HYD : Hid (D < w.heap.size) := Lib.hid h.lt
  clear h hfi ok ha ho
  go_enter Try.func64, Try.ntmps64
  go_wp2_with (first | (at_lookup; have _t := tok1; refine wpList_lookupL rfl kS (.tmp 12) (.tmp 13) 78 91 false rfl Try.underlying78 M (mapL (P ++ ⟨nm, g, v, f⟩ :: Q)) rfl H.out.map nm rfl (.pointer none) hz ?_; rw [HYES.out]; simp only [Option.getD_some, Bool.false_eq_true, if_false]; clear tok1 _t))
  refine (dkSyncFails H1.out OK.out).mono ?_
  rintro e w2 ⟨rfl, h2, hc2⟩
  have HY2 := Lib.hid (hc2.row HY1.out (by have := HYD.out; simp only [At1]; omega))
  have HCH2 := Lib.hid (HCH1.out.trans (DkCh.of1 hc2))
  have hb3 : Below w2.heap.size w2 (w2.alloc (.cells #[.bool (d.failIn == 1)] 4)) := (Below.refl _ _).alloc (Nat.le_refl _) _
  have H3 := Lib.hid (h2.below hb3)
  have HY3 : Hid ((w2.alloc (.cells #[.bool (d.failIn == 1)] 4)).heap[w.heap.size]? = some (.cells #[pf g] 91)) := Lib.hid ((hb3.block _ (Array.getElem?_eq_some_iff.1 HY2.out).1).trans HY2.out)
  have HX3 : Hid ((w2.alloc (.cells #[.bool (d.failIn == 1)] 4)).heap[w2.heap.size]? = some (.cells #[.bool (d.failIn == 1)] 4)) := Lib.hid (heap_alloc_new w2 _)
  have HCH3 := Lib.hid (HCH2.out.trans (DkCh.of_below (F := P ++ ⟨nm, g, v, f⟩ :: Q) (D := D) (M := M) hb3))
  have HZ : Hid (D < w2.heap.size ∧ w.heap.size < w2.heap.size) := Lib.hid ⟨h2.lt, (Array.getElem?_eq_some_iff.1 HY2.out).1⟩
  have OK3 : Hid d.syncs.Ok := Lib.hid OK.out.syncs
  have HCL : Hid (∀ k, Foot (P ++ ⟨nm, g, v, f⟩ :: Q) k → k < w2.heap.size) := Lib.hid (fun k hk => (h2.foot_lt (.inr (.inr hk))).2)
  clear h2 hc2 hb3
  go_wp2_with (fail)
  generalize (w2.alloc (.cells #[.bool (d.failIn == 1)] 4)) = w3 at *
  refine (dkChange_even H3.out OK3.out (show d.syncs.armedIn = 1 from HA.out) (show dOdd d.syncs = false from HO.out) _ _).mono ?_
  rintro e w6 ⟨rfl, h6, hc6⟩
  have HR := Lib.hid (And.intro h6 (HCH3.out.trans (DkCh.of1 hc6)))
  clear h6 hc6
  go_wp2_with (fail)
  exact ⟨rfl, rfl, HR.out⟩
end
end Go.Proofs.Ytolomfdommnklaa
