/- Layer 2: the law's call of any change, walked. -/
import Derived.Test.YtecmadodpkfnnaaDk14
import Derived.Test.YtecmadodpkfnnaaDk10
namespace Go.Proofs.Ytecmadodpkfnnaa
open Go.RowKit Go.MapKept

/-- how the law's call ends -/
def retO : Int × (Int ⊕ Int) → Ending
  | (n, .inl x) => retC n x false 0
  | (_, .inr op) => retC 0 0 true op
abbrev OutN := (Int × (Int ⊕ Int)) × Dk × Fs
def CEnds (B D M : Nat) (F : List Ent) (w : World) (r : OutN) (e : Ending) (w' : World) : Prop :=
  ∃ F', e = retO r.1 ∧ DkAt w' B D M r.2.1 F' ∧ DkCh D M F F' w w' ∧ fsOf F' = r.2.2
section
variable {w : World} {B D M : Nat} {d : Dk} {F : List Ent}
set_option maxHeartbeats 4000000 in
set_option maxRecDepth 100000 in
theorem callTrunc_ret (h : DkAt w B D M d F) (x : Int) (d' : Dk) (fs' : Fs) (n k : Int) (a b : ByteArray) (A : Option Addr) (m c : Nat)
    (hm : ∀ w1, DkAt w1 B D M d F → Calls Try.prog 43 #[pD D, .string a, .int .i64 n] w1 (MEnds B D M F w1 (.inl x, d', fs'))) :
    Calls Try.prog 23 #[pD D, actV 1 n k a b A m c] w (CEnds B D M F w ((0, .inl x), d', fs')) := by
  have hmf : ∀ (fn : Fn) (first cap : Array Value) (w : World), (Instr.makeFunc fn first cap).run Try.prog w = .ok (.func fn first cap) w := fun _ _ _ _ => rfl
  obtain ⟨hb0, hr0, hx0⟩ := callW_facts w 1 n k a b A m c
  have H0 := Lib.hid (h.below hb0)
  have HB0 := Lib.hid hb0
  have HX0 := Lib.hid hx0
  have HFT : Hid (∀ k, DFoot D M F k → k < w.heap.size + 1) := Lib.hid (fun k hk => by have := (h.foot_lt hk).2; omega)
  have HM := Lib.hid hm
  clear hm
  clear h hb0 hr0 hx0
  go_enter_defers Try.func23, Try.ntmps23
  go_wp2_with (fail)
  show Calls _ _ _ (callW w 1 n k a b A m c) _
  have HSZ0 : Hid (w.heap.size + 5 ≤ (callW w 1 n k a b A m c).heap.size) := Lib.hid (by have := (Array.getElem?_eq_some_iff.1 HX0.out.o_).1; omega)
  generalize callW w 1 n k a b A m c = w1 at *
  refine (HM.out w1 H0.out).mono ?_
  rintro e w2 ⟨F2, he, h2, hc2, hf2⟩
  obtain rfl : e = .returned (.int .i64 x) := he
  have HX2 := Lib.hid (HX0.out.same hc2.ch (fun k h1 h2 hs => by have := HFT.out k hs; omega))
  have H2 := Lib.hid h2
  have HC2 := Lib.hid hc2
  have HF2 := Lib.hid hf2
  obtain ⟨⟨x0, x1, x2, x3⟩, y0, y1, y2, y3⟩ := HX2.out.cells
  clear h2 hc2 hf2
  have HX3 := Lib.hid (HX2.out.setE x)
  have HX4 := Lib.hid (HX3.out.set4 0 x 0 false)
  have HC4 : Hid (Ch (BxS (w.heap.size + 1)) w2 _) := Lib.hid ((((Ch.refl (BxS (w.heap.size + 1)) w2).set (a := ⟨w.heap.size + 1 + 1, 0, none⟩) (by simp only [BxS]; omega) (.int .i64 x)).trans HX4.out.2 (fun _ _ h => h)))
  go_wp2_with (fail)
  have HX3w := Lib.hid (HX3.out.cells)
  generalize hw3 : w2.setCell ⟨w.heap.size + 1 + 1, 0, none⟩ (.int .i64 x) = w3 at *
  clear x0 x1 x2 x3 y0 y1 y2 y3 hw3
  obtain ⟨⟨x0, x1, x2, x3⟩, y0, y1, y2, y3⟩ := HX3w.out
  have q1 : w.heap.size + 1 ≠ w.heap.size + 1 + 1 := by omega
  have q2 : w.heap.size + 1 ≠ w.heap.size + 1 + 1 + 1 := by omega
  go_region
  all_goals
    generalize (((((w3.setCell ⟨w.heap.size + 1, 0, none⟩ (.int .i64 0)).setCell ⟨w.heap.size + 1 + 1, 0, none⟩ (.int .i64 x)).setCell ⟨w.heap.size + 1 + 1 + 1, 0, none⟩ (.bool false)).setCell ⟨w.heap.size + 1 + 1 + 1 + 1, 0, none⟩ (.int .i64 0)).drew) = w4 at *
    have HR : Hid (CEnds B D M F w ((0, .inl x), d', fs') (retC 0 x false 0) w4) := Lib.hid ⟨F2, rfl, DkCh.boxes HC2.out (fun k hk => HFT.out k hk) (by have := HSZ0.out; omega) H2.out HC4.out, ((DkCh.of_below HB0.out).trans HC2.out).later HC4.out (fun k hk => by have := hk.1; omega), HF2.out⟩
    clear x0 x1 x2 x3 y0 y1 y2 y3 q1 q2
    go_wp2_with (fail)
    refine leaves_cons (f := 42) (args := bx (w.heap.size + 1)) (by simp) (by simp [go_sem]) ?_
    refine (call1_idle (w.heap.size + 1) w4).mono ?_
    rintro e u' w'' ⟨rfl, rfl, rfl⟩
    obtain ⟨⟨x0, x1, x2, x3⟩, _⟩ := HX4.out.1.cells
    have hP := HR.out
    simp [Leaves, settle, results, Try.results23, go_sem, x0, x1, x2, x3]
    exact hP
set_option maxHeartbeats 4000000 in
set_option maxRecDepth 100000 in
theorem callTrunc_lost (h : DkAt w B D M d F) (op : Int) (d' : Dk) (fs' : Fs) (n k : Int) (a b : ByteArray) (A : Option Addr) (m c : Nat)
    (hm : ∀ w1, DkAt w1 B D M d F → Calls Try.prog 43 #[pD D, .string a, .int .i64 n] w1 (MEnds B D M F w1 (.inr op, d', fs'))) :
    Calls Try.prog 23 #[pD D, actV 1 n k a b A m c] w (CEnds B D M F w ((0, .inr op), d', fs')) := by
  have hmf : ∀ (fn : Fn) (first cap : Array Value) (w : World), (Instr.makeFunc fn first cap).run Try.prog w = .ok (.func fn first cap) w := fun _ _ _ _ => rfl
  obtain ⟨hb0, hr0, hx0⟩ := callW_facts w 1 n k a b A m c
  have H0 := Lib.hid (h.below hb0)
  have HB0 := Lib.hid hb0
  have HX0 := Lib.hid hx0
  have HFT : Hid (∀ k, DFoot D M F k → k < w.heap.size + 1) := Lib.hid (fun k hk => by have := (h.foot_lt hk).2; omega)
  have HM := Lib.hid hm
  clear hm
  clear h hb0 hr0 hx0
  go_enter_defers Try.func23, Try.ntmps23
  go_wp2_with (fail)
  show Calls _ _ _ (callW w 1 n k a b A m c) _
  have HSZ0 : Hid (w.heap.size + 5 ≤ (callW w 1 n k a b A m c).heap.size) := Lib.hid (by have := (Array.getElem?_eq_some_iff.1 HX0.out.o_).1; omega)
  generalize callW w 1 n k a b A m c = w1 at *
  refine (HM.out w1 H0.out).mono ?_
  rintro e w2 ⟨F2, he, h2, hc2, hf2⟩
  obtain rfl : e = .panicked [{ v := crashI op, recovered := false }] := he
  have HX2 := Lib.hid (HX0.out.same hc2.ch (fun k h1 h2 hs => by have := HFT.out k hs; omega))
  have H2 := Lib.hid h2
  have HC2 := Lib.hid hc2
  have HF2 := Lib.hid hf2
  clear h2 hc2 hf2
  show Leaves _ _ _ _ _ _ _
  refine leaves_cons (f := 42) (args := bx (w.heap.size + 1)) (by simp) (by simp [go_sem]) ?_
  refine (call1_crash (w.heap.size + 1) op 0 0 0 false [] w2 HX2.out).mono ?_
  rintro e u' w'' ⟨rfl, rfl, hx3, hc3⟩
  have hP : CEnds B D M F w ((0, .inr op), d', fs') (retC 0 0 true op) w'' := ⟨F2, rfl, DkCh.boxes HC2.out (fun k hk => HFT.out k hk) (by have := HSZ0.out; omega) H2.out hc3, ((DkCh.of_below HB0.out).trans HC2.out).later hc3 (fun k hk => by have := hk.1; omega), HF2.out⟩
  obtain ⟨⟨x0, x1, x2, x3⟩, _⟩ := hx3.cells
  simp [Leaves, settle, results, Try.results23, go_sem, x0, x1, x2, x3]
  exact hP
set_option maxHeartbeats 4000000 in
set_option maxRecDepth 100000 in
theorem callSync_ret (h : DkAt w B D M d F) (x : Int) (d' : Dk) (fs' : Fs) (n k : Int) (a b : ByteArray) (A : Option Addr) (m c : Nat)
    (hm : ∀ w1, DkAt w1 B D M d F → Calls Try.prog 38 #[pD D, .string a] w1 (MEnds B D M F w1 (.inl x, d', fs'))) :
    Calls Try.prog 23 #[pD D, actV 2 n k a b A m c] w (CEnds B D M F w ((0, .inl x), d', fs')) := by
  have hmf : ∀ (fn : Fn) (first cap : Array Value) (w : World), (Instr.makeFunc fn first cap).run Try.prog w = .ok (.func fn first cap) w := fun _ _ _ _ => rfl
  obtain ⟨hb0, hr0, hx0⟩ := callW_facts w 2 n k a b A m c
  have H0 := Lib.hid (h.below hb0)
  have HB0 := Lib.hid hb0
  have HX0 := Lib.hid hx0
  have HFT : Hid (∀ k, DFoot D M F k → k < w.heap.size + 1) := Lib.hid (fun k hk => by have := (h.foot_lt hk).2; omega)
  have HM := Lib.hid hm
  clear hm
  clear h hb0 hr0 hx0
  go_enter_defers Try.func23, Try.ntmps23
  go_wp2_with (fail)
  show Calls _ _ _ (callW w 2 n k a b A m c) _
  have HSZ0 : Hid (w.heap.size + 5 ≤ (callW w 2 n k a b A m c).heap.size) := Lib.hid (by have := (Array.getElem?_eq_some_iff.1 HX0.out.o_).1; omega)
  generalize callW w 2 n k a b A m c = w1 at *
  refine (HM.out w1 H0.out).mono ?_
  rintro e w2 ⟨F2, he, h2, hc2, hf2⟩
  obtain rfl : e = .returned (.int .i64 x) := he
  have HX2 := Lib.hid (HX0.out.same hc2.ch (fun k h1 h2 hs => by have := HFT.out k hs; omega))
  have H2 := Lib.hid h2
  have HC2 := Lib.hid hc2
  have HF2 := Lib.hid hf2
  obtain ⟨⟨x0, x1, x2, x3⟩, y0, y1, y2, y3⟩ := HX2.out.cells
  clear h2 hc2 hf2
  have HX3 := Lib.hid (HX2.out.setE x)
  have HX4 := Lib.hid (HX3.out.set4 0 x 0 false)
  have HC4 : Hid (Ch (BxS (w.heap.size + 1)) w2 _) := Lib.hid ((((Ch.refl (BxS (w.heap.size + 1)) w2).set (a := ⟨w.heap.size + 1 + 1, 0, none⟩) (by simp only [BxS]; omega) (.int .i64 x)).trans HX4.out.2 (fun _ _ h => h)))
  go_wp2_with (fail)
  have HX3w := Lib.hid (HX3.out.cells)
  generalize hw3 : w2.setCell ⟨w.heap.size + 1 + 1, 0, none⟩ (.int .i64 x) = w3 at *
  clear x0 x1 x2 x3 y0 y1 y2 y3 hw3
  obtain ⟨⟨x0, x1, x2, x3⟩, y0, y1, y2, y3⟩ := HX3w.out
  have q1 : w.heap.size + 1 ≠ w.heap.size + 1 + 1 := by omega
  have q2 : w.heap.size + 1 ≠ w.heap.size + 1 + 1 + 1 := by omega
  go_region
  all_goals
    generalize (((((w3.setCell ⟨w.heap.size + 1, 0, none⟩ (.int .i64 0)).setCell ⟨w.heap.size + 1 + 1, 0, none⟩ (.int .i64 x)).setCell ⟨w.heap.size + 1 + 1 + 1, 0, none⟩ (.bool false)).setCell ⟨w.heap.size + 1 + 1 + 1 + 1, 0, none⟩ (.int .i64 0)).drew) = w4 at *
    have HR : Hid (CEnds B D M F w ((0, .inl x), d', fs') (retC 0 x false 0) w4) := Lib.hid ⟨F2, rfl, DkCh.boxes HC2.out (fun k hk => HFT.out k hk) (by have := HSZ0.out; omega) H2.out HC4.out, ((DkCh.of_below HB0.out).trans HC2.out).later HC4.out (fun k hk => by have := hk.1; omega), HF2.out⟩
    clear x0 x1 x2 x3 y0 y1 y2 y3 q1 q2
    go_wp2_with (fail)
    refine leaves_cons (f := 42) (args := bx (w.heap.size + 1)) (by simp) (by simp [go_sem]) ?_
    refine (call1_idle (w.heap.size + 1) w4).mono ?_
    rintro e u' w'' ⟨rfl, rfl, rfl⟩
    obtain ⟨⟨x0, x1, x2, x3⟩, _⟩ := HX4.out.1.cells
    have hP := HR.out
    simp [Leaves, settle, results, Try.results23, go_sem, x0, x1, x2, x3]
    exact hP
set_option maxHeartbeats 4000000 in
set_option maxRecDepth 100000 in
theorem callSync_lost (h : DkAt w B D M d F) (op : Int) (d' : Dk) (fs' : Fs) (n k : Int) (a b : ByteArray) (A : Option Addr) (m c : Nat)
    (hm : ∀ w1, DkAt w1 B D M d F → Calls Try.prog 38 #[pD D, .string a] w1 (MEnds B D M F w1 (.inr op, d', fs'))) :
    Calls Try.prog 23 #[pD D, actV 2 n k a b A m c] w (CEnds B D M F w ((0, .inr op), d', fs')) := by
  have hmf : ∀ (fn : Fn) (first cap : Array Value) (w : World), (Instr.makeFunc fn first cap).run Try.prog w = .ok (.func fn first cap) w := fun _ _ _ _ => rfl
  obtain ⟨hb0, hr0, hx0⟩ := callW_facts w 2 n k a b A m c
  have H0 := Lib.hid (h.below hb0)
  have HB0 := Lib.hid hb0
  have HX0 := Lib.hid hx0
  have HFT : Hid (∀ k, DFoot D M F k → k < w.heap.size + 1) := Lib.hid (fun k hk => by have := (h.foot_lt hk).2; omega)
  have HM := Lib.hid hm
  clear hm
  clear h hb0 hr0 hx0
  go_enter_defers Try.func23, Try.ntmps23
  go_wp2_with (fail)
  show Calls _ _ _ (callW w 2 n k a b A m c) _
  have HSZ0 : Hid (w.heap.size + 5 ≤ (callW w 2 n k a b A m c).heap.size) := Lib.hid (by have := (Array.getElem?_eq_some_iff.1 HX0.out.o_).1; omega)
  generalize callW w 2 n k a b A m c = w1 at *
  refine (HM.out w1 H0.out).mono ?_
  rintro e w2 ⟨F2, he, h2, hc2, hf2⟩
  obtain rfl : e = .panicked [{ v := crashI op, recovered := false }] := he
  have HX2 := Lib.hid (HX0.out.same hc2.ch (fun k h1 h2 hs => by have := HFT.out k hs; omega))
  have H2 := Lib.hid h2
  have HC2 := Lib.hid hc2
  have HF2 := Lib.hid hf2
  clear h2 hc2 hf2
  show Leaves _ _ _ _ _ _ _
  refine leaves_cons (f := 42) (args := bx (w.heap.size + 1)) (by simp) (by simp [go_sem]) ?_
  refine (call1_crash (w.heap.size + 1) op 0 0 0 false [] w2 HX2.out).mono ?_
  rintro e u' w'' ⟨rfl, rfl, hx3, hc3⟩
  have hP : CEnds B D M F w ((0, .inr op), d', fs') (retC 0 0 true op) w'' := ⟨F2, rfl, DkCh.boxes HC2.out (fun k hk => HFT.out k hk) (by have := HSZ0.out; omega) H2.out hc3, ((DkCh.of_below HB0.out).trans HC2.out).later hc3 (fun k hk => by have := hk.1; omega), HF2.out⟩
  obtain ⟨⟨x0, x1, x2, x3⟩, _⟩ := hx3.cells
  simp [Leaves, settle, results, Try.results23, go_sem, x0, x1, x2, x3]
  exact hP
set_option maxHeartbeats 4000000 in
set_option maxRecDepth 100000 in
theorem callRename_ret (h : DkAt w B D M d F) (x : Int) (d' : Dk) (fs' : Fs) (n k : Int) (a b : ByteArray) (A : Option Addr) (m c : Nat)
    (hm : ∀ w1, DkAt w1 B D M d F → Calls Try.prog 44 #[pD D, .string a, .string b] w1 (MEnds B D M F w1 (.inl x, d', fs'))) :
    Calls Try.prog 23 #[pD D, actV 3 n k a b A m c] w (CEnds B D M F w ((0, .inl x), d', fs')) := by
  have hmf : ∀ (fn : Fn) (first cap : Array Value) (w : World), (Instr.makeFunc fn first cap).run Try.prog w = .ok (.func fn first cap) w := fun _ _ _ _ => rfl
  obtain ⟨hb0, hr0, hx0⟩ := callW_facts w 3 n k a b A m c
  have H0 := Lib.hid (h.below hb0)
  have HB0 := Lib.hid hb0
  have HX0 := Lib.hid hx0
  have HFT : Hid (∀ k, DFoot D M F k → k < w.heap.size + 1) := Lib.hid (fun k hk => by have := (h.foot_lt hk).2; omega)
  have HM := Lib.hid hm
  clear hm
  clear h hb0 hr0 hx0
  go_enter_defers Try.func23, Try.ntmps23
  go_wp2_with (fail)
  show Calls _ _ _ (callW w 3 n k a b A m c) _
  have HSZ0 : Hid (w.heap.size + 5 ≤ (callW w 3 n k a b A m c).heap.size) := Lib.hid (by have := (Array.getElem?_eq_some_iff.1 HX0.out.o_).1; omega)
  generalize callW w 3 n k a b A m c = w1 at *
  refine (HM.out w1 H0.out).mono ?_
  rintro e w2 ⟨F2, he, h2, hc2, hf2⟩
  obtain rfl : e = .returned (.int .i64 x) := he
  have HX2 := Lib.hid (HX0.out.same hc2.ch (fun k h1 h2 hs => by have := HFT.out k hs; omega))
  have H2 := Lib.hid h2
  have HC2 := Lib.hid hc2
  have HF2 := Lib.hid hf2
  obtain ⟨⟨x0, x1, x2, x3⟩, y0, y1, y2, y3⟩ := HX2.out.cells
  clear h2 hc2 hf2
  have HX3 := Lib.hid (HX2.out.setE x)
  have HX4 := Lib.hid (HX3.out.set4 0 x 0 false)
  have HC4 : Hid (Ch (BxS (w.heap.size + 1)) w2 _) := Lib.hid ((((Ch.refl (BxS (w.heap.size + 1)) w2).set (a := ⟨w.heap.size + 1 + 1, 0, none⟩) (by simp only [BxS]; omega) (.int .i64 x)).trans HX4.out.2 (fun _ _ h => h)))
  go_wp2_with (fail)
  have HX3w := Lib.hid (HX3.out.cells)
  generalize hw3 : w2.setCell ⟨w.heap.size + 1 + 1, 0, none⟩ (.int .i64 x) = w3 at *
  clear x0 x1 x2 x3 y0 y1 y2 y3 hw3
  obtain ⟨⟨x0, x1, x2, x3⟩, y0, y1, y2, y3⟩ := HX3w.out
  have q1 : w.heap.size + 1 ≠ w.heap.size + 1 + 1 := by omega
  have q2 : w.heap.size + 1 ≠ w.heap.size + 1 + 1 + 1 := by omega
  go_region
  all_goals
    generalize (((((w3.setCell ⟨w.heap.size + 1, 0, none⟩ (.int .i64 0)).setCell ⟨w.heap.size + 1 + 1, 0, none⟩ (.int .i64 x)).setCell ⟨w.heap.size + 1 + 1 + 1, 0, none⟩ (.bool false)).setCell ⟨w.heap.size + 1 + 1 + 1 + 1, 0, none⟩ (.int .i64 0)).drew) = w4 at *
    have HR : Hid (CEnds B D M F w ((0, .inl x), d', fs') (retC 0 x false 0) w4) := Lib.hid ⟨F2, rfl, DkCh.boxes HC2.out (fun k hk => HFT.out k hk) (by have := HSZ0.out; omega) H2.out HC4.out, ((DkCh.of_below HB0.out).trans HC2.out).later HC4.out (fun k hk => by have := hk.1; omega), HF2.out⟩
    clear x0 x1 x2 x3 y0 y1 y2 y3 q1 q2
    go_wp2_with (fail)
    refine leaves_cons (f := 42) (args := bx (w.heap.size + 1)) (by simp) (by simp [go_sem]) ?_
    refine (call1_idle (w.heap.size + 1) w4).mono ?_
    rintro e u' w'' ⟨rfl, rfl, rfl⟩
    obtain ⟨⟨x0, x1, x2, x3⟩, _⟩ := HX4.out.1.cells
    have hP := HR.out
    simp [Leaves, settle, results, Try.results23, go_sem, x0, x1, x2, x3]
    exact hP
set_option maxHeartbeats 4000000 in
set_option maxRecDepth 100000 in
theorem callRename_lost (h : DkAt w B D M d F) (op : Int) (d' : Dk) (fs' : Fs) (n k : Int) (a b : ByteArray) (A : Option Addr) (m c : Nat)
    (hm : ∀ w1, DkAt w1 B D M d F → Calls Try.prog 44 #[pD D, .string a, .string b] w1 (MEnds B D M F w1 (.inr op, d', fs'))) :
    Calls Try.prog 23 #[pD D, actV 3 n k a b A m c] w (CEnds B D M F w ((0, .inr op), d', fs')) := by
  have hmf : ∀ (fn : Fn) (first cap : Array Value) (w : World), (Instr.makeFunc fn first cap).run Try.prog w = .ok (.func fn first cap) w := fun _ _ _ _ => rfl
  obtain ⟨hb0, hr0, hx0⟩ := callW_facts w 3 n k a b A m c
  have H0 := Lib.hid (h.below hb0)
  have HB0 := Lib.hid hb0
  have HX0 := Lib.hid hx0
  have HFT : Hid (∀ k, DFoot D M F k → k < w.heap.size + 1) := Lib.hid (fun k hk => by have := (h.foot_lt hk).2; omega)
  have HM := Lib.hid hm
  clear hm
  clear h hb0 hr0 hx0
  go_enter_defers Try.func23, Try.ntmps23
  go_wp2_with (fail)
  show Calls _ _ _ (callW w 3 n k a b A m c) _
  have HSZ0 : Hid (w.heap.size + 5 ≤ (callW w 3 n k a b A m c).heap.size) := Lib.hid (by have := (Array.getElem?_eq_some_iff.1 HX0.out.o_).1; omega)
  generalize callW w 3 n k a b A m c = w1 at *
  refine (HM.out w1 H0.out).mono ?_
  rintro e w2 ⟨F2, he, h2, hc2, hf2⟩
  obtain rfl : e = .panicked [{ v := crashI op, recovered := false }] := he
  have HX2 := Lib.hid (HX0.out.same hc2.ch (fun k h1 h2 hs => by have := HFT.out k hs; omega))
  have H2 := Lib.hid h2
  have HC2 := Lib.hid hc2
  have HF2 := Lib.hid hf2
  clear h2 hc2 hf2
  show Leaves _ _ _ _ _ _ _
  refine leaves_cons (f := 42) (args := bx (w.heap.size + 1)) (by simp) (by simp [go_sem]) ?_
  refine (call1_crash (w.heap.size + 1) op 0 0 0 false [] w2 HX2.out).mono ?_
  rintro e u' w'' ⟨rfl, rfl, hx3, hc3⟩
  have hP : CEnds B D M F w ((0, .inr op), d', fs') (retC 0 0 true op) w'' := ⟨F2, rfl, DkCh.boxes HC2.out (fun k hk => HFT.out k hk) (by have := HSZ0.out; omega) H2.out hc3, ((DkCh.of_below HB0.out).trans HC2.out).later hc3 (fun k hk => by have := hk.1; omega), HF2.out⟩
  obtain ⟨⟨x0, x1, x2, x3⟩, _⟩ := hx3.cells
  simp [Leaves, settle, results, Try.results23, go_sem, x0, x1, x2, x3]
  exact hP
set_option maxHeartbeats 4000000 in
set_option maxRecDepth 100000 in
theorem callRemove_ret (h : DkAt w B D M d F) (x : Int) (d' : Dk) (fs' : Fs) (n k : Int) (a b : ByteArray) (A : Option Addr) (m c : Nat)
    (hm : ∀ w1, DkAt w1 B D M d F → Calls Try.prog 45 #[pD D, .string a] w1 (MEnds B D M F w1 (.inl x, d', fs'))) :
    Calls Try.prog 23 #[pD D, actV 4 n k a b A m c] w (CEnds B D M F w ((0, .inl x), d', fs')) := by
  have hmf : ∀ (fn : Fn) (first cap : Array Value) (w : World), (Instr.makeFunc fn first cap).run Try.prog w = .ok (.func fn first cap) w := fun _ _ _ _ => rfl
  obtain ⟨hb0, hr0, hx0⟩ := callW_facts w 4 n k a b A m c
  have H0 := Lib.hid (h.below hb0)
  have HB0 := Lib.hid hb0
  have HX0 := Lib.hid hx0
  have HFT : Hid (∀ k, DFoot D M F k → k < w.heap.size + 1) := Lib.hid (fun k hk => by have := (h.foot_lt hk).2; omega)
  have HM := Lib.hid hm
  clear hm
  clear h hb0 hr0 hx0
  go_enter_defers Try.func23, Try.ntmps23
  go_wp2_with (fail)
  show Calls _ _ _ (callW w 4 n k a b A m c) _
  have HSZ0 : Hid (w.heap.size + 5 ≤ (callW w 4 n k a b A m c).heap.size) := Lib.hid (by have := (Array.getElem?_eq_some_iff.1 HX0.out.o_).1; omega)
  generalize callW w 4 n k a b A m c = w1 at *
  refine (HM.out w1 H0.out).mono ?_
  rintro e w2 ⟨F2, he, h2, hc2, hf2⟩
  obtain rfl : e = .returned (.int .i64 x) := he
  have HX2 := Lib.hid (HX0.out.same hc2.ch (fun k h1 h2 hs => by have := HFT.out k hs; omega))
  have H2 := Lib.hid h2
  have HC2 := Lib.hid hc2
  have HF2 := Lib.hid hf2
  obtain ⟨⟨x0, x1, x2, x3⟩, y0, y1, y2, y3⟩ := HX2.out.cells
  clear h2 hc2 hf2
  have HX3 := Lib.hid (HX2.out.setE x)
  have HX4 := Lib.hid (HX3.out.set4 0 x 0 false)
  have HC4 : Hid (Ch (BxS (w.heap.size + 1)) w2 _) := Lib.hid ((((Ch.refl (BxS (w.heap.size + 1)) w2).set (a := ⟨w.heap.size + 1 + 1, 0, none⟩) (by simp only [BxS]; omega) (.int .i64 x)).trans HX4.out.2 (fun _ _ h => h)))
  go_wp2_with (fail)
  have HX3w := Lib.hid (HX3.out.cells)
  generalize hw3 : w2.setCell ⟨w.heap.size + 1 + 1, 0, none⟩ (.int .i64 x) = w3 at *
  clear x0 x1 x2 x3 y0 y1 y2 y3 hw3
  obtain ⟨⟨x0, x1, x2, x3⟩, y0, y1, y2, y3⟩ := HX3w.out
  have q1 : w.heap.size + 1 ≠ w.heap.size + 1 + 1 := by omega
  have q2 : w.heap.size + 1 ≠ w.heap.size + 1 + 1 + 1 := by omega
  go_region
  all_goals
    generalize (((((w3.setCell ⟨w.heap.size + 1, 0, none⟩ (.int .i64 0)).setCell ⟨w.heap.size + 1 + 1, 0, none⟩ (.int .i64 x)).setCell ⟨w.heap.size + 1 + 1 + 1, 0, none⟩ (.bool false)).setCell ⟨w.heap.size + 1 + 1 + 1 + 1, 0, none⟩ (.int .i64 0)).drew) = w4 at *
    have HR : Hid (CEnds B D M F w ((0, .inl x), d', fs') (retC 0 x false 0) w4) := Lib.hid ⟨F2, rfl, DkCh.boxes HC2.out (fun k hk => HFT.out k hk) (by have := HSZ0.out; omega) H2.out HC4.out, ((DkCh.of_below HB0.out).trans HC2.out).later HC4.out (fun k hk => by have := hk.1; omega), HF2.out⟩
    clear x0 x1 x2 x3 y0 y1 y2 y3 q1 q2
    go_wp2_with (fail)
    refine leaves_cons (f := 42) (args := bx (w.heap.size + 1)) (by simp) (by simp [go_sem]) ?_
    refine (call1_idle (w.heap.size + 1) w4).mono ?_
    rintro e u' w'' ⟨rfl, rfl, rfl⟩
    obtain ⟨⟨x0, x1, x2, x3⟩, _⟩ := HX4.out.1.cells
    have hP := HR.out
    simp [Leaves, settle, results, Try.results23, go_sem, x0, x1, x2, x3]
    exact hP
set_option maxHeartbeats 4000000 in
set_option maxRecDepth 100000 in
theorem callRemove_lost (h : DkAt w B D M d F) (op : Int) (d' : Dk) (fs' : Fs) (n k : Int) (a b : ByteArray) (A : Option Addr) (m c : Nat)
    (hm : ∀ w1, DkAt w1 B D M d F → Calls Try.prog 45 #[pD D, .string a] w1 (MEnds B D M F w1 (.inr op, d', fs'))) :
    Calls Try.prog 23 #[pD D, actV 4 n k a b A m c] w (CEnds B D M F w ((0, .inr op), d', fs')) := by
  have hmf : ∀ (fn : Fn) (first cap : Array Value) (w : World), (Instr.makeFunc fn first cap).run Try.prog w = .ok (.func fn first cap) w := fun _ _ _ _ => rfl
  obtain ⟨hb0, hr0, hx0⟩ := callW_facts w 4 n k a b A m c
  have H0 := Lib.hid (h.below hb0)
  have HB0 := Lib.hid hb0
  have HX0 := Lib.hid hx0
  have HFT : Hid (∀ k, DFoot D M F k → k < w.heap.size + 1) := Lib.hid (fun k hk => by have := (h.foot_lt hk).2; omega)
  have HM := Lib.hid hm
  clear hm
  clear h hb0 hr0 hx0
  go_enter_defers Try.func23, Try.ntmps23
  go_wp2_with (fail)
  show Calls _ _ _ (callW w 4 n k a b A m c) _
  have HSZ0 : Hid (w.heap.size + 5 ≤ (callW w 4 n k a b A m c).heap.size) := Lib.hid (by have := (Array.getElem?_eq_some_iff.1 HX0.out.o_).1; omega)
  generalize callW w 4 n k a b A m c = w1 at *
  refine (HM.out w1 H0.out).mono ?_
  rintro e w2 ⟨F2, he, h2, hc2, hf2⟩
  obtain rfl : e = .panicked [{ v := crashI op, recovered := false }] := he
  have HX2 := Lib.hid (HX0.out.same hc2.ch (fun k h1 h2 hs => by have := HFT.out k hs; omega))
  have H2 := Lib.hid h2
  have HC2 := Lib.hid hc2
  have HF2 := Lib.hid hf2
  clear h2 hc2 hf2
  show Leaves _ _ _ _ _ _ _
  refine leaves_cons (f := 42) (args := bx (w.heap.size + 1)) (by simp) (by simp [go_sem]) ?_
  refine (call1_crash (w.heap.size + 1) op 0 0 0 false [] w2 HX2.out).mono ?_
  rintro e u' w'' ⟨rfl, rfl, hx3, hc3⟩
  have hP : CEnds B D M F w ((0, .inr op), d', fs') (retC 0 0 true op) w'' := ⟨F2, rfl, DkCh.boxes HC2.out (fun k hk => HFT.out k hk) (by have := HSZ0.out; omega) H2.out hc3, ((DkCh.of_below HB0.out).trans HC2.out).later hc3 (fun k hk => by have := hk.1; omega), HF2.out⟩
  obtain ⟨⟨x0, x1, x2, x3⟩, _⟩ := hx3.cells
  simp [Leaves, settle, results, Try.results23, go_sem, x0, x1, x2, x3]
  exact hP
set_option maxHeartbeats 4000000 in
set_option maxRecDepth 100000 in
theorem callSetRoom_ret (h : DkAt w B D M d F) (x : Int) (d' : Dk) (fs' : Fs) (n k : Int) (a b : ByteArray) (A : Option Addr) (m c : Nat)
    (hm : ∀ w1, DkAt w1 B D M d F → Calls Try.prog 46 #[pD D, .int .i64 n] w1 (MEnds B D M F w1 (.inl x, d', fs'))) :
    Calls Try.prog 23 #[pD D, actV 5 n k a b A m c] w (CEnds B D M F w ((0, .inl x), d', fs')) := by
  have hmf : ∀ (fn : Fn) (first cap : Array Value) (w : World), (Instr.makeFunc fn first cap).run Try.prog w = .ok (.func fn first cap) w := fun _ _ _ _ => rfl
  obtain ⟨hb0, hr0, hx0⟩ := callW_facts w 5 n k a b A m c
  have H0 := Lib.hid (h.below hb0)
  have HB0 := Lib.hid hb0
  have HX0 := Lib.hid hx0
  have HFT : Hid (∀ k, DFoot D M F k → k < w.heap.size + 1) := Lib.hid (fun k hk => by have := (h.foot_lt hk).2; omega)
  have HM := Lib.hid hm
  clear hm
  clear h hb0 hr0 hx0
  go_enter_defers Try.func23, Try.ntmps23
  go_wp2_with (fail)
  show Calls _ _ _ (callW w 5 n k a b A m c) _
  have HSZ0 : Hid (w.heap.size + 5 ≤ (callW w 5 n k a b A m c).heap.size) := Lib.hid (by have := (Array.getElem?_eq_some_iff.1 HX0.out.o_).1; omega)
  generalize callW w 5 n k a b A m c = w1 at *
  refine (HM.out w1 H0.out).mono ?_
  rintro e w2 ⟨F2, he, h2, hc2, hf2⟩
  obtain rfl : e = .returned (.int .i64 x) := he
  have HX2 := Lib.hid (HX0.out.same hc2.ch (fun k h1 h2 hs => by have := HFT.out k hs; omega))
  have H2 := Lib.hid h2
  have HC2 := Lib.hid hc2
  have HF2 := Lib.hid hf2
  obtain ⟨⟨x0, x1, x2, x3⟩, y0, y1, y2, y3⟩ := HX2.out.cells
  clear h2 hc2 hf2
  have HX3 := Lib.hid (HX2.out.setE x)
  have HX4 := Lib.hid (HX3.out.set4 0 x 0 false)
  have HC4 : Hid (Ch (BxS (w.heap.size + 1)) w2 _) := Lib.hid ((((Ch.refl (BxS (w.heap.size + 1)) w2).set (a := ⟨w.heap.size + 1 + 1, 0, none⟩) (by simp only [BxS]; omega) (.int .i64 x)).trans HX4.out.2 (fun _ _ h => h)))
  go_wp2_with (fail)
  have HX3w := Lib.hid (HX3.out.cells)
  generalize hw3 : w2.setCell ⟨w.heap.size + 1 + 1, 0, none⟩ (.int .i64 x) = w3 at *
  clear x0 x1 x2 x3 y0 y1 y2 y3 hw3
  obtain ⟨⟨x0, x1, x2, x3⟩, y0, y1, y2, y3⟩ := HX3w.out
  have q1 : w.heap.size + 1 ≠ w.heap.size + 1 + 1 := by omega
  have q2 : w.heap.size + 1 ≠ w.heap.size + 1 + 1 + 1 := by omega
  go_region
  all_goals
    generalize (((((w3.setCell ⟨w.heap.size + 1, 0, none⟩ (.int .i64 0)).setCell ⟨w.heap.size + 1 + 1, 0, none⟩ (.int .i64 x)).setCell ⟨w.heap.size + 1 + 1 + 1, 0, none⟩ (.bool false)).setCell ⟨w.heap.size + 1 + 1 + 1 + 1, 0, none⟩ (.int .i64 0)).drew) = w4 at *
    have HR : Hid (CEnds B D M F w ((0, .inl x), d', fs') (retC 0 x false 0) w4) := Lib.hid ⟨F2, rfl, DkCh.boxes HC2.out (fun k hk => HFT.out k hk) (by have := HSZ0.out; omega) H2.out HC4.out, ((DkCh.of_below HB0.out).trans HC2.out).later HC4.out (fun k hk => by have := hk.1; omega), HF2.out⟩
    clear x0 x1 x2 x3 y0 y1 y2 y3 q1 q2
    go_wp2_with (fail)
    refine leaves_cons (f := 42) (args := bx (w.heap.size + 1)) (by simp) (by simp [go_sem]) ?_
    refine (call1_idle (w.heap.size + 1) w4).mono ?_
    rintro e u' w'' ⟨rfl, rfl, rfl⟩
    obtain ⟨⟨x0, x1, x2, x3⟩, _⟩ := HX4.out.1.cells
    have hP := HR.out
    simp [Leaves, settle, results, Try.results23, go_sem, x0, x1, x2, x3]
    exact hP
set_option maxHeartbeats 4000000 in
set_option maxRecDepth 100000 in
theorem callFail_ret (h : DkAt w B D M d F) (x : Int) (d' : Dk) (fs' : Fs) (n k : Int) (a b : ByteArray) (A : Option Addr) (m c : Nat)
    (hm : ∀ w1, DkAt w1 B D M d F → Calls Try.prog 47 #[pD D, .int .i64 n] w1 (MEnds B D M F w1 (.inl x, d', fs'))) :
    Calls Try.prog 23 #[pD D, actV 6 n k a b A m c] w (CEnds B D M F w ((0, .inl x), d', fs')) := by
  have hmf : ∀ (fn : Fn) (first cap : Array Value) (w : World), (Instr.makeFunc fn first cap).run Try.prog w = .ok (.func fn first cap) w := fun _ _ _ _ => rfl
  obtain ⟨hb0, hr0, hx0⟩ := callW_facts w 6 n k a b A m c
  have H0 := Lib.hid (h.below hb0)
  have HB0 := Lib.hid hb0
  have HX0 := Lib.hid hx0
  have HFT : Hid (∀ k, DFoot D M F k → k < w.heap.size + 1) := Lib.hid (fun k hk => by have := (h.foot_lt hk).2; omega)
  have HM := Lib.hid hm
  clear hm
  clear h hb0 hr0 hx0
  go_enter_defers Try.func23, Try.ntmps23
  go_wp2_with (fail)
  show Calls _ _ _ (callW w 6 n k a b A m c) _
  have HSZ0 : Hid (w.heap.size + 5 ≤ (callW w 6 n k a b A m c).heap.size) := Lib.hid (by have := (Array.getElem?_eq_some_iff.1 HX0.out.o_).1; omega)
  generalize callW w 6 n k a b A m c = w1 at *
  refine (HM.out w1 H0.out).mono ?_
  rintro e w2 ⟨F2, he, h2, hc2, hf2⟩
  obtain rfl : e = .returned (.int .i64 x) := he
  have HX2 := Lib.hid (HX0.out.same hc2.ch (fun k h1 h2 hs => by have := HFT.out k hs; omega))
  have H2 := Lib.hid h2
  have HC2 := Lib.hid hc2
  have HF2 := Lib.hid hf2
  obtain ⟨⟨x0, x1, x2, x3⟩, y0, y1, y2, y3⟩ := HX2.out.cells
  clear h2 hc2 hf2
  have HX3 := Lib.hid (HX2.out.setE x)
  have HX4 := Lib.hid (HX3.out.set4 0 x 0 false)
  have HC4 : Hid (Ch (BxS (w.heap.size + 1)) w2 _) := Lib.hid ((((Ch.refl (BxS (w.heap.size + 1)) w2).set (a := ⟨w.heap.size + 1 + 1, 0, none⟩) (by simp only [BxS]; omega) (.int .i64 x)).trans HX4.out.2 (fun _ _ h => h)))
  go_wp2_with (fail)
  have HX3w := Lib.hid (HX3.out.cells)
  generalize hw3 : w2.setCell ⟨w.heap.size + 1 + 1, 0, none⟩ (.int .i64 x) = w3 at *
  clear x0 x1 x2 x3 y0 y1 y2 y3 hw3
  obtain ⟨⟨x0, x1, x2, x3⟩, y0, y1, y2, y3⟩ := HX3w.out
  have q1 : w.heap.size + 1 ≠ w.heap.size + 1 + 1 := by omega
  have q2 : w.heap.size + 1 ≠ w.heap.size + 1 + 1 + 1 := by omega
  go_region
  all_goals
    generalize (((((w3.setCell ⟨w.heap.size + 1, 0, none⟩ (.int .i64 0)).setCell ⟨w.heap.size + 1 + 1, 0, none⟩ (.int .i64 x)).setCell ⟨w.heap.size + 1 + 1 + 1, 0, none⟩ (.bool false)).setCell ⟨w.heap.size + 1 + 1 + 1 + 1, 0, none⟩ (.int .i64 0)).drew) = w4 at *
    have HR : Hid (CEnds B D M F w ((0, .inl x), d', fs') (retC 0 x false 0) w4) := Lib.hid ⟨F2, rfl, DkCh.boxes HC2.out (fun k hk => HFT.out k hk) (by have := HSZ0.out; omega) H2.out HC4.out, ((DkCh.of_below HB0.out).trans HC2.out).later HC4.out (fun k hk => by have := hk.1; omega), HF2.out⟩
    clear x0 x1 x2 x3 y0 y1 y2 y3 q1 q2
    go_wp2_with (fail)
    refine leaves_cons (f := 42) (args := bx (w.heap.size + 1)) (by simp) (by simp [go_sem]) ?_
    refine (call1_idle (w.heap.size + 1) w4).mono ?_
    rintro e u' w'' ⟨rfl, rfl, rfl⟩
    obtain ⟨⟨x0, x1, x2, x3⟩, _⟩ := HX4.out.1.cells
    have hP := HR.out
    simp [Leaves, settle, results, Try.results23, go_sem, x0, x1, x2, x3]
    exact hP
set_option maxHeartbeats 4000000 in
set_option maxRecDepth 100000 in
theorem callArm_ret (h : DkAt w B D M d F) (x : Int) (d' : Dk) (fs' : Fs) (n k : Int) (a b : ByteArray) (A : Option Addr) (m c : Nat)
    (hm : ∀ w1, DkAt w1 B D M d F → Calls Try.prog 48 #[pD D, .int .i64 n, .int .i64 k] w1 (MEnds B D M F w1 (.inl x, d', fs'))) :
    Calls Try.prog 23 #[pD D, actV 7 n k a b A m c] w (CEnds B D M F w ((0, .inl x), d', fs')) := by
  have hmf : ∀ (fn : Fn) (first cap : Array Value) (w : World), (Instr.makeFunc fn first cap).run Try.prog w = .ok (.func fn first cap) w := fun _ _ _ _ => rfl
  obtain ⟨hb0, hr0, hx0⟩ := callW_facts w 7 n k a b A m c
  have H0 := Lib.hid (h.below hb0)
  have HB0 := Lib.hid hb0
  have HX0 := Lib.hid hx0
  have HFT : Hid (∀ k, DFoot D M F k → k < w.heap.size + 1) := Lib.hid (fun k hk => by have := (h.foot_lt hk).2; omega)
  have HM := Lib.hid hm
  clear hm
  clear h hb0 hr0 hx0
  go_enter_defers Try.func23, Try.ntmps23
  go_wp2_with (fail)
  show Calls _ _ _ (callW w 7 n k a b A m c) _
  have HSZ0 : Hid (w.heap.size + 5 ≤ (callW w 7 n k a b A m c).heap.size) := Lib.hid (by have := (Array.getElem?_eq_some_iff.1 HX0.out.o_).1; omega)
  generalize callW w 7 n k a b A m c = w1 at *
  refine (HM.out w1 H0.out).mono ?_
  rintro e w2 ⟨F2, he, h2, hc2, hf2⟩
  obtain rfl : e = .returned (.int .i64 x) := he
  have HX2 := Lib.hid (HX0.out.same hc2.ch (fun k h1 h2 hs => by have := HFT.out k hs; omega))
  have H2 := Lib.hid h2
  have HC2 := Lib.hid hc2
  have HF2 := Lib.hid hf2
  obtain ⟨⟨x0, x1, x2, x3⟩, y0, y1, y2, y3⟩ := HX2.out.cells
  clear h2 hc2 hf2
  have HX3 := Lib.hid (HX2.out.setE x)
  have HX4 := Lib.hid (HX3.out.set4 0 x 0 false)
  have HC4 : Hid (Ch (BxS (w.heap.size + 1)) w2 _) := Lib.hid ((((Ch.refl (BxS (w.heap.size + 1)) w2).set (a := ⟨w.heap.size + 1 + 1, 0, none⟩) (by simp only [BxS]; omega) (.int .i64 x)).trans HX4.out.2 (fun _ _ h => h)))
  go_wp2_with (fail)
  have HX3w := Lib.hid (HX3.out.cells)
  generalize hw3 : w2.setCell ⟨w.heap.size + 1 + 1, 0, none⟩ (.int .i64 x) = w3 at *
  clear x0 x1 x2 x3 y0 y1 y2 y3 hw3
  obtain ⟨⟨x0, x1, x2, x3⟩, y0, y1, y2, y3⟩ := HX3w.out
  have q1 : w.heap.size + 1 ≠ w.heap.size + 1 + 1 := by omega
  have q2 : w.heap.size + 1 ≠ w.heap.size + 1 + 1 + 1 := by omega
  go_region
  all_goals
    generalize (((((w3.setCell ⟨w.heap.size + 1, 0, none⟩ (.int .i64 0)).setCell ⟨w.heap.size + 1 + 1, 0, none⟩ (.int .i64 x)).setCell ⟨w.heap.size + 1 + 1 + 1, 0, none⟩ (.bool false)).setCell ⟨w.heap.size + 1 + 1 + 1 + 1, 0, none⟩ (.int .i64 0)).drew) = w4 at *
    have HR : Hid (CEnds B D M F w ((0, .inl x), d', fs') (retC 0 x false 0) w4) := Lib.hid ⟨F2, rfl, DkCh.boxes HC2.out (fun k hk => HFT.out k hk) (by have := HSZ0.out; omega) H2.out HC4.out, ((DkCh.of_below HB0.out).trans HC2.out).later HC4.out (fun k hk => by have := hk.1; omega), HF2.out⟩
    clear x0 x1 x2 x3 y0 y1 y2 y3 q1 q2
    go_wp2_with (fail)
    refine leaves_cons (f := 42) (args := bx (w.heap.size + 1)) (by simp) (by simp [go_sem]) ?_
    refine (call1_idle (w.heap.size + 1) w4).mono ?_
    rintro e u' w'' ⟨rfl, rfl, rfl⟩
    obtain ⟨⟨x0, x1, x2, x3⟩, _⟩ := HX4.out.1.cells
    have hP := HR.out
    simp [Leaves, settle, results, Try.results23, go_sem, x0, x1, x2, x3]
    exact hP
set_option maxHeartbeats 4000000 in
set_option maxRecDepth 100000 in
theorem callPower_ret (h : DkAt w B D M d F) (x : Int) (d' : Dk) (fs' : Fs) (n k : Int) (a b : ByteArray) (A : Option Addr) (m c : Nat)
    (hm : ∀ w1, DkAt w1 B D M d F → Calls Try.prog 39 #[pD D, .int .i64 k] w1 (MEnds B D M F w1 (.inl x, d', fs'))) :
    Calls Try.prog 23 #[pD D, actV 8 n k a b A m c] w (CEnds B D M F w ((0, .inl x), d', fs')) := by
  have hmf : ∀ (fn : Fn) (first cap : Array Value) (w : World), (Instr.makeFunc fn first cap).run Try.prog w = .ok (.func fn first cap) w := fun _ _ _ _ => rfl
  obtain ⟨hb0, hr0, hx0⟩ := callW_facts w 8 n k a b A m c
  have H0 := Lib.hid (h.below hb0)
  have HB0 := Lib.hid hb0
  have HX0 := Lib.hid hx0
  have HFT : Hid (∀ k, DFoot D M F k → k < w.heap.size + 1) := Lib.hid (fun k hk => by have := (h.foot_lt hk).2; omega)
  have HM := Lib.hid hm
  clear hm
  clear h hb0 hr0 hx0
  go_enter_defers Try.func23, Try.ntmps23
  go_wp2_with (fail)
  show Calls _ _ _ (callW w 8 n k a b A m c) _
  have HSZ0 : Hid (w.heap.size + 5 ≤ (callW w 8 n k a b A m c).heap.size) := Lib.hid (by have := (Array.getElem?_eq_some_iff.1 HX0.out.o_).1; omega)
  generalize callW w 8 n k a b A m c = w1 at *
  refine (HM.out w1 H0.out).mono ?_
  rintro e w2 ⟨F2, he, h2, hc2, hf2⟩
  obtain rfl : e = .returned (.int .i64 x) := he
  have HX2 := Lib.hid (HX0.out.same hc2.ch (fun k h1 h2 hs => by have := HFT.out k hs; omega))
  have H2 := Lib.hid h2
  have HC2 := Lib.hid hc2
  have HF2 := Lib.hid hf2
  obtain ⟨⟨x0, x1, x2, x3⟩, y0, y1, y2, y3⟩ := HX2.out.cells
  clear h2 hc2 hf2
  have HX3 := Lib.hid (HX2.out.setE x)
  have HX4 := Lib.hid (HX3.out.set4 0 x 0 false)
  have HC4 : Hid (Ch (BxS (w.heap.size + 1)) w2 _) := Lib.hid ((((Ch.refl (BxS (w.heap.size + 1)) w2).set (a := ⟨w.heap.size + 1 + 1, 0, none⟩) (by simp only [BxS]; omega) (.int .i64 x)).trans HX4.out.2 (fun _ _ h => h)))
  go_wp2_with (fail)
  have HX3w := Lib.hid (HX3.out.cells)
  generalize hw3 : w2.setCell ⟨w.heap.size + 1 + 1, 0, none⟩ (.int .i64 x) = w3 at *
  clear x0 x1 x2 x3 y0 y1 y2 y3 hw3
  obtain ⟨⟨x0, x1, x2, x3⟩, y0, y1, y2, y3⟩ := HX3w.out
  have q1 : w.heap.size + 1 ≠ w.heap.size + 1 + 1 := by omega
  have q2 : w.heap.size + 1 ≠ w.heap.size + 1 + 1 + 1 := by omega
  go_region
  all_goals
    generalize (((((w3.setCell ⟨w.heap.size + 1, 0, none⟩ (.int .i64 0)).setCell ⟨w.heap.size + 1 + 1, 0, none⟩ (.int .i64 x)).setCell ⟨w.heap.size + 1 + 1 + 1, 0, none⟩ (.bool false)).setCell ⟨w.heap.size + 1 + 1 + 1 + 1, 0, none⟩ (.int .i64 0)).drew) = w4 at *
    have HR : Hid (CEnds B D M F w ((0, .inl x), d', fs') (retC 0 x false 0) w4) := Lib.hid ⟨F2, rfl, DkCh.boxes HC2.out (fun k hk => HFT.out k hk) (by have := HSZ0.out; omega) H2.out HC4.out, ((DkCh.of_below HB0.out).trans HC2.out).later HC4.out (fun k hk => by have := hk.1; omega), HF2.out⟩
    clear x0 x1 x2 x3 y0 y1 y2 y3 q1 q2
    go_wp2_with (fail)
    refine leaves_cons (f := 42) (args := bx (w.heap.size + 1)) (by simp) (by simp [go_sem]) ?_
    refine (call1_idle (w.heap.size + 1) w4).mono ?_
    rintro e u' w'' ⟨rfl, rfl, rfl⟩
    obtain ⟨⟨x0, x1, x2, x3⟩, _⟩ := HX4.out.1.cells
    have hP := HR.out
    simp [Leaves, settle, results, Try.results23, go_sem, x0, x1, x2, x3]
    exact hP
set_option maxHeartbeats 4000000 in
set_option maxRecDepth 100000 in
theorem callApp_name (h : DkAt w B D M d F) (n k : Int) (a b : ByteArray) (hn : nameD a = false) (hs : a.size ≤ 140737488355328) (A : Option Addr) (m c : Nat) :
    Calls Try.prog 23 #[pD D, actV 0 n k a b A m c] w (CEnds B D M F w ((0, .inl 16), d, fsOf F)) := by
  have hmf : ∀ (fn : Fn) (first cap : Array Value) (w : World), (Instr.makeFunc fn first cap).run Try.prog w = .ok (.func fn first cap) w := fun _ _ _ _ => rfl
  obtain ⟨hb0, hr0, hx0⟩ := callW_facts w 0 n k a b A m c
  have H0 := Lib.hid (h.below hb0)
  have HB0 := Lib.hid hb0
  have HX0 := Lib.hid hx0
  have HFT : Hid (∀ k, DFoot D M F k → k < w.heap.size + 1) := Lib.hid (fun k hk => by have := (h.foot_lt hk).2; omega)
  have HN := Lib.hid hn
  clear hn
  clear h hb0 hr0 hx0
  go_enter_defers Try.func23, Try.ntmps23
  go_wp2_with (fail)
  show Calls _ _ _ (callW w 0 n k a b A m c) _
  have HSZ0 : Hid (w.heap.size + 5 ≤ (callW w 0 n k a b A m c).heap.size) := Lib.hid (by have := (Array.getElem?_eq_some_iff.1 HX0.out.o_).1; omega)
  generalize callW w 0 n k a b A m c = w1 at *
  refine (dkAppend_name w1 D a hs HN.out A m c).mono ?_
  rintro e w2 ⟨rfl, rfl⟩
  obtain ⟨⟨x0, x1, x2, x3⟩, y0, y1, y2, y3⟩ := HX0.out.cells
  have HX3 := Lib.hid ((HX0.out.setN 0).setE 16)
  have HX4 := Lib.hid (HX3.out.set4 0 16 0 false)
  have HC4 : Hid (Ch (BxS (w.heap.size + 1)) w1 _) := Lib.hid (((((Ch.refl (BxS (w.heap.size + 1)) w1).set (a := ⟨w.heap.size + 1, 0, none⟩) (by simp only [BxS]; omega) (.int .i64 0)).set (a := ⟨w.heap.size + 1 + 1, 0, none⟩) (by simp only [BxS]; omega) (.int .i64 16)).trans HX4.out.2 (fun _ _ h => h)))
  go_wp2_with (fail)
  have HX3w := Lib.hid (HX3.out.cells)
  generalize hw3 : (w1.setCell ⟨w.heap.size + 1, 0, none⟩ (.int .i64 0)).setCell ⟨w.heap.size + 1 + 1, 0, none⟩ (.int .i64 16) = w3 at *
  clear x0 x1 x2 x3 y0 y1 y2 y3 hw3
  obtain ⟨⟨x0, x1, x2, x3⟩, y0, y1, y2, y3⟩ := HX3w.out
  have q1 : w.heap.size + 1 ≠ w.heap.size + 1 + 1 := by omega
  have q2 : w.heap.size + 1 ≠ w.heap.size + 1 + 1 + 1 := by omega
  go_region
  all_goals
    generalize (((((w3.setCell ⟨w.heap.size + 1, 0, none⟩ (.int .i64 0)).setCell ⟨w.heap.size + 1 + 1, 0, none⟩ (.int .i64 16)).setCell ⟨w.heap.size + 1 + 1 + 1, 0, none⟩ (.bool false)).setCell ⟨w.heap.size + 1 + 1 + 1 + 1, 0, none⟩ (.int .i64 0)).drew) = w4 at *
    have HR : Hid (CEnds B D M F w ((0, .inl 16), d, fsOf F) (retC 0 16 false 0) w4) := Lib.hid ⟨F, rfl, DkCh.boxes (DkCh.refl D M F w1) (fun k hk => HFT.out k hk) (by have := HSZ0.out; omega) H0.out HC4.out, (DkCh.of_below HB0.out).later HC4.out (fun k hk => by have := hk.1; omega), rfl⟩
    clear x0 x1 x2 x3 y0 y1 y2 y3 q1 q2
    go_wp2_with (fail)
    refine leaves_cons (f := 42) (args := bx (w.heap.size + 1)) (by simp) (by simp [go_sem]) ?_
    refine (call1_idle (w.heap.size + 1) w4).mono ?_
    rintro e u' w'' ⟨rfl, rfl, rfl⟩
    obtain ⟨⟨x0, x1, x2, x3⟩, _⟩ := HX4.out.1.cells
    have hP := HR.out
    simp [Leaves, settle, results, Try.results23, go_sem, x0, x1, x2, x3]
    exact hP
set_option maxHeartbeats 4000000 in
set_option maxRecDepth 100000 in
theorem callNone (h : DkAt w B D M d F) (kd n k : Int) (a b : ByteArray) (A : Option Addr) (m c : Nat) (hk : kd < 0 ∨ 8 < kd) :
    Calls Try.prog 23 #[pD D, actV kd n k a b A m c] w (CEnds B D M F w ((0, .inl 0), d, fsOf F)) := by
  have d0 : (kd == 0) = false := by rw [beq_eq_false_iff_ne]; omega
  have d1 : (kd == 1) = false := by rw [beq_eq_false_iff_ne]; omega
  have d2 : (kd == 2) = false := by rw [beq_eq_false_iff_ne]; omega
  have d3 : (kd == 3) = false := by rw [beq_eq_false_iff_ne]; omega
  have d4 : (kd == 4) = false := by rw [beq_eq_false_iff_ne]; omega
  have d5 : (kd == 5) = false := by rw [beq_eq_false_iff_ne]; omega
  have d6 : (kd == 6) = false := by rw [beq_eq_false_iff_ne]; omega
  have d7 : (kd == 7) = false := by rw [beq_eq_false_iff_ne]; omega
  have d8 : (kd == 8) = false := by rw [beq_eq_false_iff_ne]; omega
  have hmf : ∀ (fn : Fn) (first cap : Array Value) (w : World), (Instr.makeFunc fn first cap).run Try.prog w = .ok (.func fn first cap) w := fun _ _ _ _ => rfl
  obtain ⟨hb0, hr0, hx0⟩ := callW_facts w kd n k a b A m c
  have H0 := Lib.hid (h.below hb0)
  have HB0 := Lib.hid hb0
  have HX0 := Lib.hid hx0
  have HFT : Hid (∀ k, DFoot D M F k → k < w.heap.size + 1) := Lib.hid (fun k hk => by have := (h.foot_lt hk).2; omega)
  clear hk
  clear h hb0 hr0 hx0
  go_enter_defers Try.func23, Try.ntmps23
  go_wp2_with (fail)
  have HX4 := Lib.hid (HX0.out.set4 0 0 0 false)
  have HSZ0 : Hid (w.heap.size + 5 ≤ (callW w kd n k a b A m c).heap.size) := Lib.hid (by have := (Array.getElem?_eq_some_iff.1 HX0.out.o_).1; omega)
  show Code.wp _ _ _ _ (callW w kd n k a b A m c)
  have HC4 : Hid (Ch (BxS (w.heap.size + 1)) (callW w kd n k a b A m c) _) := Lib.hid HX4.out.2
  generalize callW w kd n k a b A m c = w3 at *
  obtain ⟨⟨x0, x1, x2, x3⟩, y0, y1, y2, y3⟩ := HX0.out.cells
  have q1 : w.heap.size + 1 ≠ w.heap.size + 1 + 1 := by omega
  have q2 : w.heap.size + 1 ≠ w.heap.size + 1 + 1 + 1 := by omega
  go_region
  all_goals
    generalize (((((w3.setCell ⟨w.heap.size + 1, 0, none⟩ (.int .i64 0)).setCell ⟨w.heap.size + 1 + 1, 0, none⟩ (.int .i64 0)).setCell ⟨w.heap.size + 1 + 1 + 1, 0, none⟩ (.bool false)).setCell ⟨w.heap.size + 1 + 1 + 1 + 1, 0, none⟩ (.int .i64 0)).drew) = w4 at *
    have HR : Hid (CEnds B D M F w ((0, .inl 0), d, fsOf F) (retC 0 0 false 0) w4) := Lib.hid ⟨F, rfl, DkCh.boxes (DkCh.refl D M F w3) (fun k hk => HFT.out k hk) (by have := HSZ0.out; omega) H0.out HC4.out, (DkCh.of_below HB0.out).later HC4.out (fun k hk => by have := hk.1; omega), rfl⟩
    clear x0 x1 x2 x3 y0 y1 y2 y3 q1 q2
    go_wp2_with (fail)
    refine leaves_cons (f := 42) (args := bx (w.heap.size + 1)) (by simp) (by simp [go_sem]) ?_
    refine (call1_idle (w.heap.size + 1) w4).mono ?_
    rintro e u' w'' ⟨rfl, rfl, rfl⟩
    obtain ⟨⟨x0, x1, x2, x3⟩, _⟩ := HX4.out.1.cells
    have hP := HR.out
    simp [Leaves, settle, results, Try.results23, go_sem, x0, x1, x2, x3]
    exact hP
end
end Go.Proofs.Ytecmadodpkfnnaa
