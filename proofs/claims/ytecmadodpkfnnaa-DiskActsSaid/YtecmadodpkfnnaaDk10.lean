/- Layer 2: the law's call of Append, walked. -/
import Derived.Test.YtecmadodpkfnnaaDk9
namespace Go.Proofs.Ytecmadodpkfnnaa
open Go.RowKit Go.MapKept

abbrev actV (kd n k : Int) (a b : ByteArray) (A : Option Addr) (m c : Nat) : Value := .agg #[.int .i64 kd, .int .i64 n, .int .i64 k, .string a, .string b, .slice A m c]
abbrev actO (kd n k : Int) (a b : ByteArray) (A : Option Addr) (m c : Nat) : Obj := .cells #[.int .i64 kd, .int .i64 n, .int .i64 k, .string a, .string b, .slice A m c] 52
/-- the world in which call begins -/
abbrev callW (w : World) (kd n k : Int) (a b : ByteArray) (A : Option Addr) (m c : Nat) : World :=
  ((((w.alloc (actO kd n k a b A m c)).alloc (.cells #[.int .i64 0] 3)).alloc (.cells #[.int .i64 0] 25)).alloc (.cells #[.bool false] 4)).alloc (.cells #[.int .i64 0] 3)
theorem callW_facts (w : World) (kd n k : Int) (a b : ByteArray) (A : Option Addr) (m c : Nat) :
    Below w.heap.size w (callW w kd n k a b A m c) ∧ (callW w kd n k a b A m c).heap[w.heap.size]? = some (actO kd n k a b A m c) ∧ Boxes (callW w kd n k a b A m c) (w.heap.size + 1) 0 0 false 0 := by
  refine ⟨((((Below.refl _ _).alloc (Nat.le_refl _) _).alloc (by simp) _).alloc (by simp; omega) _).alloc (by simp; omega) _ |>.alloc (by simp; omega) _, ?_, ⟨?_, ?_, ?_, ?_⟩⟩
  all_goals
    simp only [callW, World.alloc, Array.getElem?_push, Array.size_push]
  · rw [if_neg (by omega), if_neg (by omega), if_neg (by omega), if_neg (by omega), if_pos trivial]
  · rw [if_neg (by omega), if_neg (by omega), if_neg (by omega), if_pos trivial]
  · rw [if_neg (by omega), if_neg (by omega), if_pos trivial]
  · rw [if_neg (by omega), if_pos trivial]
  · rw [if_pos trivial]
section
variable {w : World} {B D M : Nat} {d : Dk} {F : List Ent}
theorem DkCh.boxes {F' : List Ent} {w1 w2 w3 : World} {s : Nat} (c : DkCh D M F F' w1 w2) (hs : ∀ k, DFoot D M F k → k < s) (hs2 : s + 4 ≤ w1.heap.size) {d' : Dk} (h2 : DkAt w2 B D M d' F') (c3 : Ch (BxS s) w2 w3) : DkAt w3 B D M d' F' :=
  h2.ch c3 (fun k hk hb => by
    have hb1 := hb.1
    have hb2 := hb.2
    rcases hk with hk | hk | hk
    · have := hs k (.inl hk); omega
    · have := hs k (.inr (.inl hk)); omega
    · rcases c.foot k hk with h5 | h5
      · have := hs k (.inr (.inr h5)); omega
      · omega)
/-- an append's error -/
def appE (d : Dk) (m : Nat) : Int := if appN d m < m then 4 else 0
/-- call's answer -/
abbrev retC (n e : Int) (gone : Bool) (op : Int) : Ending := .returned (.tuple #[.int .i64 n, .int .i64 e, .bool gone, .int .i64 op])

set_option maxHeartbeats 4000000 in
set_option maxRecDepth 100000 in
theorem callApp_ok (h : DkAt w B D M d F) (ok : d.Ok) (hlen : FileLens F) (n k : Int) (a b : ByteArray) (hn : nameD a = true) (hs : a.size ≤ 140737488355328) (A : Option Addr) (m c : Nat) (l : List UInt8) (hl : Bs w A m c l) (hBw : B ≤ w.heap.size) (ha : d.armedIn ≠ 1) :
    Calls Try.prog 23 #[pD D, actV 0 n k a b A m c] w fun e w' => e = retC (appN d m) (appE d m) false 0 ∧ ∃ F', DkAt w' B D M { d.begin with used := d.used + (appN d m : Int) } F' ∧ DkCh D M F F' w w' ∧ fsOf F' = layF (fsOf F) a (l.take (appN d m)) := by
  have hmf : ∀ (fn : Fn) (first cap : Array Value) (w : World), (Instr.makeFunc fn first cap).run Try.prog w = .ok (.func fn first cap) w := fun _ _ _ _ => rfl
  obtain ⟨hb0, hr0, hx0⟩ := callW_facts w 0 n k a b A m c
  have H0 := Lib.hid (h.below hb0)
  have HB0 := Lib.hid hb0
  have HR0 := Lib.hid hr0
  have HX0 := Lib.hid hx0
  have HL0 := Lib.hid (hl.below hb0)
  have HFT : Hid (∀ k, DFoot D M F k → k < w.heap.size + 1) := Lib.hid (fun k hk => by have := (h.foot_lt hk).2; omega)
  have OK := Lib.hid ok
  have HLEN := Lib.hid hlen
  have HN := Lib.hid hn
  have HA := Lib.hid ha
  have HBW := Lib.hid hBw
  clear h hb0 hr0 hx0 ok hlen hn ha hl hBw
  go_enter_defers Try.func23, Try.ntmps23
  go_wp2_with (fail)
  show Calls _ _ _ (callW w 0 n k a b A m c) _
  have HSZ0 : Hid (w.heap.size + 5 ≤ (callW w 0 n k a b A m c).heap.size) := Lib.hid (by have := (Array.getElem?_eq_some_iff.1 HX0.out.o_).1; omega)
  generalize callW w 0 n k a b A m c = w1 at *
  refine (dkAppend_ok H0.out OK.out HLEN.out a HN.out hs A m c l HL0.out (Nat.le_trans HBW.out HB0.out.size) HA.out).mono ?_
  rintro e w2 ⟨rfl, F2, h2, hc2, hf2⟩
  have HX2 := Lib.hid (HX0.out.same hc2.ch (fun k h1 h2 hs => by have := HFT.out k hs; omega))
  have H2 := Lib.hid h2
  have HC2 := Lib.hid hc2
  have HF2 := Lib.hid hf2
  obtain ⟨⟨x0, x1, x2, x3⟩, y0, y1, y2, y3⟩ := HX2.out.cells
  obtain ⟨E, hE⟩ : ∃ E, E = appE d m := ⟨_, rfl⟩
  rw [show (if appN d m < m then (4 : Int) else 0) = E from hE.symm]
  generalize hN : appN d m = N at *
  have HNE := Lib.hid (And.intro hN hE)
  clear h2 hc2 hf2 hN hE
  have HX3 := Lib.hid ((HX2.out.setN (N : Int)).setE E)
  have HX4 := Lib.hid (HX3.out.set4 (N : Int) E 0 false)
  have HC4 : Hid (Ch (BxS (w.heap.size + 1)) w2 _) := Lib.hid (((((Ch.refl (BxS (w.heap.size + 1)) w2).set (a := ⟨w.heap.size + 1, 0, none⟩) (by simp only [BxS]; omega) (.int .i64 (N : Int))).set (a := ⟨w.heap.size + 1 + 1, 0, none⟩) (by simp only [BxS]; omega) (.int .i64 E)).trans HX4.out.2 (fun _ _ h => h)))
  go_wp2_with (fail)
  have HX3w := Lib.hid (HX3.out.cells)
  generalize hw3 : (w2.setCell ⟨w.heap.size + 1, 0, none⟩ (.int .i64 (N : Int))).setCell ⟨w.heap.size + 1 + 1, 0, none⟩ (.int .i64 E) = w3 at *
  clear x0 x1 x2 x3 y0 y1 y2 y3 hw3
  obtain ⟨⟨x0, x1, x2, x3⟩, y0, y1, y2, y3⟩ := HX3w.out
  have q1 : w.heap.size + 1 ≠ w.heap.size + 1 + 1 := by omega
  have q2 : w.heap.size + 1 ≠ w.heap.size + 1 + 1 + 1 := by omega
  go_region
  all_goals
    generalize ((((w3.setCell ⟨w.heap.size + 1, 0, none⟩ (.int .i64 (N : Int))).setCell ⟨w.heap.size + 1 + 1, 0, none⟩ (.int .i64 E)).setCell ⟨w.heap.size + 1 + 1 + 1, 0, none⟩ (.bool false)).setCell ⟨w.heap.size + 1 + 1 + 1 + 1, 0, none⟩ (.int .i64 0)).drew = w4 at *
    have HR : Hid (∃ F', DkAt w4 B D M { d.begin with used := d.used + (N : Int) } F' ∧ DkCh D M F F' w w4 ∧ fsOf F' = layF (fsOf F) a (l.take N)) := Lib.hid ⟨F2, DkCh.boxes HC2.out (fun k hk => HFT.out k hk) (by have := HSZ0.out; omega) H2.out HC4.out, ((DkCh.of_below HB0.out).trans HC2.out).later HC4.out (fun k hk => by have := hk.1; omega), HF2.out⟩
    clear x0 x1 x2 x3 y0 y1 y2 y3 q1 q2
    go_wp2_with (fail)
    refine leaves_cons (f := 42) (args := bx (w.heap.size + 1)) (by simp) (by simp [go_sem]) ?_
    refine (call1_idle (w.heap.size + 1) w4).mono ?_
    rintro e u' w'' ⟨rfl, rfl, rfl⟩
    obtain ⟨⟨x0, x1, x2, x3⟩, _⟩ := HX4.out.1.cells
    have hP := HR.out
    simp [Leaves, settle, results, Try.results23, go_sem, x0, x1, x2, x3]
    rw [HNE.out.1]
    exact ⟨⟨rfl, HNE.out.2⟩, hP⟩
set_option maxHeartbeats 4000000 in
set_option maxRecDepth 100000 in
theorem callApp_lost (h : DkAt w B D M d F) (ok : d.Ok) (hlen : FileLens F) (n k : Int) (a b : ByteArray) (hn : nameD a = true) (hs : a.size ≤ 140737488355328) (A : Option Addr) (m c : Nat) (l : List UInt8) (hl : Bs w A m c l) (hBw : B ≤ w.heap.size) (ha : d.armedIn = 1) :
    Calls Try.prog 23 #[pD D, actV 0 n k a b A m c] w fun e w' => e = retC 0 0 true (d.ops + 1) ∧ ∃ F', DkAt w' B D M { d.begin with used := d.used + (appK d m : Int) } F' ∧ DkCh D M F F' w w' ∧ fsOf F' = layF (fsOf F) a (l.take (appK d m)) := by
  have hmf : ∀ (fn : Fn) (first cap : Array Value) (w : World), (Instr.makeFunc fn first cap).run Try.prog w = .ok (.func fn first cap) w := fun _ _ _ _ => rfl
  obtain ⟨hb0, hr0, hx0⟩ := callW_facts w 0 n k a b A m c
  have H0 := Lib.hid (h.below hb0)
  have HB0 := Lib.hid hb0
  have HR0 := Lib.hid hr0
  have HX0 := Lib.hid hx0
  have HL0 := Lib.hid (hl.below hb0)
  have HFT : Hid (∀ k, DFoot D M F k → k < w.heap.size + 1) := Lib.hid (fun k hk => by have := (h.foot_lt hk).2; omega)
  have OK := Lib.hid ok
  have HLEN := Lib.hid hlen
  have HN := Lib.hid hn
  have HA := Lib.hid ha
  have HBW := Lib.hid hBw
  clear h hb0 hr0 hx0 ok hlen hn ha hl hBw
  go_enter_defers Try.func23, Try.ntmps23
  go_wp2_with (fail)
  show Calls _ _ _ (callW w 0 n k a b A m c) _
  have HSZ0 : Hid (w.heap.size + 5 ≤ (callW w 0 n k a b A m c).heap.size) := Lib.hid (by have := (Array.getElem?_eq_some_iff.1 HX0.out.o_).1; omega)
  generalize callW w 0 n k a b A m c = w1 at *
  refine (dkAppend_lost H0.out OK.out HLEN.out a HN.out hs A m c l HL0.out (Nat.le_trans HBW.out HB0.out.size) HA.out).mono ?_
  rintro e w2 ⟨rfl, F2, h2, hc2, hf2⟩
  have HX2 := Lib.hid (HX0.out.same hc2.ch (fun k h1 h2 hs => by have := HFT.out k hs; omega))
  have H2 := Lib.hid h2
  have HC2 := Lib.hid hc2
  have HF2 := Lib.hid hf2
  clear h2 hc2 hf2
  show Leaves _ _ _ _ _ _ _
  refine leaves_cons (f := 42) (args := bx (w.heap.size + 1)) (by simp) (by simp [go_sem]) ?_
  refine (call1_crash (w.heap.size + 1) (d.ops + 1) 0 0 0 false [] w2 HX2.out).mono ?_
  rintro e u' w'' ⟨rfl, rfl, hx3, hc3⟩
  have hP : ∃ F', DkAt w'' B D M { d.begin with used := d.used + (appK d m : Int) } F' ∧ DkCh D M F F' w w'' ∧ fsOf F' = layF (fsOf F) a (l.take (appK d m)) := ⟨F2, DkCh.boxes HC2.out (fun k hk => HFT.out k hk) (by have := HSZ0.out; omega) H2.out hc3, ((DkCh.of_below HB0.out).trans HC2.out).later hc3 (fun k hk => by have := hk.1; omega), HF2.out⟩
  obtain ⟨⟨x0, x1, x2, x3⟩, _⟩ := hx3.cells
  simp [Leaves, settle, results, Try.results23, go_sem, x0, x1, x2, x3]
  exact hP
end
end Go.Proofs.Ytecmadodpkfnnaa
