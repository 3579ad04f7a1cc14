/- Layer 19's answers: two steps compared. -/
import Derived.Test.YtnoppnnpennddaaDoorTrR
import Derived.Test.YtnoppnnpennddaaDoorTr8
import Derived.Test.YtnoppnnpennddaaDoorTr9
namespace Go.Proofs.YtnoppnnpennddaaDoor
open Go.RowKit

set_option maxHeartbeats 8000000 in
set_option maxRecDepth 100000 in
theorem same1 (k n kp : Int) (A B : Option Addr) (m c m2 c2 g1 ca g2 cb : Nat) (l : List UInt8) (w : World)
    (hr1 : w.heap[g1]? = some (.cells (stC k n kp (.slice A m c) nilE false).toArray TS)) (hr2 : w.heap[g2]? = some (.cells (stC k n kp (.slice B m2 c2) nilE false).toArray TS)) (hB1 : Bs w A m c l) (hB2 : Bs w B m2 c2 l) :
    Calls Tryd.prog 15 #[.slice (some ⟨g1, 0, none⟩) 1 ca, .slice (some ⟨g2, 0, none⟩) 1 cb] w fun e w' => e = .returned (.bool true) ∧ Below w.heap.size w w' := by
  have HR1 := Lib.hid hr1
  have HR2 := Lib.hid hr2
  have HB1 := Lib.hid hB1
  have HB2 := Lib.hid hB2
  clear hr1 hr2 hB1 hB2
  go_enter Tryd.func15, Tryd.ntmps15
  go_wp2_with (fail)
  go_loopw [5, 6, 7, 8] (fun i _ _ _ wr => (i = .int .i64 0 ∨ i = .int .i64 1) ∧ Below w.heap.size w wr) (fun i _ _ _ _ => 1 - (intOf i).toNat)
  case atStart => exact ⟨.inl rfl, Below.refl _ _⟩
  case round =>
    obtain ⟨wo, rfl⟩ : ∃ wo : World, wo = wr := ⟨_, rfl⟩
    obtain ⟨rfl | rfl, hb⟩ := hrel
    · as_aux_lemma =>
      have HB := Lib.hid hb
      have Hb1 := (Array.getElem?_eq_some_iff.1 HR1.out).1
      have Hb2 := (Array.getElem?_eq_some_iff.1 HR2.out).1
      have Z1 := (hb.block _ Hb1).trans HR1.out
      have Z2 := (hb.block _ Hb2).trans HR2.out
      have D1 := HB1.out.below hb
      have D2 := HB2.out.below hb
      have a0 : wo.cell? ⟨g1, 0, none⟩ = some (.int .i64 k) := cell_of_row _ g1 0 _ _ _ Z1
      have a1 : wo.cell? ⟨g1, 1, none⟩ = some (.int .i64 n) := cell_of_row _ g1 1 _ _ _ Z1
      have a2 : wo.cell? ⟨g1, 2, none⟩ = some (.int .i64 kp) := cell_of_row _ g1 2 _ _ _ Z1
      have a3 : wo.cell? ⟨g1, 3, none⟩ = some (.slice A m c) := cell_of_row _ g1 3 _ _ _ Z1
      have a4 : wo.cell? ⟨g1, 4, none⟩ = some (nilE) := cell_of_row _ g1 4 _ _ _ Z1
      have a5 : wo.cell? ⟨g1, 5, none⟩ = some (.bool false) := cell_of_row _ g1 5 _ _ _ Z1
      have b0 : wo.cell? ⟨g2, 0, none⟩ = some (.int .i64 k) := cell_of_row _ g2 0 _ _ _ Z2
      have b1 : wo.cell? ⟨g2, 1, none⟩ = some (.int .i64 n) := cell_of_row _ g2 1 _ _ _ Z2
      have b2 : wo.cell? ⟨g2, 2, none⟩ = some (.int .i64 kp) := cell_of_row _ g2 2 _ _ _ Z2
      have b3 : wo.cell? ⟨g2, 3, none⟩ = some (.slice B m2 c2) := cell_of_row _ g2 3 _ _ _ Z2
      have b4 : wo.cell? ⟨g2, 4, none⟩ = some (nilE) := cell_of_row _ g2 4 _ _ _ Z2
      have b5 : wo.cell? ⟨g2, 5, none⟩ = some (.bool false) := cell_of_row _ g2 5 _ _ _ Z2
      have hb1 : Below wo.heap.size wo (wo.alloc (.cells #[.int .i64 k, .int .i64 n, .int .i64 kp, .slice A m c, .slice none 0 0, .bool false] TS)) := (Below.refl _ wo).alloc (Nat.le_refl _) _
      have hb2 : Below wo.heap.size wo ((wo.alloc (.cells #[.int .i64 k, .int .i64 n, .int .i64 kp, .slice A m c, .slice none 0 0, .bool false] TS)).alloc (.cells #[.int .i64 k, .int .i64 n, .int .i64 kp, .slice B m2 c2, .slice none 0 0, .bool false] TS)) := hb1.alloc hb1.size _
      have Z3 : (wo.alloc (.cells #[.int .i64 k, .int .i64 n, .int .i64 kp, .slice A m c, .slice none 0 0, .bool false] TS)).heap[g2]? = some (.cells #[.int .i64 k, .int .i64 n, .int .i64 kp, .slice B m2 c2, .slice none 0 0, .bool false] TS) := (hb1.block _ (Array.getElem?_eq_some_iff.1 Z2).1).trans Z2
      have Z4 : ((wo.alloc (.cells #[.int .i64 k, .int .i64 n, .int .i64 kp, .slice A m c, .slice none 0 0, .bool false] TS)).alloc (.cells #[.int .i64 k, .int .i64 n, .int .i64 kp, .slice B m2 c2, .slice none 0 0, .bool false] TS)).heap[wo.heap.size]? = some (.cells #[.int .i64 k, .int .i64 n, .int .i64 kp, .slice A m c, .slice none 0 0, .bool false] TS) := heap_keep (heap_alloc_new wo (.cells #[.int .i64 k, .int .i64 n, .int .i64 kp, .slice A m c, .slice none 0 0, .bool false] TS)) (.cells #[.int .i64 k, .int .i64 n, .int .i64 kp, .slice B m2 c2, .slice none 0 0, .bool false] TS)
      have Z5 : ((wo.alloc (.cells #[.int .i64 k, .int .i64 n, .int .i64 kp, .slice A m c, .slice none 0 0, .bool false] TS)).alloc (.cells #[.int .i64 k, .int .i64 n, .int .i64 kp, .slice B m2 c2, .slice none 0 0, .bool false] TS)).heap[wo.heap.size + 1]? = some (.cells #[.int .i64 k, .int .i64 n, .int .i64 kp, .slice B m2 c2, .slice none 0 0, .bool false] TS) := by have := heap_alloc_new (wo.alloc (.cells #[.int .i64 k, .int .i64 n, .int .i64 kp, .slice A m c, .slice none 0 0, .bool false] TS)) (.cells #[.int .i64 k, .int .i64 n, .int .i64 kp, .slice B m2 c2, .slice none 0 0, .bool false] TS); rwa [World.size_alloc] at this
      have p0 : (wo.alloc (.cells #[.int .i64 k, .int .i64 n, .int .i64 kp, .slice A m c, .slice none 0 0, .bool false] TS)).cell? ⟨g2, 0, none⟩ = some (.int .i64 k) := cell_of_row _ (g2) 0 _ _ _ Z3
      have p1 : (wo.alloc (.cells #[.int .i64 k, .int .i64 n, .int .i64 kp, .slice A m c, .slice none 0 0, .bool false] TS)).cell? ⟨g2, 1, none⟩ = some (.int .i64 n) := cell_of_row _ (g2) 1 _ _ _ Z3
      have p2 : (wo.alloc (.cells #[.int .i64 k, .int .i64 n, .int .i64 kp, .slice A m c, .slice none 0 0, .bool false] TS)).cell? ⟨g2, 2, none⟩ = some (.int .i64 kp) := cell_of_row _ (g2) 2 _ _ _ Z3
      have p3 : (wo.alloc (.cells #[.int .i64 k, .int .i64 n, .int .i64 kp, .slice A m c, .slice none 0 0, .bool false] TS)).cell? ⟨g2, 3, none⟩ = some (.slice B m2 c2) := cell_of_row _ (g2) 3 _ _ _ Z3
      have p4 : (wo.alloc (.cells #[.int .i64 k, .int .i64 n, .int .i64 kp, .slice A m c, .slice none 0 0, .bool false] TS)).cell? ⟨g2, 4, none⟩ = some (.slice none 0 0) := cell_of_row _ (g2) 4 _ _ _ Z3
      have p5 : (wo.alloc (.cells #[.int .i64 k, .int .i64 n, .int .i64 kp, .slice A m c, .slice none 0 0, .bool false] TS)).cell? ⟨g2, 5, none⟩ = some (.bool false) := cell_of_row _ (g2) 5 _ _ _ Z3
      have q0 : ((wo.alloc (.cells #[.int .i64 k, .int .i64 n, .int .i64 kp, .slice A m c, .slice none 0 0, .bool false] TS)).alloc (.cells #[.int .i64 k, .int .i64 n, .int .i64 kp, .slice B m2 c2, .slice none 0 0, .bool false] TS)).cell? ⟨wo.heap.size, 0, none⟩ = some (.int .i64 k) := cell_of_row _ (wo.heap.size) 0 _ _ _ Z4
      have q1 : ((wo.alloc (.cells #[.int .i64 k, .int .i64 n, .int .i64 kp, .slice A m c, .slice none 0 0, .bool false] TS)).alloc (.cells #[.int .i64 k, .int .i64 n, .int .i64 kp, .slice B m2 c2, .slice none 0 0, .bool false] TS)).cell? ⟨wo.heap.size, 1, none⟩ = some (.int .i64 n) := cell_of_row _ (wo.heap.size) 1 _ _ _ Z4
      have q2 : ((wo.alloc (.cells #[.int .i64 k, .int .i64 n, .int .i64 kp, .slice A m c, .slice none 0 0, .bool false] TS)).alloc (.cells #[.int .i64 k, .int .i64 n, .int .i64 kp, .slice B m2 c2, .slice none 0 0, .bool false] TS)).cell? ⟨wo.heap.size, 2, none⟩ = some (.int .i64 kp) := cell_of_row _ (wo.heap.size) 2 _ _ _ Z4
      have q3 : ((wo.alloc (.cells #[.int .i64 k, .int .i64 n, .int .i64 kp, .slice A m c, .slice none 0 0, .bool false] TS)).alloc (.cells #[.int .i64 k, .int .i64 n, .int .i64 kp, .slice B m2 c2, .slice none 0 0, .bool false] TS)).cell? ⟨wo.heap.size, 3, none⟩ = some (.slice A m c) := cell_of_row _ (wo.heap.size) 3 _ _ _ Z4
      have q4 : ((wo.alloc (.cells #[.int .i64 k, .int .i64 n, .int .i64 kp, .slice A m c, .slice none 0 0, .bool false] TS)).alloc (.cells #[.int .i64 k, .int .i64 n, .int .i64 kp, .slice B m2 c2, .slice none 0 0, .bool false] TS)).cell? ⟨wo.heap.size, 4, none⟩ = some (.slice none 0 0) := cell_of_row _ (wo.heap.size) 4 _ _ _ Z4
      have q5 : ((wo.alloc (.cells #[.int .i64 k, .int .i64 n, .int .i64 kp, .slice A m c, .slice none 0 0, .bool false] TS)).alloc (.cells #[.int .i64 k, .int .i64 n, .int .i64 kp, .slice B m2 c2, .slice none 0 0, .bool false] TS)).cell? ⟨wo.heap.size, 5, none⟩ = some (.bool false) := cell_of_row _ (wo.heap.size) 5 _ _ _ Z4
      have r0 : ((wo.alloc (.cells #[.int .i64 k, .int .i64 n, .int .i64 kp, .slice A m c, .slice none 0 0, .bool false] TS)).alloc (.cells #[.int .i64 k, .int .i64 n, .int .i64 kp, .slice B m2 c2, .slice none 0 0, .bool false] TS)).cell? ⟨wo.heap.size + 1, 0, none⟩ = some (.int .i64 k) := cell_of_row _ (wo.heap.size + 1) 0 _ _ _ Z5
      have r1 : ((wo.alloc (.cells #[.int .i64 k, .int .i64 n, .int .i64 kp, .slice A m c, .slice none 0 0, .bool false] TS)).alloc (.cells #[.int .i64 k, .int .i64 n, .int .i64 kp, .slice B m2 c2, .slice none 0 0, .bool false] TS)).cell? ⟨wo.heap.size + 1, 1, none⟩ = some (.int .i64 n) := cell_of_row _ (wo.heap.size + 1) 1 _ _ _ Z5
      have r2 : ((wo.alloc (.cells #[.int .i64 k, .int .i64 n, .int .i64 kp, .slice A m c, .slice none 0 0, .bool false] TS)).alloc (.cells #[.int .i64 k, .int .i64 n, .int .i64 kp, .slice B m2 c2, .slice none 0 0, .bool false] TS)).cell? ⟨wo.heap.size + 1, 2, none⟩ = some (.int .i64 kp) := cell_of_row _ (wo.heap.size + 1) 2 _ _ _ Z5
      have r3 : ((wo.alloc (.cells #[.int .i64 k, .int .i64 n, .int .i64 kp, .slice A m c, .slice none 0 0, .bool false] TS)).alloc (.cells #[.int .i64 k, .int .i64 n, .int .i64 kp, .slice B m2 c2, .slice none 0 0, .bool false] TS)).cell? ⟨wo.heap.size + 1, 3, none⟩ = some (.slice B m2 c2) := cell_of_row _ (wo.heap.size + 1) 3 _ _ _ Z5
      have r4 : ((wo.alloc (.cells #[.int .i64 k, .int .i64 n, .int .i64 kp, .slice A m c, .slice none 0 0, .bool false] TS)).alloc (.cells #[.int .i64 k, .int .i64 n, .int .i64 kp, .slice B m2 c2, .slice none 0 0, .bool false] TS)).cell? ⟨wo.heap.size + 1, 4, none⟩ = some (.slice none 0 0) := cell_of_row _ (wo.heap.size + 1) 4 _ _ _ Z5
      have r5 : ((wo.alloc (.cells #[.int .i64 k, .int .i64 n, .int .i64 kp, .slice A m c, .slice none 0 0, .bool false] TS)).alloc (.cells #[.int .i64 k, .int .i64 n, .int .i64 kp, .slice B m2 c2, .slice none 0 0, .bool false] TS)).cell? ⟨wo.heap.size + 1, 5, none⟩ = some (.bool false) := cell_of_row _ (wo.heap.size + 1) 5 _ _ _ Z5
      have hcv1 := (D1.below hb2).str (P := Tryd.prog) 22 5 9 Tryd.underlying22 Tryd.underlying5 Tryd.underlying9
      have hcv2 := (D2.below hb2).str (P := Tryd.prog) 22 5 9 Tryd.underlying22 Tryd.underlying5 Tryd.underlying9
      have HBF := Lib.hid (HB.out.trans (hb2.mono HB.out.size))
      clear Z1 Z2 Z3 Z4 Z5 Hb1 Hb2 hb hb1 hb2 D1 D2
      go_wp2_with (fail)
      obtain ⟨G, hG⟩ : ∃ G, G = wo.heap.size := ⟨_, rfl⟩
      have HQ := Lib.hid q4
      clear p0 p1 p2 p3 p4 p5 q0 q1 q2 q3 q4 q5 r0 r1 r2 r3 r4 r5 a0 a1 a2 a3 a4 a5 b0 b1 b2 b3 b4 b5 hcv1 hcv2 HR1 HR2 HB1 HB2
      rw [← hG] at HQ ⊢
      clear hG
      generalize ((wo.alloc (.cells #[.int .i64 k, .int .i64 n, .int .i64 kp, .slice A m c, .slice none 0 0, .bool false] TS)).alloc (.cells #[.int .i64 k, .int .i64 n, .int .i64 kp, .slice B m2 c2, .slice none 0 0, .bool false] TS)) = W2 at *
      go_loopw [8] (fun j wi => j = .int .i64 0 ∧ wi = W2) (fun _ _ => 0)
      case atStart => exact ⟨rfl, rfl⟩
      case round =>
        obtain ⟨rfl, hw⟩ := hrel
        obtain rfl := hw
        have q4 := HQ.out
        go_wp2_with (fail)
        exact ⟨⟨.inr rfl, HBF.out⟩, by simp [intOf]⟩
    · as_aux_lemma =>
      have HB := Lib.hid hb
      clear hb
      go_wp2_with (fail)
      go_ret
      exact ⟨rfl, HB.out⟩
end Go.Proofs.YtnoppnnpennddaaDoor
