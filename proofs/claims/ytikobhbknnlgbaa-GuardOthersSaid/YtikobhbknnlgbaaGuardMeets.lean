/- Layer 3: what a call panics with. -/
import Derived.Test.YtikobhbknnlgbaaGuardAlive
namespace Go.Proofs.Ytikobhbknnlgbaa
open Go.RowKit

theorem meets1_panic (C : Nat) (t : TypeId) (v x : Value) (older : List PanicEntry) (w : World) (rC : w.heap[C]? = some (.cells #[x] 20)) :
    CallsD Try.prog 48 #[.pointer (some ⟨C, 0, none⟩)] (.panicking ({ v := .iface t v, recovered := false } :: older)) w fun e u' w' =>
      e = .returned (.tuple #[]) ∧ u' = .panicking ({ v := .iface t v, recovered := true } :: older) ∧ w' = w.setCell ⟨C, 0, none⟩ (.iface t v) := by
  have hc := cell_of_row w C 0 _ _ _ rC
  simp only [List.getElem?_toArray, List.getElem?_cons_zero] at hc
  have hz : w.frozen? ⟨C, 0, none⟩ = false := by simp [World.frozen?, rC]
  refine callsD_of_wpS Try.func48 rfl fun c₀ cs hu => ?_
  apply wpS_region
  simp [wpOpsS, go_sem, recoverD, hu, Try.ntmps48, hc, hz, bodyPostS, results, Try.results48]
theorem meets1_idle (C : Nat) (x : Value) (w : World) (rC : w.heap[C]? = some (.cells #[x] 20)) :
    CallsD Try.prog 48 #[.pointer (some ⟨C, 0, none⟩)] .returning w fun e u' w' => e = .returned (.tuple #[]) ∧ u' = .returning ∧ w' = w.setCell ⟨C, 0, none⟩ .nilIface := by
  have hc := cell_of_row w C 0 _ _ _ rC
  simp only [List.getElem?_toArray, List.getElem?_cons_zero] at hc
  have hz : w.frozen? ⟨C, 0, none⟩ = false := by simp [World.frozen?, rC]
  refine callsD_of_wpS Try.func48 rfl fun c₀ cs hu => ?_
  apply wpS_region
  simp [wpOpsS, go_sem, recoverD, hu, Try.ntmps48, hc, hz, bodyPostS, results, Try.results48]
  cases c₀
  simp_all

def MeetsPost (B : Nat) (Ret : World → Prop) (Pan : TypeId → Value → World → Prop) (e : Ending) (w'' : World) : Prop :=
  ∃ w', Below B w' w'' ∧ ((e = .returned .nilIface ∧ Ret w') ∨ ∃ t v, e = .returned (.iface t v) ∧ Pan t v w')
def MeetsPre (B : Nat) (w1 : World) (Ret : World → Prop) (Pan : TypeId → Value → World → Prop) (e : Ending) (w' : World) : Prop :=
  (∀ b, B ≤ b → b < w1.heap.size → w'.heap[b]? = w1.heap[b]?) ∧ w1.heap.size ≤ w'.heap.size ∧ ((e = .returned (.tuple #[]) ∧ Ret w') ∨ ∃ t v, e = .panicked [{ v := .iface t v, recovered := false }] ∧ Pan t v w')

set_option maxHeartbeats 1000000 in
set_option maxRecDepth 100000 in
theorem guardMeets (k : FuncId) (caps : Array Value) (hk : FnOk k) (w : World) (Ret : World → Prop) (Pan : TypeId → Value → World → Prop)
    (h : ∀ w1, Below w.heap.size w w1 → Calls Try.prog k caps w1 (MeetsPre w.heap.size w1 Ret Pan)) :
    Calls Try.prog 28 #[.func (.func k) #[] caps] w (MeetsPost w.heap.size Ret Pan) := by
  have hmf : ∀ (fn : Fn) (first cap : Array Value) (w : World), (Instr.makeFunc fn first cap).run Try.prog w = .ok (.func fn first cap) w := fun _ _ _ _ => rfl
  have H := Lib.hid h
  have hkk : ∀ (args : Array Value) (w : World), (callFunc k args).run Try.prog w = .ok (.enter k args) w := hk
  clear hk
  clear h
  go_enter_defers Try.func28, Try.ntmps28
  go_wp2_with (fail)
  have hr1 := heap_alloc_new w (.cells #[.nilIface] 20)
  have hb1 : Below w.heap.size w (w.alloc (.cells #[.nilIface] 20)) := (Below.refl _ w).alloc (Nat.le_refl _) _
  have hs1 : (w.alloc (.cells #[.nilIface] 20)).heap.size = w.heap.size + 1 := by simp
  have HK := H.out _ hb1
  clear H hb1
  generalize w.alloc (.cells #[.nilIface] 20) = w1 at *
  obtain ⟨B, hB⟩ : ∃ B, B = w.heap.size := ⟨_, rfl⟩
  rw [← hB] at hr1 hs1 HK ⊢
  have HBB := Lib.hid hB
  clear hB
  refine HK.mono ?_
  rintro e w2 ⟨hkeep, hsz, hcase⟩
  have rC : w2.heap[B]? = some (.cells #[.nilIface] 20) := by rw [hkeep B (Nat.le_refl _) (by omega)]; exact hr1
  clear hkeep hr1 hs1 hsz HK
  have c1 := cell_of_row w2 B 0 _ _ _ rC
  simp only [List.getElem?_toArray, List.getElem?_cons_zero] at c1
  have f1 : w2.frozen? ⟨B, 0, none⟩ = false := by simp [World.frozen?, rC]
  have L1 := Lib.hid rC
  clear rC
  rcases hcase with ⟨rfl, hRet⟩ | ⟨t, v, rfl, hPan⟩
  · have HR := Lib.hid hRet
    clear hRet
    go_wp2_with (fail)
    clear c1 f1
    have R1 : (w2.setCell ⟨B, 0, none⟩ .nilIface).heap[B]? = some (.cells #[.nilIface] 20) := heap_setCell_same _ _ _ _ _ _ L1.out
    have hbb : Below B w2 (w2.setCell ⟨B, 0, none⟩ .nilIface) := (Below.refl B w2).setCell (p := ⟨B, 0, none⟩) (Nat.le_refl _) _
    generalize w2.setCell ⟨B, 0, none⟩ .nilIface = w3 at *
    refine leaves_cons (f := 48) (args := #[.pointer (some ⟨B, 0, none⟩)]) (by simp) (by simp [go_sem]) ?_
    refine (meets1_idle B .nilIface w3 R1).mono ?_
    rintro e u' w'' ⟨rfl, rfl, rfl⟩
    have R2 : (w3.setCell ⟨B, 0, none⟩ .nilIface).heap[B]? = some (.cells #[.nilIface] 20) := heap_setCell_same _ _ _ _ _ _ R1
    have hbb2 : Below B w2 (w3.setCell ⟨B, 0, none⟩ .nilIface) := hbb.setCell (p := ⟨B, 0, none⟩) (Nat.le_refl _) _
    generalize w3.setCell ⟨B, 0, none⟩ .nilIface = w4 at *
    have c1 := cell_of_row w4 B 0 _ _ _ R2
    simp only [List.getElem?_toArray, List.getElem?_cons_zero] at c1
    have hP : MeetsPost w.heap.size Ret Pan (.returned .nilIface) w4 := ⟨w2, HBB.out ▸ hbb2, .inl ⟨rfl, HR.out⟩⟩
    simp [Leaves, settle, results, Try.results28, go_sem, c1]
    exact hP
  · show Leaves _ _ _ _ _ _ _
    refine leaves_cons (f := 48) (args := #[.pointer (some ⟨B, 0, none⟩)]) (by simp) (by simp [go_sem]) ?_
    refine (meets1_panic B t v .nilIface [] w2 L1.out).mono ?_
    rintro e u' w'' ⟨rfl, rfl, rfl⟩
    have R2 : (w2.setCell ⟨B, 0, none⟩ (.iface t v)).heap[B]? = some (.cells #[.iface t v] 20) := heap_setCell_same _ _ _ _ _ _ L1.out
    have hbb2 : Below B w2 (w2.setCell ⟨B, 0, none⟩ (.iface t v)) := (Below.refl B w2).setCell (p := ⟨B, 0, none⟩) (Nat.le_refl _) _
    generalize w2.setCell ⟨B, 0, none⟩ (.iface t v) = w4 at *
    have c2 := cell_of_row w4 B 0 _ _ _ R2
    simp only [List.getElem?_toArray, List.getElem?_cons_zero] at c2
    have hP : MeetsPost B Ret Pan (.returned (.iface t v)) w4 := ⟨w2, hbb2, .inr ⟨t, v, rfl, hPan⟩⟩
    simp [Leaves, settle, results, Try.results28, go_sem, c2]
    exact hP
end Go.Proofs.Ytikobhbknnlgbaa
