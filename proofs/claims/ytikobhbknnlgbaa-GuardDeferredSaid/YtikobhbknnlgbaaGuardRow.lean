/- Layer 3: Run of no function, Row of any functions. -/
import Derived.Test.YtikobhbknnlgbaaGuardRun
import Derived.Conc.MuLone
import Derived.LoopTactic
import Derived.RegionTactic
import Derived.BigRegion
namespace Go.Proofs.Ytikobhbknnlgbaa
open Go.RowKit

set_option maxRecDepth 100000 in
theorem guardRun_nil (w : World) : Calls Try.prog 14 #[.nilFunc] w fun e w' => e = .returned (.tuple #[crash 0, .bool false]) ∧ Below w.heap.size w w' := by
  have hnn := nil_nil
  go_enter_defers Try.func14, Try.ntmps14
  go_wp2_with (fail)
  simp [bodyPostD, Leaves, results, Try.results14, go_sem]
  exact ((Below.refl _ w).alloc (Nat.le_refl _) _).alloc (by simp) _

/-- one of Row's calls -/
def OneRun (B j : Nat) (I : Nat → World → Prop) (P : Nat → Int → World → Prop) (e : Ending) (w' : World) : Prop :=
  (∃ x : Int, w'.heap[B]? = some (.cells #[.int .i64 x] 24)) ∧ ((e = .returned (.tuple #[crash 0, .bool false]) ∧ I (j + 1) w') ∨ ∃ op, e = .returned (.tuple #[crash op, .bool true]) ∧ P j op w')

/-- what Row leaves behind -/
def RowPost (n : Nat) (I : Nat → World → Prop) (P : Nat → Int → World → Prop) (e : Ending) (w' : World) : Prop :=
  (e = .returned (.tuple #[.int .i64 (n : Int), crash 0, .bool false]) ∧ I n w') ∨ ∃ (i : Nat) (op : Int), i < n ∧ e = .returned (.tuple #[.int .i64 (i : Int), crash op, .bool true]) ∧ P i op w'
/-- what is asked of the functions that Row calls -/
def RowFn (B : Nat) (I : Nat → World → Prop) (P : Nat → Int → World → Prop) (i : Nat) (v : Value) : Prop :=
  (v = .nilFunc ∧ ∀ W, I i W → I (i + 1) W) ∨ ∃ (k : FuncId) (caps : Array Value), v = .func (.func k) #[] caps ∧ FnOk k ∧ ∀ w1, I i w1 → B ≤ w1.heap.size → Calls Try.prog k caps w1 (RunPre B w1 (I (i + 1)) (P i))

theorem Below.weaken {B C : Nat} {w w' : World} (h : Below B w w') (hc : C ≤ B) : Below C w w' := h.mono hc

theorem oneRun (B j : Nat) (I : Nat → World → Prop) (P : Nat → Int → World → Prop) (v : Value) (w : World) (hst : ∀ i W W', I i W → Below B W W' → I i W') (hPst : ∀ i op W W', P i op W → Below B W W' → P i op W')
    (hfn : RowFn B I P j v) (hI : I j w) (x : Int) (hR : w.heap[B]? = some (.cells #[.int .i64 x] 24)) : Calls Try.prog 14 #[v] w (OneRun B j I P) := by
  have hBs : B < w.heap.size := (Array.getElem?_eq_some_iff.1 hR).1
  rcases hfn with ⟨rfl, hs⟩ | ⟨k, caps, rfl, hk, hc⟩
  · refine (guardRun_nil w).mono ?_
    rintro e w' ⟨rfl, hb⟩
    exact ⟨⟨x, by rw [hb.block _ hBs]; exact hR⟩, .inl ⟨rfl, hst _ _ _ (hs _ hI) (hb.mono (Nat.le_of_lt hBs))⟩⟩
  · refine (guardRun k caps hk w (fun w' => (∃ x : Int, w'.heap[B]? = some (.cells #[.int .i64 x] 24)) ∧ I (j + 1) w') (fun op w' => (∃ x : Int, w'.heap[B]? = some (.cells #[.int .i64 x] 24)) ∧ P j op w') ?_).mono ?_
    · intro w1 hb1
      refine (hc w1 (hst _ _ _ hI (hb1.mono (Nat.le_of_lt hBs))) (Nat.le_trans (Nat.le_of_lt hBs) hb1.size)).mono ?_
      rintro e w' ⟨hkeep, hsz, hcase⟩
      have hrow : ∃ x : Int, w'.heap[B]? = some (.cells #[.int .i64 x] 24) := ⟨x, by rw [hkeep B (Nat.le_refl _) (Nat.lt_of_lt_of_le hBs hb1.size), hb1.block _ hBs]; exact hR⟩
      refine ⟨fun b hb hlt => hkeep b (by omega) hlt, hsz, ?_⟩
      rcases hcase with ⟨rfl, hr⟩ | ⟨op, rfl, hp⟩
      · exact .inl ⟨rfl, hrow, hr⟩
      · exact .inr ⟨op, rfl, hrow, hp⟩
    · rintro e w'' ⟨w', hb, hcase⟩
      rcases hcase with ⟨rfl, ⟨y, hy⟩, hr⟩ | ⟨op, rfl, ⟨y, hy⟩, hp⟩
      · exact ⟨⟨y, by rw [hb.block _ hBs]; exact hy⟩, .inl ⟨rfl, hst _ _ _ hr (hb.mono (Nat.le_of_lt hBs))⟩⟩
      · exact ⟨⟨y, by rw [hb.block _ hBs]; exact hy⟩, .inr ⟨op, rfl, hPst _ _ _ _ hp (hb.mono (Nat.le_of_lt hBs))⟩⟩

set_option maxHeartbeats 2000000 in
set_option maxRecDepth 100000 in
theorem guardRow (A : Option Addr) (n c : Nat) (w : World) (hmax : n ≤ 9223372036854775807) (I : Nat → World → Prop) (P : Nat → Int → World → Prop)
    (h0 : I 0 w) (hst : ∀ i W W', I i W → Below w.heap.size W W' → I i W') (hPst : ∀ i op W W', P i op W → Below w.heap.size W W' → P i op W')
    (hread : ∀ i W, I i W → i < n → ∃ b o v, A = some ⟨b, o, none⟩ ∧ W.cell? ⟨b, o + i, none⟩ = some v ∧ RowFn w.heap.size I P i v) :
    Calls Try.prog 19 #[.slice A n c] w (RowPost n I P) := by
  have H0 := Lib.hid h0
  have HST := Lib.hid hst
  have HPS := Lib.hid hPst
  have HRD := Lib.hid hread
  clear h0 hst hPst hread
  go_enter Try.func19, Try.ntmps19
  go_wp2_with (fail)
  have hr := heap_alloc_new w (.cells #[.int .i64 0] 24)
  have hI1 := HST.out 0 _ _ H0.out ((Below.refl _ w).alloc (Nat.le_refl _) (.cells #[.int .i64 0] 24))
  have hs1 : (w.alloc (.cells #[.int .i64 0] 24)).heap.size = w.heap.size + 1 := by simp
  generalize w.alloc (.cells #[.int .i64 0] 24) = w1 at *
  obtain ⟨B, hB⟩ : ∃ B, B = w.heap.size := ⟨_, rfl⟩
  rw [← hB] at hr HST HPS HRD hs1 ⊢
  clear hB H0
  go_loopw [11, 5, 6, 7, 8] (fun i _ _ _ _ wr => ∃ j : Nat, j ≤ n ∧ i = .int .i64 j ∧ I j wr ∧ (∃ x : Int, wr.heap[B]? = some (.cells #[.int .i64 x] 24)) ∧ B < wr.heap.size) (fun i _ _ _ _ _ => n - (intOf i).toNat)
  case atStart => exact ⟨0, Nat.zero_le _, rfl, hI1, ⟨0, hr⟩, by omega⟩
  case round =>
    obtain ⟨j, hj, rfl, hI, ⟨x, hR⟩, hBs⟩ := hrel
    have HI := Lib.hid hI
    have HR := Lib.hid hR
    have HBS := Lib.hid hBs
    clear hI hR hBs hr hI1 hs1
    by_cases hlt : j < n
    · obtain ⟨b, o, v, rfl, hcell, hfn⟩ := HRD.out j wr HI.out hlt
      have HFN := Lib.hid hfn
      have HLT := Lib.hid hlt
      clear hfn
      have e1 : (j : Int) < (n : Int) := by omega
      have e0 : (0 : Int) ≤ (j : Int) := by omega
      clear hlt
      go_wp2_with (fail)
      refine (oneRun B j I P v wr HST.out HPS.out HFN.out HI.out x HR.out).mono ?_
      rintro e w2 ⟨⟨y, hy⟩, hcase⟩
      have HY := Lib.hid hy
      have hys : B < w2.heap.size := (Array.getElem?_eq_some_iff.1 hy).1
      have HYS := Lib.hid hys
      clear hy hys hcell HI HR HBS HFN
      rcases hcase with ⟨rfl, hI2⟩ | ⟨op, rfl, hP2⟩
      · have HI2 := Lib.hid hI2
        clear hI2
        go_wp2_with (fail)
        go_roundw
        case rel =>
          have hb := (Below.refl B w2).alloc (Nat.le_of_lt HYS.out) (.cells #[.int .i64 0] 24)
          exact ⟨j + 1, HLT.out, by go_num, HST.out _ _ _ HI2.out hb, ⟨y, by rw [((Below.refl w2.heap.size w2).alloc (Nat.le_refl _) (.cells #[.int .i64 0] 24)).block B HYS.out]; exact HY.out⟩, Nat.lt_of_lt_of_le HYS.out hb.size⟩
        case measure => have := HLT.out; simp [intOf]; omega
      · have HP2 := Lib.hid hP2
        clear hP2
        have cB := cell_of_row w2 B 0 _ _ _ HY.out
        simp only [List.getElem?_toArray, List.getElem?_cons_zero] at cB
        have fB : w2.frozen? ⟨B, 0, none⟩ = false := by simp [World.frozen?, HY.out]
        have hBs2 : B < w2.heap.size := HYS.out
        have hBne : B ≠ w2.heap.size := by omega
        clear cB fB
        go_wp2_with (fail)
        have hb := (Below.refl w2.heap.size w2).alloc (Nat.le_refl _) (.cells #[.int .i64 op] 24)
        have hR3 : (w2.alloc (.cells #[.int .i64 op] 24)).heap[B]? = some (.cells #[.int .i64 y] 24) := by rw [hb.block B HYS.out]; exact HY.out
        have hN3 := heap_alloc_new w2 (.cells #[.int .i64 op] 24)
        have HP3 := Lib.hid (HPS.out j op _ _ HP2.out (hb.mono (Nat.le_of_lt HYS.out)))
        generalize w2.alloc (.cells #[.int .i64 op] 24) = w3 at *
        generalize w2.heap.size = G at *
        have cB := cell_of_row w3 B 0 _ _ _ hR3
        have cG := cell_of_row w3 G 0 _ _ _ hN3
        simp only [List.getElem?_toArray, List.getElem?_cons_zero] at cB cG
        have fB : w3.frozen? ⟨B, 0, none⟩ = false := by simp [World.frozen?, hR3]
        have HR3 := Lib.hid hR3
        clear hb HP2 HY HYS hN3 hR3
        go_region
        all_goals
          go_wp2_with (fail)
          have hrow := heap_setCell_same w3 B 0 _ _ (.int .i64 op) HR3.out
          have hP4 := HPS.out j op _ _ HP3.out (((Below.refl B w3).setCell (p := ⟨B, 0, none⟩) (Nat.le_refl _) (.int .i64 op)).drew)
          have hrow2 : ((w3.setCell ⟨B, 0, none⟩ (.int .i64 op)).drew).heap[B]? = some (.cells #[.int .i64 op] 24) := by
            show (w3.setCell ⟨B, 0, none⟩ (.int .i64 op)).heap[B]? = _
            rw [hrow]; rfl
          clear hrow cB cG fB
          generalize (w3.setCell ⟨B, 0, none⟩ (.int .i64 op)).drew = w5 at *
          have cB := cell_of_row w5 B 0 _ _ _ hrow2
          simp only [List.getElem?_toArray, List.getElem?_cons_zero] at cB
          exact bodyPost_ret (v := .tuple #[.int .i64 (j : Int), crash op, .bool true]) (by simp [results, Try.results19, go_sem, cB]) rfl (.inr ⟨j, op, HLT.out, rfl, hP4⟩)
    · obtain rfl : j = n := by omega
      have cB := cell_of_row wr B 0 _ _ _ HR.out
      simp only [List.getElem?_toArray, List.getElem?_cons_zero] at cB
      have fB : wr.frozen? ⟨B, 0, none⟩ = false := by simp [World.frozen?, HR.out]
      go_wp2_with (fail)
      clear cB fB
      have hrow := heap_setCell_same wr B 0 _ _ (.int .i64 0) HR.out
      have hI3 := HST.out _ _ _ HI.out ((Below.refl B wr).setCell (p := ⟨B, 0, none⟩) (Nat.le_refl _) (.int .i64 0))
      generalize wr.setCell ⟨B, 0, none⟩ (.int .i64 0) = w5 at *
      have cB := cell_of_row w5 B 0 _ _ _ hrow
      simp only [List.setIfInBounds_toArray, List.set_cons_zero, List.getElem?_toArray, List.getElem?_cons_zero] at cB
      exact bodyPost_ret (v := .tuple #[.int .i64 (j : Int), crash 0, .bool false]) (by simp [results, Try.results19, go_sem, cB]) rfl (.inl ⟨rfl, hI3⟩)
end Go.Proofs.Ytikobhbknnlgbaa
