/- Layer 9: a head written, walked. -/
import Derived.Test.YtgffamdlnacamaaDoorMsh4
import Derived.Deep.RegionHeld3
import Derived.Deep.CutRange
import Derived.Deep.DeepCutAuto
import Derived.Deep.RegionWith
import Derived.Conc.MuLone
namespace Go.Proofs.YtgffamdlnacamaaDoor
open Go.RowKit

theorem mem_lens : ∀ {T : List (List UInt8)} {x : List UInt8}, x ∈ T → x.length ≤ Lib.lens T
  | a :: r, x, h => by
    have e : Lib.lens (a :: r) = a.length + Lib.lens r := by simp [Lib.lens]
    rw [e]
    rcases List.mem_cons.1 h with rfl | h
    · omega
    · have := mem_lens h; omega
theorem OwnS.twoH (w : World) (x y : List UInt8) (base : Nat) (hb : base ≤ w.heap.size) : OwnS (w.alloc (.cells #[str x, str y] 9)) base (.slice (some ⟨w.heap.size, 0, none⟩) 2 2) [x, y] :=
  ⟨by simp, .inr ⟨w.heap.size, 2, #[str x, str y], rfl, hb, heap_alloc_new w _, Nat.le_refl _, by simp [maxLen], by simp, by simp⟩⟩
/-- may a text stand in a field -/
def standD (c : UInt8) (x : ByteArray) : Bool := !x.data.toList.contains c && !x.data.toList.contains 13
theorem index_lt (l : List UInt8) (c : UInt8) : decide (Lib.indexByte l c < 0) = !l.contains c := by
  rw [← indexByte_has l c]
  by_cases h : Lib.indexByte l c < 0
  · simp [h]
  · simp [h]; omega
set_option maxHeartbeats 1000000 in
theorem mayStand_ (x : ByteArray) (d : Sgn) (w : World) : Calls Tryd.prog 39 #[.string x, d.v] w fun e w' => e = .returned (.bool (standD d.a x)) ∧ Below w.heap.size w w' := by
  have HX0 : Hid (BoxS d w.heap.size (boxSgn d w)) := Lib.hid (heap_alloc_new w _)
  have HB0 := Lib.hid (boxSgn_below d w)
  obtain ⟨c0, c1, c2, c3, c4⟩ := HX0.out.cells
  have HI1 := Lib.hid (index_lt x.data.toList d.a)
  have HI2 := Lib.hid (index_lt x.data.toList 13)
  go_enter Tryd.func39, Tryd.ntmps39
  go_wp2_with (fail)
  refine (Tryd.strings_IndexByte x (d.a.toNat : Int) _).mono ?_
  rintro e w1 ⟨rfl, rfl⟩
  rw [u8_back]
  cases h1 : x.data.toList.contains d.a
  · have d1 : decide (Lib.indexByte x.data.toList d.a < 0) = true := by rw [HI1.out, h1]; rfl
    have d1' : Lib.indexByte x.data.toList d.a < 0 := of_decide_eq_true d1
    go_wp2_with (fail)
    refine (Tryd.strings_IndexByte x 13 _).mono ?_
    rintro e w1 ⟨rfl, rfl⟩
    rw [show (13 : Int).toNat.toUInt8 = 13 from rfl]
    cases h2 : x.data.toList.contains 13
    · have d2 : decide (Lib.indexByte x.data.toList 13 < 0) = true := by rw [HI2.out, h2]; rfl
      have d2' : Lib.indexByte x.data.toList 13 < 0 := of_decide_eq_true d2
      have HE : Hid (standD d.a x = true) := Lib.hid (by unfold standD; rw [h1, h2]; rfl)
      go_wp2_with (fail)
      go_ret
      rw [HE.out]; exact ⟨rfl, HB0.out⟩
    · have d2 : decide (Lib.indexByte x.data.toList 13 < 0) = false := by rw [HI2.out, h2]; rfl
      have d2' : ¬ Lib.indexByte x.data.toList 13 < 0 := of_decide_eq_false d2
      have HE : Hid (standD d.a x = false) := Lib.hid (by unfold standD; rw [h1, h2]; rfl)
      go_wp2_with (fail)
      go_ret
      rw [HE.out]; exact ⟨rfl, HB0.out⟩
  · have d1 : decide (Lib.indexByte x.data.toList d.a < 0) = false := by rw [HI1.out, h1]; rfl
    have d1' : ¬ Lib.indexByte x.data.toList d.a < 0 := of_decide_eq_false d1
    have HE : Hid (standD d.a x = false) := Lib.hid (by unfold standD; rw [h1]; rfl)
    go_wp2_with (fail)
    go_ret
    rw [HE.out]; exact ⟨rfl, HB0.out⟩

/-- the number of a head's fields as far as its text number k: two signs' fields, and as far as the last that isn't empty -/
def filledD (l : List ByteArray) : Nat → Nat
  | 0 => 2
  | k + 1 => if (l.getD k ⟨#[]⟩).toList.isEmpty then filledD l k else k + 3
theorem filledD_le (l : List ByteArray) : ∀ k, filledD l k ≤ k + 2
  | 0 => Nat.le_refl _
  | k + 1 => by
    have := filledD_le l k
    unfold filledD
    split <;> omega
/-- the fields of a head -/
def rowH (h : Hd) : List (List UInt8) := [h.d.a] :: [h.d.b, h.d.c, h.d.d, h.d.e] :: h.l.map (·.data.toList)
/-- a head's segment, and why there is none -/
def writeH (h : Hd) : List UInt8 × Int :=
  if h.d.good = true then
    if h.l.all (standD h.d.a) = true then (makeD mshB h.d.a ((rowH h).take (filledD h.l 10)), 0) else ([], 10)
  else ([], 11)

theorem rowH_len (h : Hd) : (rowH h).length = 12 := rfl
theorem Hd.l_len (h : Hd) : h.l.length = 10 := rfl
theorem rowH_take (h : Hd) (k : Nat) (hk : k < 10) : (rowH h).take (k + 2) ++ [(h.l.getD k ⟨#[]⟩).data.toList] = (rowH h).take (k + 1 + 2) := by
  match k, hk with
  | 0, _ => rfl
  | 1, _ => rfl
  | 2, _ => rfl
  | 3, _ => rfl
  | 4, _ => rfl
  | 5, _ => rfl
  | 6, _ => rfl
  | 7, _ => rfl
  | 8, _ => rfl
  | 9, _ => rfl
theorem Hd.cells_at (h : Hd) (k : Nat) (hk : k < 10) : h.cells[5 + k]? = some (.string (h.l.getD k ⟨#[]⟩)) := by
  match k, hk with
  | 0, _ => rfl
  | 1, _ => rfl
  | 2, _ => rfl
  | 3, _ => rfl
  | 4, _ => rfl
  | 5, _ => rfl
  | 6, _ => rfl
  | 7, _ => rfl
  | 8, _ => rfl
  | 9, _ => rfl
theorem BoxH.text {h : Hd} {g : Nat} {w : World} (b : BoxH h g w) (k : Nat) (hk : k < 10) : w.cell? ⟨g, 5 + k, none⟩ = some (.string (h.l.getD k ⟨#[]⟩)) := by
  rw [cell_of_row w g (5 + k) _ _ _ b]; exact h.cells_at k hk
theorem Hd.text_mem (h : Hd) (k : Nat) (hk : k < 10) : h.l.getD k ⟨#[]⟩ ∈ h.l := by
  rw [List.getD_eq_getElem?_getD, List.getElem?_eq_getElem (by rw [h.l_len]; exact hk)]
  exact List.getElem_mem _
theorem Hd.take_all (h : Hd) (p : ByteArray → Bool) (k : Nat) (hk : k < 10) (h1 : (h.l.take k).all p = true) (h2 : p (h.l.getD k ⟨#[]⟩) = true) : (h.l.take (k + 1)).all p = true := by
  rw [List.take_succ_eq_append_getElem (by rw [h.l_len]; exact hk), List.all_append, h1]
  have e : h.l.getD k ⟨#[]⟩ = h.l[k]'(by rw [h.l_len]; exact hk) := by
    rw [List.getD_eq_getElem?_getD, List.getElem?_eq_getElem (by rw [h.l_len]; exact hk)]; rfl
  rw [e] at h2
  simp [h2]
theorem filledD_step (h : Hd) (k : Nat) : filledD h.l (k + 1) = if (h.l.getD k ⟨#[]⟩).toList.isEmpty then filledD h.l k else k + 3 := rfl
/-- the function behind each text's number -/
theorem rowsAt (k : Nat) (hk : k < 10) : ∃ F : Nat, (∀ W : World, (Instr.index 75 (.agg rowsV) (.int .i64 (k : Int))).run Tryd.prog W = .ok (.agg #[.func (.func F) #[] #[]]) W) ∧ (∀ (args : Array Value) (w : World), (callFunc F args).run Tryd.prog w = .ok (.enter F args) w) ∧ (∀ (g : Nat) (W : World), Calls Tryd.prog F #[.pointer (some ⟨g, 0, none⟩)] W fun e w' => e = .returned (.pointer (some ⟨g, 5 + k, none⟩)) ∧ w' = W) := by
  match k, hk with
  | 0, _ => exact ⟨_, fun _ => by kernel_rfl, fun args w => Go.MuLone.run_callFunc_enter Tryd.func66 (by kernel_rfl) rfl args w, fun g W => row1_ g W⟩
  | 1, _ => exact ⟨_, fun _ => by kernel_rfl, fun args w => Go.MuLone.run_callFunc_enter Tryd.func67 (by kernel_rfl) rfl args w, fun g W => row2_ g W⟩
  | 2, _ => exact ⟨_, fun _ => by kernel_rfl, fun args w => Go.MuLone.run_callFunc_enter Tryd.func68 (by kernel_rfl) rfl args w, fun g W => row3_ g W⟩
  | 3, _ => exact ⟨_, fun _ => by kernel_rfl, fun args w => Go.MuLone.run_callFunc_enter Tryd.func69 (by kernel_rfl) rfl args w, fun g W => row4_ g W⟩
  | 4, _ => exact ⟨_, fun _ => by kernel_rfl, fun args w => Go.MuLone.run_callFunc_enter Tryd.func70 (by kernel_rfl) rfl args w, fun g W => row5_ g W⟩
  | 5, _ => exact ⟨_, fun _ => by kernel_rfl, fun args w => Go.MuLone.run_callFunc_enter Tryd.func71 (by kernel_rfl) rfl args w, fun g W => row6_ g W⟩
  | 6, _ => exact ⟨_, fun _ => by kernel_rfl, fun args w => Go.MuLone.run_callFunc_enter Tryd.func72 (by kernel_rfl) rfl args w, fun g W => row7_ g W⟩
  | 7, _ => exact ⟨_, fun _ => by kernel_rfl, fun args w => Go.MuLone.run_callFunc_enter Tryd.func73 (by kernel_rfl) rfl args w, fun g W => row8_ g W⟩
  | 8, _ => exact ⟨_, fun _ => by kernel_rfl, fun args w => Go.MuLone.run_callFunc_enter Tryd.func74 (by kernel_rfl) rfl args w, fun g W => row9_ g W⟩
  | 9, _ => exact ⟨_, fun _ => by kernel_rfl, fun args w => Go.MuLone.run_callFunc_enter Tryd.func75 (by kernel_rfl) rfl args w, fun g W => row10_ g W⟩
end Go.Proofs.YtgffamdlnacamaaDoor
