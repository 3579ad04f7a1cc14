/- Laid together: Msh4, Msh6, SegMakesM, MshBackM, Msh6b, MshEG, AckP, MshOneM, Frame, AccM, HdRow, HeldMore, Acc1, Frame2, FrameWrapA, Acc2, HdEq, Acc3, Comm, In2, In3, In4, In5. -/
import Derived.Test.YtodjilljcjkacaaGreatDoorPkIN3
import Derived.Deep.RegionHeld3
import Derived.Deep.CutRange
import Derived.Deep.DeepCutAuto
import Derived.Deep.RegionWith
import Derived.Conc.MuLone
import Derived.Lib.LaidTab
import Derived.Laws.Rows
import Derived.Laws.ResultCell
import Derived.Laws.CopyOwn
import Derived.Deep.Quiet
import Derived.Laws.StructEq
import Derived.Conc.LoneCalls
import Derived.Conc.SmallLaws

/- Layer 9: a head read, walked. -/
namespace Go.Proofs.YtodjilljcjkacaaGreatDoor
open Go.RowKit

/-- the texts ahead of number k -/
def sel (T : Nat → ByteArray) (k i : Nat) : ByteArray := if i < k then T i else ⟨#[]⟩
def hdTo (d : Sgn) (T : Nat → ByteArray) (k : Nat) : Hd := ⟨d, sel T k 0, sel T k 1, sel T k 2, sel T k 3, sel T k 4, sel T k 5, sel T k 6, sel T k 7, sel T k 8, sel T k 9⟩
/-- a segment's texts -/
def textsD (F : List (List UInt8)) (i : Nat) : ByteArray := txt (F.getD (2 + i) [])
/-- a message's head, and why there is none -/
def readH (l : List UInt8) : Hd × Int :=
  if (readD l).2 = 0 then
    if (fieldsD (txt ((splitD l).getD 0 [])) (readD l).1.a).getD 1 [] = [(readD l).1.b, (readD l).1.c, (readD l).1.d, (readD l).1.e] then (hdTo (readD l).1 (textsD (fieldsD (txt ((splitD l).getD 0 [])) (readD l).1.a)) 10, 0)
    else (Hd.zero, 11)
  else (Hd.zero, (readD l).2)
theorem readD_long {l : List UInt8} (h : (readD l).2 = 0) : 9 ≤ l.length := by
  unfold readD at h
  rcases Nat.lt_or_ge l.length 9 with h1 | h1
  · rw [if_pos h1] at h; cases h
  · exact h1
theorem splitD_pos {l : List UInt8} (h : 0 < l.length) : 0 < (splitD l).length := by
  unfold splitD
  have hc := cutAt_length 13 l
  split
  · rename_i h1
    rw [List.length_dropLast]
    rcases Nat.lt_or_ge 1 (cutAt 13 l).length with h2 | h2
    · omega
    · exfalso
      obtain ⟨x, hx⟩ : ∃ x, cutAt 13 l = [x] := List.length_eq_one_iff.1 (by omega)
      rw [hx] at h1
      have hj := cutAt_join 13 l
      rw [hx] at hj
      simp at h1
      subst h1
      simp [Lib.join_one] at hj
      subst hj
      simp at h
  · omega
theorem splitD_le {l : List UInt8} {k : Nat} : ((splitD l).getD k []).length ≤ l.length := by
  have h := cutAt_part_le 13 l l.length (Nat.le_refl _) k
  unfold splitD
  split
  · rw [List.getD_eq_getElem?_getD, List.getElem?_dropLast]
    split
    · rw [List.getD_eq_getElem?_getD] at h; exact h
    · simp
  · exact h

/-- a head's block, stored over -/
def setHd (W : World) (G : Nat) (h : Hd) : World := (((((((((((((((W.setCell ⟨G, 0, none⟩ (u8 h.d.a)).setCell ⟨G, 1, none⟩ (u8 h.d.b)).setCell ⟨G, 2, none⟩ (u8 h.d.c)).setCell ⟨G, 3, none⟩ (u8 h.d.d)).setCell ⟨G, 4, none⟩ (u8 h.d.e)).setCell ⟨G, 5, none⟩ (.string h.a0)).setCell ⟨G, 6, none⟩ (.string h.a1)).setCell ⟨G, 7, none⟩ (.string h.a2)).setCell ⟨G, 8, none⟩ (.string h.a3)).setCell ⟨G, 9, none⟩ (.string h.a4)).setCell ⟨G, 10, none⟩ (.string h.a5)).setCell ⟨G, 11, none⟩ (.string h.a6)).setCell ⟨G, 12, none⟩ (.string h.a7)).setCell ⟨G, 13, none⟩ (.string h.a8)).setCell ⟨G, 14, none⟩ (.string h.a9))
theorem setHd_row {W : World} {G : Nat} {h0 : Hd} (k : BoxH h0 G W) (h : Hd) : BoxH h G (setHd W G h) := by
  unfold BoxH at k ⊢
  have k0 := heap_set_rowH (j := 0) k (u8 h.d.a)
  have k1 := heap_set_rowH (j := 1) k0 (u8 h.d.b)
  have k2 := heap_set_rowH (j := 2) k1 (u8 h.d.c)
  have k3 := heap_set_rowH (j := 3) k2 (u8 h.d.d)
  have k4 := heap_set_rowH (j := 4) k3 (u8 h.d.e)
  have k5 := heap_set_rowH (j := 5) k4 (.string h.a0)
  have k6 := heap_set_rowH (j := 6) k5 (.string h.a1)
  have k7 := heap_set_rowH (j := 7) k6 (.string h.a2)
  have k8 := heap_set_rowH (j := 8) k7 (.string h.a3)
  have k9 := heap_set_rowH (j := 9) k8 (.string h.a4)
  have k10 := heap_set_rowH (j := 10) k9 (.string h.a5)
  have k11 := heap_set_rowH (j := 11) k10 (.string h.a6)
  have k12 := heap_set_rowH (j := 12) k11 (.string h.a7)
  have k13 := heap_set_rowH (j := 13) k12 (.string h.a8)
  have k14 := heap_set_rowH (j := 14) k13 (.string h.a9)
  have e : (((((((((((((((Hd.cells h0).setIfInBounds 0 (u8 h.d.a)).setIfInBounds 1 (u8 h.d.b)).setIfInBounds 2 (u8 h.d.c)).setIfInBounds 3 (u8 h.d.d)).setIfInBounds 4 (u8 h.d.e)).setIfInBounds 5 (.string h.a0)).setIfInBounds 6 (.string h.a1)).setIfInBounds 7 (.string h.a2)).setIfInBounds 8 (.string h.a3)).setIfInBounds 9 (.string h.a4)).setIfInBounds 10 (.string h.a5)).setIfInBounds 11 (.string h.a6)).setIfInBounds 12 (.string h.a7)).setIfInBounds 13 (.string h.a8)).setIfInBounds 14 (.string h.a9) = h.cells := by kernel_rfl
  rw [e] at k14
  exact k14
theorem setHd_below {B : Nat} {w W : World} {G : Nat} (k : Below B w W) (hG : B ≤ G) (h : Hd) : Below B w (setHd W G h) :=
  (((((((((((((((k.setCell (p := ⟨G, 0, none⟩) hG _).setCell (p := ⟨G, 1, none⟩) hG _).setCell (p := ⟨G, 2, none⟩) hG _).setCell (p := ⟨G, 3, none⟩) hG _).setCell (p := ⟨G, 4, none⟩) hG _).setCell (p := ⟨G, 5, none⟩) hG _).setCell (p := ⟨G, 6, none⟩) hG _).setCell (p := ⟨G, 7, none⟩) hG _).setCell (p := ⟨G, 8, none⟩) hG _).setCell (p := ⟨G, 9, none⟩) hG _).setCell (p := ⟨G, 10, none⟩) hG _).setCell (p := ⟨G, 11, none⟩) hG _).setCell (p := ⟨G, 12, none⟩) hG _).setCell (p := ⟨G, 13, none⟩) hG _).setCell (p := ⟨G, 14, none⟩) hG _)
theorem BoxH.frz {h : Hd} {g : Nat} {w : World} (k : BoxH h g w) : w.frozen? ⟨g, 0, none⟩ = false ∧ w.frozen? ⟨g, 1, none⟩ = false ∧ w.frozen? ⟨g, 2, none⟩ = false ∧ w.frozen? ⟨g, 3, none⟩ = false ∧ w.frozen? ⟨g, 4, none⟩ = false ∧ w.frozen? ⟨g, 5, none⟩ = false ∧ w.frozen? ⟨g, 6, none⟩ = false ∧ w.frozen? ⟨g, 7, none⟩ = false ∧ w.frozen? ⟨g, 8, none⟩ = false ∧ w.frozen? ⟨g, 9, none⟩ = false ∧ w.frozen? ⟨g, 10, none⟩ = false ∧ w.frozen? ⟨g, 11, none⟩ = false ∧ w.frozen? ⟨g, 12, none⟩ = false ∧ w.frozen? ⟨g, 13, none⟩ = false ∧ w.frozen? ⟨g, 14, none⟩ = false :=
  ⟨k.frozen 0, k.frozen 1, k.frozen 2, k.frozen 3, k.frozen 4, k.frozen 5, k.frozen 6, k.frozen 7, k.frozen 8, k.frozen 9, k.frozen 10, k.frozen 11, k.frozen 12, k.frozen 13, k.frozen 14⟩

theorem hdTo_step0 {d : Sgn} {T : Nat → ByteArray} {G : Nat} {W : World} (k : BoxH (hdTo d T 0) G W) : BoxH (hdTo d T 1) G (W.setCell ⟨G, 5, none⟩ (.string (T 0))) := by
  have h := heap_set_rowH (j := 5) k (.string (T 0))
  have e : (Hd.cells (hdTo d T 0)).setIfInBounds 5 (.string (T 0)) = (hdTo d T 1).cells := by kernel_rfl
  rw [e] at h
  exact h
theorem hdTo_step1 {d : Sgn} {T : Nat → ByteArray} {G : Nat} {W : World} (k : BoxH (hdTo d T 1) G W) : BoxH (hdTo d T 2) G (W.setCell ⟨G, 6, none⟩ (.string (T 1))) := by
  have h := heap_set_rowH (j := 6) k (.string (T 1))
  have e : (Hd.cells (hdTo d T 1)).setIfInBounds 6 (.string (T 1)) = (hdTo d T 2).cells := by kernel_rfl
  rw [e] at h
  exact h
theorem hdTo_step2 {d : Sgn} {T : Nat → ByteArray} {G : Nat} {W : World} (k : BoxH (hdTo d T 2) G W) : BoxH (hdTo d T 3) G (W.setCell ⟨G, 7, none⟩ (.string (T 2))) := by
  have h := heap_set_rowH (j := 7) k (.string (T 2))
  have e : (Hd.cells (hdTo d T 2)).setIfInBounds 7 (.string (T 2)) = (hdTo d T 3).cells := by kernel_rfl
  rw [e] at h
  exact h
theorem hdTo_step3 {d : Sgn} {T : Nat → ByteArray} {G : Nat} {W : World} (k : BoxH (hdTo d T 3) G W) : BoxH (hdTo d T 4) G (W.setCell ⟨G, 8, none⟩ (.string (T 3))) := by
  have h := heap_set_rowH (j := 8) k (.string (T 3))
  have e : (Hd.cells (hdTo d T 3)).setIfInBounds 8 (.string (T 3)) = (hdTo d T 4).cells := by kernel_rfl
  rw [e] at h
  exact h
theorem hdTo_step4 {d : Sgn} {T : Nat → ByteArray} {G : Nat} {W : World} (k : BoxH (hdTo d T 4) G W) : BoxH (hdTo d T 5) G (W.setCell ⟨G, 9, none⟩ (.string (T 4))) := by
  have h := heap_set_rowH (j := 9) k (.string (T 4))
  have e : (Hd.cells (hdTo d T 4)).setIfInBounds 9 (.string (T 4)) = (hdTo d T 5).cells := by kernel_rfl
  rw [e] at h
  exact h
theorem hdTo_step5 {d : Sgn} {T : Nat → ByteArray} {G : Nat} {W : World} (k : BoxH (hdTo d T 5) G W) : BoxH (hdTo d T 6) G (W.setCell ⟨G, 10, none⟩ (.string (T 5))) := by
  have h := heap_set_rowH (j := 10) k (.string (T 5))
  have e : (Hd.cells (hdTo d T 5)).setIfInBounds 10 (.string (T 5)) = (hdTo d T 6).cells := by kernel_rfl
  rw [e] at h
  exact h
theorem hdTo_step6 {d : Sgn} {T : Nat → ByteArray} {G : Nat} {W : World} (k : BoxH (hdTo d T 6) G W) : BoxH (hdTo d T 7) G (W.setCell ⟨G, 11, none⟩ (.string (T 6))) := by
  have h := heap_set_rowH (j := 11) k (.string (T 6))
  have e : (Hd.cells (hdTo d T 6)).setIfInBounds 11 (.string (T 6)) = (hdTo d T 7).cells := by kernel_rfl
  rw [e] at h
  exact h
theorem hdTo_step7 {d : Sgn} {T : Nat → ByteArray} {G : Nat} {W : World} (k : BoxH (hdTo d T 7) G W) : BoxH (hdTo d T 8) G (W.setCell ⟨G, 12, none⟩ (.string (T 7))) := by
  have h := heap_set_rowH (j := 12) k (.string (T 7))
  have e : (Hd.cells (hdTo d T 7)).setIfInBounds 12 (.string (T 7)) = (hdTo d T 8).cells := by kernel_rfl
  rw [e] at h
  exact h
theorem hdTo_step8 {d : Sgn} {T : Nat → ByteArray} {G : Nat} {W : World} (k : BoxH (hdTo d T 8) G W) : BoxH (hdTo d T 9) G (W.setCell ⟨G, 13, none⟩ (.string (T 8))) := by
  have h := heap_set_rowH (j := 13) k (.string (T 8))
  have e : (Hd.cells (hdTo d T 8)).setIfInBounds 13 (.string (T 8)) = (hdTo d T 9).cells := by kernel_rfl
  rw [e] at h
  exact h
theorem hdTo_step9 {d : Sgn} {T : Nat → ByteArray} {G : Nat} {W : World} (k : BoxH (hdTo d T 9) G W) : BoxH (hdTo d T 10) G (W.setCell ⟨G, 14, none⟩ (.string (T 9))) := by
  have h := heap_set_rowH (j := 14) k (.string (T 9))
  have e : (Hd.cells (hdTo d T 9)).setIfInBounds 14 (.string (T 9)) = (hdTo d T 10).cells := by kernel_rfl
  rw [e] at h
  exact h
theorem BoxH.other {h : Hd} {g t : Nat} {w : World} (k : BoxH h g w) (hne : g ≠ t) (j : Nat) (v : Value) : BoxH h g (w.setCell ⟨t, j, none⟩ v) := (Below.heap_setCell w ⟨t, j, none⟩ v g hne).trans k
theorem BoxS.other {d : Sgn} {g t : Nat} {w : World} (k : BoxS d g w) (hne : g ≠ t) (j : Nat) (v : Value) : BoxS d g (w.setCell ⟨t, j, none⟩ v) := (Below.heap_setCell w ⟨t, j, none⟩ v g hne).trans k
theorem nthD_getD (F : List (List UInt8)) (i : Nat) : (nthD F ((i : Int) + 1)).getD [] = F.getD i [] := by
  unfold nthD
  rw [if_pos (by omega), show ((i : Int) + 1 - 1).toNat = i by omega, List.getD_eq_getElem?_getD]

set_option maxHeartbeats 16000000 in
set_option maxRecDepth 100000 in
theorem read_ (A : Option Addr) (n c : Nat) (l : List UInt8) (w : World) (hB : Bs w A n c l) (hn : n ≤ 1000000) :
    Calls Tryz.prog 70 #[.slice A n c] w fun e w' => e = .returned (.tuple #[(readH l).1.v, .int .i64 (readH l).2]) ∧ Below w.heap.size w w' := by
  have HL := Lib.hid hB.len
  have HN := Lib.hid hn
  have HR0 : Hid (BoxH Hd.zero w.heap.size (w.alloc (.cells Hd.zero.cells TH))) := Lib.hid (BoxH.new _ w)
  have HB0 : Hid (Below w.heap.size w (w.alloc (.cells Hd.zero.cells TH))) := Lib.hid (boxHd_below _ w)
  have HBS := Lib.hid (hB.below (boxHd_below Hd.zero w))
  clear hB hn
  go_enter Tryz.func70, Tryz.ntmps70
  go_wp2_with (fail)
  generalize hw0 : w.alloc (.cells #[.int .u8 0, .int .u8 0, .int .u8 0, .int .u8 0, .int .u8 0, .string ⟨#[]⟩, .string ⟨#[]⟩, .string ⟨#[]⟩, .string ⟨#[]⟩, .string ⟨#[]⟩, .string ⟨#[]⟩, .string ⟨#[]⟩, .string ⟨#[]⟩, .string ⟨#[]⟩, .string ⟨#[]⟩] TH) = w0
  rw [show w.alloc (.cells Hd.zero.cells TH) = w0 from hw0] at HR0 HB0 HBS
  clear hw0
  refine (delimRead A n c l w0 HBS.out).mono ?_
  rintro e w1 ⟨rfl, hb1⟩
  have HR1 := Lib.hid (HR0.out.below hb1)
  have HB1 := Lib.hid (HB0.out.trans (hb1.mono HB0.out.size))
  have HBS1 := Lib.hid (HBS.out.below hb1)
  clear hb1
  by_cases he : (readD l).2 = 0
  · have HE0 : Hid (readH l = if (fieldsD (txt ((splitD l).getD 0 [])) (readD l).1.a).getD 1 [] = [(readD l).1.b, (readD l).1.c, (readD l).1.d, (readD l).1.e] then (hdTo (readD l).1 (textsD (fieldsD (txt ((splitD l).getD 0 [])) (readD l).1.a)) 10, 0) else (Hd.zero, 11)) := Lib.hid (if_pos he)
    have HSP : Hid (0 < (splitD l).length) := Lib.hid (splitD_pos (by have := readD_long he; omega))
    have HXL : Hid (((splitD l).getD 0 []).length ≤ n) := Lib.hid (by rw [← HL.out]; exact splitD_le)
    rw [he]
    obtain ⟨d, hd⟩ : ∃ d, d = (readD l).1 := ⟨_, rfl⟩
    rw [← hd] at HE0 ⊢
    have HR2 : Hid (BoxH Hd.zero w.heap.size (w1.alloc (.cells #[.int .u8 (d.a.toNat : Int), .int .u8 (d.b.toNat : Int), .int .u8 (d.c.toNat : Int), .int .u8 (d.d.toNat : Int), .int .u8 (d.e.toNat : Int)] 109))) := Lib.hid (HR1.out.below ((Below.refl _ _).alloc (Nat.le_refl _) _))
    have HB2 : Hid (Below w.heap.size w (w1.alloc (.cells #[.int .u8 (d.a.toNat : Int), .int .u8 (d.b.toNat : Int), .int .u8 (d.c.toNat : Int), .int .u8 (d.d.toNat : Int), .int .u8 (d.e.toNat : Int)] 109))) := Lib.hid (HB1.out.alloc HB1.out.size _)
    have HD2 : Hid (BoxS d w1.heap.size (w1.alloc (.cells #[.int .u8 (d.a.toNat : Int), .int .u8 (d.b.toNat : Int), .int .u8 (d.c.toNat : Int), .int .u8 (d.d.toNat : Int), .int .u8 (d.e.toNat : Int)] 109))) := Lib.hid (heap_alloc_new w1 _)
    have HBS2 : Hid (Bs (w1.alloc (.cells #[.int .u8 (d.a.toNat : Int), .int .u8 (d.b.toNat : Int), .int .u8 (d.c.toNat : Int), .int .u8 (d.d.toNat : Int), .int .u8 (d.e.toNat : Int)] 109)) A n c l) := Lib.hid (HBS1.out.alloc _)
    have HDN : Hid (w.heap.size < w1.heap.size) := Lib.hid (Array.getElem?_eq_some_iff.1 HR1.out).1
    clear he hd
    go_wp2_with (fail)
    generalize w1.alloc (.cells #[.int .u8 (d.a.toNat : Int), .int .u8 (d.b.toNat : Int), .int .u8 (d.c.toNat : Int), .int .u8 (d.d.toNat : Int), .int .u8 (d.e.toNat : Int)] 109) = w2 at *
    generalize w1.heap.size = D at *
    refine (split_ A n c l w2 HBS2.out HN.out).mono ?_
    rintro e w3 ⟨A2, c2, rfl, hS, hb3⟩
    have HR3 := Lib.hid (HR2.out.below hb3)
    have HB3 := Lib.hid (HB2.out.trans (hb3.mono HB2.out.size))
    have HD3 := Lib.hid (HD2.out.below hb3)
    obtain ⟨b, o, rfl, _, hc⟩ := hS.read HSP.out
    rw [Nat.add_zero] at hc
    have h0 : (0 : Int) < ((splitD l).length : Int) := by have := HSP.out; omega
    obtain ⟨s, hs⟩ : ∃ s : ByteArray, s = txt ((splitD l).getD 0 []) := ⟨_, rfl⟩
    rw [show str ((splitD l).getD 0 []) = .string s from congrArg Value.string hs.symm] at hc
    rw [← hs] at HE0
    have HSZ : Hid (s.size ≤ 1000000) := Lib.hid (by rw [hs, txt_size']; have := HXL.out; have := HN.out; omega)
    obtain ⟨c0, c1, c2', c3, c4⟩ := HD3.out.cells
    obtain ⟨m, hm⟩ : ∃ m, m = (splitD l).length := ⟨_, rfl⟩
    rw [← hm] at h0 ⊢
    clear hb3 hS hs hm HR1 HB1 HBS1 HR2 HB2 HD2 HBS2
    go_wp2_with (fail)
    refine (field_ s 2 d w3 (by have := HSZ.out; omega) (by omega) (by omega)).mono ?_
    rintro e w4 ⟨rfl, hb4⟩
    have HR4 := Lib.hid (HR3.out.below hb4)
    have HB4 := Lib.hid (HB3.out.trans (hb4.mono HB3.out.size))
    have HD4 := Lib.hid (HD3.out.below hb4)
    obtain ⟨Fl, hF⟩ : ∃ Fl, Fl = fieldsD s d.a := ⟨_, rfl⟩
    rw [← hF] at HE0 ⊢
    have HFL := Lib.hid hF
    obtain ⟨x, bo, hxb, hx⟩ : ∃ x bo, toldV (nthD Fl 2) = .tuple #[str x, .bool bo] ∧ x = Fl.getD 1 [] := ⟨_, _, rfl, nthD_getD Fl 1⟩
    rw [hxb]
    rw [← hx] at HE0
    clear hb4 hF hxb hx c0 c1 c2' c3 c4 hc HR3 HB3 HD3
    obtain ⟨c0, c1, c2', c3, c4⟩ := HD4.out.cells
    go_wp2_with (fail)
    refine (otherSigns_ d w4).mono ?_
    rintro e w5 ⟨rfl, hb5⟩
    have HR5 := Lib.hid (HR4.out.below hb5)
    have HB5 := Lib.hid (HB4.out.trans (hb5.mono HB4.out.size))
    have HD5 := Lib.hid (HD4.out.below hb5)
    clear hb5 c0 c1 c2' c3 c4 HR4 HB4 HD4
    by_cases hq : x = [d.b, d.c, d.d, d.e]
    · have HE : Hid (readH l = (hdTo d (textsD Fl) 10, 0)) := Lib.hid (by rw [HE0.out, if_pos hq])
      rw [hq]
      have hst : ((txt [d.b, d.c, d.d, d.e]).toList == (txt [d.b, d.c, d.d, d.e]).toList) = true := by simp
      obtain ⟨c0, c1, c2', c3, c4⟩ := HD5.out.cells
      have HG6 : Hid (BoxH (hdTo d (textsD Fl) 0) w5.heap.size (w5.alloc (.cells #[.int .u8 (d.a.toNat : Int), .int .u8 (d.b.toNat : Int), .int .u8 (d.c.toNat : Int), .int .u8 (d.d.toNat : Int), .int .u8 (d.e.toNat : Int), .string ⟨#[]⟩, .string ⟨#[]⟩, .string ⟨#[]⟩, .string ⟨#[]⟩, .string ⟨#[]⟩, .string ⟨#[]⟩, .string ⟨#[]⟩, .string ⟨#[]⟩, .string ⟨#[]⟩, .string ⟨#[]⟩] TH))) := Lib.hid (heap_alloc_new w5 _)
      have HR6 : Hid (BoxH Hd.zero w.heap.size (w5.alloc (.cells #[.int .u8 (d.a.toNat : Int), .int .u8 (d.b.toNat : Int), .int .u8 (d.c.toNat : Int), .int .u8 (d.d.toNat : Int), .int .u8 (d.e.toNat : Int), .string ⟨#[]⟩, .string ⟨#[]⟩, .string ⟨#[]⟩, .string ⟨#[]⟩, .string ⟨#[]⟩, .string ⟨#[]⟩, .string ⟨#[]⟩, .string ⟨#[]⟩, .string ⟨#[]⟩, .string ⟨#[]⟩] TH))) := Lib.hid (HR5.out.below ((Below.refl _ _).alloc (Nat.le_refl _) _))
      have HB6 : Hid (Below w.heap.size w (w5.alloc (.cells #[.int .u8 (d.a.toNat : Int), .int .u8 (d.b.toNat : Int), .int .u8 (d.c.toNat : Int), .int .u8 (d.d.toNat : Int), .int .u8 (d.e.toNat : Int), .string ⟨#[]⟩, .string ⟨#[]⟩, .string ⟨#[]⟩, .string ⟨#[]⟩, .string ⟨#[]⟩, .string ⟨#[]⟩, .string ⟨#[]⟩, .string ⟨#[]⟩, .string ⟨#[]⟩, .string ⟨#[]⟩] TH))) := Lib.hid (HB5.out.alloc HB5.out.size _)
      have HD6 : Hid (BoxS d D (w5.alloc (.cells #[.int .u8 (d.a.toNat : Int), .int .u8 (d.b.toNat : Int), .int .u8 (d.c.toNat : Int), .int .u8 (d.d.toNat : Int), .int .u8 (d.e.toNat : Int), .string ⟨#[]⟩, .string ⟨#[]⟩, .string ⟨#[]⟩, .string ⟨#[]⟩, .string ⟨#[]⟩, .string ⟨#[]⟩, .string ⟨#[]⟩, .string ⟨#[]⟩, .string ⟨#[]⟩, .string ⟨#[]⟩] TH))) := Lib.hid (HD5.out.below ((Below.refl _ _).alloc (Nat.le_refl _) _))
      have HNE : Hid (w.heap.size ≠ w5.heap.size ∧ D ≠ w5.heap.size ∧ w.heap.size ≤ w5.heap.size) := Lib.hid (by
        have h1 := (Array.getElem?_eq_some_iff.1 HR5.out).1
        have h2 := (Array.getElem?_eq_some_iff.1 HD5.out).1
        omega)
      clear hq
      go_wp2_with (fail)
      generalize w5.alloc (.cells #[.int .u8 (d.a.toNat : Int), .int .u8 (d.b.toNat : Int), .int .u8 (d.c.toNat : Int), .int .u8 (d.d.toNat : Int), .int .u8 (d.e.toNat : Int), .string ⟨#[]⟩, .string ⟨#[]⟩, .string ⟨#[]⟩, .string ⟨#[]⟩, .string ⟨#[]⟩, .string ⟨#[]⟩, .string ⟨#[]⟩, .string ⟨#[]⟩, .string ⟨#[]⟩, .string ⟨#[]⟩] TH) = w6 at *
      generalize w5.heap.size = G at *
      clear c0 c1 c2' c3 c4 hst HR5 HB5 HD5
      refine (rows_ w6).mono ?_
      rintro e w7 ⟨rfl, hb7⟩
      have HR7 := Lib.hid (HR6.out.below hb7)
      have HB7 := Lib.hid (HB6.out.trans (hb7.mono HB6.out.size))
      have HD7 := Lib.hid (HD6.out.below hb7)
      have HG7 := Lib.hid (HG6.out.below hb7)
      clear hb7 HR6 HB6 HD6 HG6
      go_wp2_with (fail)
      go_loopw [41, 10, 11, 12, 13] (fun i _ _ _ _ wr => ∃ k : Nat, k ≤ 10 ∧ i = .int .i64 k ∧ BoxH (hdTo d (textsD Fl) k) G wr ∧ BoxS d D wr ∧ BoxH Hd.zero w.heap.size wr ∧ Below w.heap.size w wr) (fun i _ _ _ _ _ => 10 - (intOf i).toNat)
      case atStart => exact ⟨0, by omega, rfl, HG7.out, HD7.out, HR7.out, HB7.out⟩
      case round =>
        clear HG7 HD7 HR7 HB7
        obtain ⟨wo, rfl⟩ : ∃ wo : World, wo = wr := ⟨_, rfl⟩
        obtain ⟨k, hk, rfl, hg, hd, hr, hb⟩ := hrel
        have HG := Lib.hid hg
        have HD := Lib.hid hd
        have HR := Lib.hid hr
        have HB := Lib.hid hb
        clear hg hd hr hb
        by_cases hlt : k < 10
        · match k, hlt with
          | 0, _ =>
            rw [show ((0 : Nat) : Int) = 0 from rfl]
            have i0 : ∀ W, (Instr.index 170 (.agg rowsV) (.int .i64 0)).run Tryz.prog W = .ok (.agg #[.func (.func 141) #[] #[]]) W := fun _ => by kernel_rfl
            have HD1 : Hid (BoxS d D (wo.alloc (.cells #[.func (.func 141) #[] #[]] 169))) := Lib.hid (HD.out.below ((Below.refl _ _).alloc (Nat.le_refl _) _))
            have HR1 : Hid (BoxH Hd.zero w.heap.size (wo.alloc (.cells #[.func (.func 141) #[] #[]] 169))) := Lib.hid (HR.out.below ((Below.refl _ _).alloc (Nat.le_refl _) _))
            have HG1 : Hid (BoxH (hdTo d (textsD Fl) 0) G (wo.alloc (.cells #[.func (.func 141) #[] #[]] 169))) := Lib.hid (HG.out.below ((Below.refl _ _).alloc (Nat.le_refl _) _))
            have HB1 : Hid (Below w.heap.size w (wo.alloc (.cells #[.func (.func 141) #[] #[]] 169))) := Lib.hid (HB.out.alloc HB.out.size _)
            have HF1 : Hid ((wo.alloc (.cells #[.func (.func 141) #[] #[]] 169)).heap[wo.heap.size]? = some (.cells #[.func (.func 141) #[] #[]] 169)) := Lib.hid (heap_alloc_new wo _)
            obtain ⟨c0, c1, c2', c3, c4⟩ := HD1.out.cells
            clear hlt hk
            go_wp2_with (fail)
            generalize (wo.alloc (.cells #[.func (.func 141) #[] #[]] 169)) = wa at *
            generalize wo.heap.size = fb at *
            refine (field_ s 3 d wa (by have := HSZ.out; omega) (by omega) (by omega)).mono ?_
            rintro e wb ⟨rfl, hb5⟩
            rw [← HFL.out]
            have HR2 := Lib.hid (HR1.out.below hb5)
            have HB2 := Lib.hid (HB1.out.trans (hb5.mono HB1.out.size))
            have HD2 := Lib.hid (HD1.out.below hb5)
            have HG2 := Lib.hid (HG1.out.below hb5)
            have cf := cell_of_row wb fb 0 _ _ _ ((hb5.block fb (Array.getElem?_eq_some_iff.1 HF1.out).1).trans HF1.out)
            obtain ⟨x2, bo2, hxb2, hx2⟩ : ∃ x2 bo2, toldV (nthD Fl 3) = .tuple #[.string x2, .bool bo2] ∧ x2 = textsD Fl 0 := ⟨_, _, rfl, congrArg txt (nthD_getD Fl 2)⟩
            rw [hxb2]
            obtain ⟨c0, c1, c2, c3, c4, c5, c6, c7, c8, c9, c10, c11, c12, c13, c14⟩ := HG2.out.cells
            obtain ⟨f0, f1, f2, f3, f4, f5, f6, f7, f8, f9, f10, f11, f12, f13, f14⟩ := HG2.out.frz
            have HX2 := Lib.hid hx2
            clear hb5 hxb2 hx2 c0 c1 c2' c3 c4 HR1 HB1 HD1 HG1 HF1
            obtain ⟨c0, c1, c2, c3, c4, c5, c6, c7, c8, c9, c10, c11, c12, c13, c14⟩ := HG2.out.cells
            go_wp2_with (fail)
            refine (row1_ G wb).mono ?_
            rintro e wc ⟨rfl, rfl⟩
            go_wp2_with (fail)
            rw [HX2.out]
            exact ⟨⟨1, by omega, rfl, hdTo_step0 HG2.out, HD2.out.other HNE.out.2.1 _ _, HR2.out.other HNE.out.1 _ _, HB2.out.setCell (p := ⟨G, 5, none⟩) HNE.out.2.2 _⟩, by simp [intOf]⟩
          | 1, _ =>
            rw [show ((1 : Nat) : Int) = 1 from rfl]
            have i0 : ∀ W, (Instr.index 170 (.agg rowsV) (.int .i64 1)).run Tryz.prog W = .ok (.agg #[.func (.func 142) #[] #[]]) W := fun _ => by kernel_rfl
            have HD1 : Hid (BoxS d D (wo.alloc (.cells #[.func (.func 142) #[] #[]] 169))) := Lib.hid (HD.out.below ((Below.refl _ _).alloc (Nat.le_refl _) _))
            have HR1 : Hid (BoxH Hd.zero w.heap.size (wo.alloc (.cells #[.func (.func 142) #[] #[]] 169))) := Lib.hid (HR.out.below ((Below.refl _ _).alloc (Nat.le_refl _) _))
            have HG1 : Hid (BoxH (hdTo d (textsD Fl) 1) G (wo.alloc (.cells #[.func (.func 142) #[] #[]] 169))) := Lib.hid (HG.out.below ((Below.refl _ _).alloc (Nat.le_refl _) _))
            have HB1 : Hid (Below w.heap.size w (wo.alloc (.cells #[.func (.func 142) #[] #[]] 169))) := Lib.hid (HB.out.alloc HB.out.size _)
            have HF1 : Hid ((wo.alloc (.cells #[.func (.func 142) #[] #[]] 169)).heap[wo.heap.size]? = some (.cells #[.func (.func 142) #[] #[]] 169)) := Lib.hid (heap_alloc_new wo _)
            obtain ⟨c0, c1, c2', c3, c4⟩ := HD1.out.cells
            clear hlt hk
            go_wp2_with (fail)
            generalize (wo.alloc (.cells #[.func (.func 142) #[] #[]] 169)) = wa at *
            generalize wo.heap.size = fb at *
            refine (field_ s 4 d wa (by have := HSZ.out; omega) (by omega) (by omega)).mono ?_
            rintro e wb ⟨rfl, hb5⟩
            rw [← HFL.out]
            have HR2 := Lib.hid (HR1.out.below hb5)
            have HB2 := Lib.hid (HB1.out.trans (hb5.mono HB1.out.size))
            have HD2 := Lib.hid (HD1.out.below hb5)
            have HG2 := Lib.hid (HG1.out.below hb5)
            have cf := cell_of_row wb fb 0 _ _ _ ((hb5.block fb (Array.getElem?_eq_some_iff.1 HF1.out).1).trans HF1.out)
            obtain ⟨x2, bo2, hxb2, hx2⟩ : ∃ x2 bo2, toldV (nthD Fl 4) = .tuple #[.string x2, .bool bo2] ∧ x2 = textsD Fl 1 := ⟨_, _, rfl, congrArg txt (nthD_getD Fl 3)⟩
            rw [hxb2]
            obtain ⟨c0, c1, c2, c3, c4, c5, c6, c7, c8, c9, c10, c11, c12, c13, c14⟩ := HG2.out.cells
            obtain ⟨f0, f1, f2, f3, f4, f5, f6, f7, f8, f9, f10, f11, f12, f13, f14⟩ := HG2.out.frz
            have HX2 := Lib.hid hx2
            clear hb5 hxb2 hx2 c0 c1 c2' c3 c4 HR1 HB1 HD1 HG1 HF1
            obtain ⟨c0, c1, c2, c3, c4, c5, c6, c7, c8, c9, c10, c11, c12, c13, c14⟩ := HG2.out.cells
            go_wp2_with (fail)
            refine (row2_ G wb).mono ?_
            rintro e wc ⟨rfl, rfl⟩
            go_wp2_with (fail)
            rw [HX2.out]
            exact ⟨⟨2, by omega, rfl, hdTo_step1 HG2.out, HD2.out.other HNE.out.2.1 _ _, HR2.out.other HNE.out.1 _ _, HB2.out.setCell (p := ⟨G, 6, none⟩) HNE.out.2.2 _⟩, by simp [intOf]⟩
          | 2, _ =>
            rw [show ((2 : Nat) : Int) = 2 from rfl]
            have i0 : ∀ W, (Instr.index 170 (.agg rowsV) (.int .i64 2)).run Tryz.prog W = .ok (.agg #[.func (.func 143) #[] #[]]) W := fun _ => by kernel_rfl
            have HD1 : Hid (BoxS d D (wo.alloc (.cells #[.func (.func 143) #[] #[]] 169))) := Lib.hid (HD.out.below ((Below.refl _ _).alloc (Nat.le_refl _) _))
            have HR1 : Hid (BoxH Hd.zero w.heap.size (wo.alloc (.cells #[.func (.func 143) #[] #[]] 169))) := Lib.hid (HR.out.below ((Below.refl _ _).alloc (Nat.le_refl _) _))
            have HG1 : Hid (BoxH (hdTo d (textsD Fl) 2) G (wo.alloc (.cells #[.func (.func 143) #[] #[]] 169))) := Lib.hid (HG.out.below ((Below.refl _ _).alloc (Nat.le_refl _) _))
            have HB1 : Hid (Below w.heap.size w (wo.alloc (.cells #[.func (.func 143) #[] #[]] 169))) := Lib.hid (HB.out.alloc HB.out.size _)
            have HF1 : Hid ((wo.alloc (.cells #[.func (.func 143) #[] #[]] 169)).heap[wo.heap.size]? = some (.cells #[.func (.func 143) #[] #[]] 169)) := Lib.hid (heap_alloc_new wo _)
            obtain ⟨c0, c1, c2', c3, c4⟩ := HD1.out.cells
            clear hlt hk
            go_wp2_with (fail)
            generalize (wo.alloc (.cells #[.func (.func 143) #[] #[]] 169)) = wa at *
            generalize wo.heap.size = fb at *
            refine (field_ s 5 d wa (by have := HSZ.out; omega) (by omega) (by omega)).mono ?_
            rintro e wb ⟨rfl, hb5⟩
            rw [← HFL.out]
            have HR2 := Lib.hid (HR1.out.below hb5)
            have HB2 := Lib.hid (HB1.out.trans (hb5.mono HB1.out.size))
            have HD2 := Lib.hid (HD1.out.below hb5)
            have HG2 := Lib.hid (HG1.out.below hb5)
            have cf := cell_of_row wb fb 0 _ _ _ ((hb5.block fb (Array.getElem?_eq_some_iff.1 HF1.out).1).trans HF1.out)
            obtain ⟨x2, bo2, hxb2, hx2⟩ : ∃ x2 bo2, toldV (nthD Fl 5) = .tuple #[.string x2, .bool bo2] ∧ x2 = textsD Fl 2 := ⟨_, _, rfl, congrArg txt (nthD_getD Fl 4)⟩
            rw [hxb2]
            obtain ⟨c0, c1, c2, c3, c4, c5, c6, c7, c8, c9, c10, c11, c12, c13, c14⟩ := HG2.out.cells
            obtain ⟨f0, f1, f2, f3, f4, f5, f6, f7, f8, f9, f10, f11, f12, f13, f14⟩ := HG2.out.frz
            have HX2 := Lib.hid hx2
            clear hb5 hxb2 hx2 c0 c1 c2' c3 c4 HR1 HB1 HD1 HG1 HF1
            obtain ⟨c0, c1, c2, c3, c4, c5, c6, c7, c8, c9, c10, c11, c12, c13, c14⟩ := HG2.out.cells
            go_wp2_with (fail)
            refine (row3_ G wb).mono ?_
            rintro e wc ⟨rfl, rfl⟩
            go_wp2_with (fail)
            rw [HX2.out]
            exact ⟨⟨3, by omega, rfl, hdTo_step2 HG2.out, HD2.out.other HNE.out.2.1 _ _, HR2.out.other HNE.out.1 _ _, HB2.out.setCell (p := ⟨G, 7, none⟩) HNE.out.2.2 _⟩, by simp [intOf]⟩
          | 3, _ =>
            rw [show ((3 : Nat) : Int) = 3 from rfl]
            have i0 : ∀ W, (Instr.index 170 (.agg rowsV) (.int .i64 3)).run Tryz.prog W = .ok (.agg #[.func (.func 144) #[] #[]]) W := fun _ => by kernel_rfl
            have HD1 : Hid (BoxS d D (wo.alloc (.cells #[.func (.func 144) #[] #[]] 169))) := Lib.hid (HD.out.below ((Below.refl _ _).alloc (Nat.le_refl _) _))
            have HR1 : Hid (BoxH Hd.zero w.heap.size (wo.alloc (.cells #[.func (.func 144) #[] #[]] 169))) := Lib.hid (HR.out.below ((Below.refl _ _).alloc (Nat.le_refl _) _))
            have HG1 : Hid (BoxH (hdTo d (textsD Fl) 3) G (wo.alloc (.cells #[.func (.func 144) #[] #[]] 169))) := Lib.hid (HG.out.below ((Below.refl _ _).alloc (Nat.le_refl _) _))
            have HB1 : Hid (Below w.heap.size w (wo.alloc (.cells #[.func (.func 144) #[] #[]] 169))) := Lib.hid (HB.out.alloc HB.out.size _)
            have HF1 : Hid ((wo.alloc (.cells #[.func (.func 144) #[] #[]] 169)).heap[wo.heap.size]? = some (.cells #[.func (.func 144) #[] #[]] 169)) := Lib.hid (heap_alloc_new wo _)
            obtain ⟨c0, c1, c2', c3, c4⟩ := HD1.out.cells
            clear hlt hk
            go_wp2_with (fail)
            generalize (wo.alloc (.cells #[.func (.func 144) #[] #[]] 169)) = wa at *
            generalize wo.heap.size = fb at *
            refine (field_ s 6 d wa (by have := HSZ.out; omega) (by omega) (by omega)).mono ?_
            rintro e wb ⟨rfl, hb5⟩
            rw [← HFL.out]
            have HR2 := Lib.hid (HR1.out.below hb5)
            have HB2 := Lib.hid (HB1.out.trans (hb5.mono HB1.out.size))
            have HD2 := Lib.hid (HD1.out.below hb5)
            have HG2 := Lib.hid (HG1.out.below hb5)
            have cf := cell_of_row wb fb 0 _ _ _ ((hb5.block fb (Array.getElem?_eq_some_iff.1 HF1.out).1).trans HF1.out)
            obtain ⟨x2, bo2, hxb2, hx2⟩ : ∃ x2 bo2, toldV (nthD Fl 6) = .tuple #[.string x2, .bool bo2] ∧ x2 = textsD Fl 3 := ⟨_, _, rfl, congrArg txt (nthD_getD Fl 5)⟩
            rw [hxb2]
            obtain ⟨c0, c1, c2, c3, c4, c5, c6, c7, c8, c9, c10, c11, c12, c13, c14⟩ := HG2.out.cells
            obtain ⟨f0, f1, f2, f3, f4, f5, f6, f7, f8, f9, f10, f11, f12, f13, f14⟩ := HG2.out.frz
            have HX2 := Lib.hid hx2
            clear hb5 hxb2 hx2 c0 c1 c2' c3 c4 HR1 HB1 HD1 HG1 HF1
            obtain ⟨c0, c1, c2, c3, c4, c5, c6, c7, c8, c9, c10, c11, c12, c13, c14⟩ := HG2.out.cells
            go_wp2_with (fail)
            refine (row4_ G wb).mono ?_
            rintro e wc ⟨rfl, rfl⟩
            go_wp2_with (fail)
            rw [HX2.out]
            exact ⟨⟨4, by omega, rfl, hdTo_step3 HG2.out, HD2.out.other HNE.out.2.1 _ _, HR2.out.other HNE.out.1 _ _, HB2.out.setCell (p := ⟨G, 8, none⟩) HNE.out.2.2 _⟩, by simp [intOf]⟩
          | 4, _ =>
            rw [show ((4 : Nat) : Int) = 4 from rfl]
            have i0 : ∀ W, (Instr.index 170 (.agg rowsV) (.int .i64 4)).run Tryz.prog W = .ok (.agg #[.func (.func 145) #[] #[]]) W := fun _ => by kernel_rfl
            have HD1 : Hid (BoxS d D (wo.alloc (.cells #[.func (.func 145) #[] #[]] 169))) := Lib.hid (HD.out.below ((Below.refl _ _).alloc (Nat.le_refl _) _))
            have HR1 : Hid (BoxH Hd.zero w.heap.size (wo.alloc (.cells #[.func (.func 145) #[] #[]] 169))) := Lib.hid (HR.out.below ((Below.refl _ _).alloc (Nat.le_refl _) _))
            have HG1 : Hid (BoxH (hdTo d (textsD Fl) 4) G (wo.alloc (.cells #[.func (.func 145) #[] #[]] 169))) := Lib.hid (HG.out.below ((Below.refl _ _).alloc (Nat.le_refl _) _))
            have HB1 : Hid (Below w.heap.size w (wo.alloc (.cells #[.func (.func 145) #[] #[]] 169))) := Lib.hid (HB.out.alloc HB.out.size _)
            have HF1 : Hid ((wo.alloc (.cells #[.func (.func 145) #[] #[]] 169)).heap[wo.heap.size]? = some (.cells #[.func (.func 145) #[] #[]] 169)) := Lib.hid (heap_alloc_new wo _)
            obtain ⟨c0, c1, c2', c3, c4⟩ := HD1.out.cells
            clear hlt hk
            go_wp2_with (fail)
            generalize (wo.alloc (.cells #[.func (.func 145) #[] #[]] 169)) = wa at *
            generalize wo.heap.size = fb at *
            refine (field_ s 7 d wa (by have := HSZ.out; omega) (by omega) (by omega)).mono ?_
            rintro e wb ⟨rfl, hb5⟩
            rw [← HFL.out]
            have HR2 := Lib.hid (HR1.out.below hb5)
            have HB2 := Lib.hid (HB1.out.trans (hb5.mono HB1.out.size))
            have HD2 := Lib.hid (HD1.out.below hb5)
            have HG2 := Lib.hid (HG1.out.below hb5)
            have cf := cell_of_row wb fb 0 _ _ _ ((hb5.block fb (Array.getElem?_eq_some_iff.1 HF1.out).1).trans HF1.out)
            obtain ⟨x2, bo2, hxb2, hx2⟩ : ∃ x2 bo2, toldV (nthD Fl 7) = .tuple #[.string x2, .bool bo2] ∧ x2 = textsD Fl 4 := ⟨_, _, rfl, congrArg txt (nthD_getD Fl 6)⟩
            rw [hxb2]
            obtain ⟨c0, c1, c2, c3, c4, c5, c6, c7, c8, c9, c10, c11, c12, c13, c14⟩ := HG2.out.cells
            obtain ⟨f0, f1, f2, f3, f4, f5, f6, f7, f8, f9, f10, f11, f12, f13, f14⟩ := HG2.out.frz
            have HX2 := Lib.hid hx2
            clear hb5 hxb2 hx2 c0 c1 c2' c3 c4 HR1 HB1 HD1 HG1 HF1
            obtain ⟨c0, c1, c2, c3, c4, c5, c6, c7, c8, c9, c10, c11, c12, c13, c14⟩ := HG2.out.cells
            go_wp2_with (fail)
            refine (row5_ G wb).mono ?_
            rintro e wc ⟨rfl, rfl⟩
            go_wp2_with (fail)
            rw [HX2.out]
            exact ⟨⟨5, by omega, rfl, hdTo_step4 HG2.out, HD2.out.other HNE.out.2.1 _ _, HR2.out.other HNE.out.1 _ _, HB2.out.setCell (p := ⟨G, 9, none⟩) HNE.out.2.2 _⟩, by simp [intOf]⟩
          | 5, _ =>
            rw [show ((5 : Nat) : Int) = 5 from rfl]
            have i0 : ∀ W, (Instr.index 170 (.agg rowsV) (.int .i64 5)).run Tryz.prog W = .ok (.agg #[.func (.func 146) #[] #[]]) W := fun _ => by kernel_rfl
            have HD1 : Hid (BoxS d D (wo.alloc (.cells #[.func (.func 146) #[] #[]] 169))) := Lib.hid (HD.out.below ((Below.refl _ _).alloc (Nat.le_refl _) _))
            have HR1 : Hid (BoxH Hd.zero w.heap.size (wo.alloc (.cells #[.func (.func 146) #[] #[]] 169))) := Lib.hid (HR.out.below ((Below.refl _ _).alloc (Nat.le_refl _) _))
            have HG1 : Hid (BoxH (hdTo d (textsD Fl) 5) G (wo.alloc (.cells #[.func (.func 146) #[] #[]] 169))) := Lib.hid (HG.out.below ((Below.refl _ _).alloc (Nat.le_refl _) _))
            have HB1 : Hid (Below w.heap.size w (wo.alloc (.cells #[.func (.func 146) #[] #[]] 169))) := Lib.hid (HB.out.alloc HB.out.size _)
            have HF1 : Hid ((wo.alloc (.cells #[.func (.func 146) #[] #[]] 169)).heap[wo.heap.size]? = some (.cells #[.func (.func 146) #[] #[]] 169)) := Lib.hid (heap_alloc_new wo _)
            obtain ⟨c0, c1, c2', c3, c4⟩ := HD1.out.cells
            clear hlt hk
            go_wp2_with (fail)
            generalize (wo.alloc (.cells #[.func (.func 146) #[] #[]] 169)) = wa at *
            generalize wo.heap.size = fb at *
            refine (field_ s 8 d wa (by have := HSZ.out; omega) (by omega) (by omega)).mono ?_
            rintro e wb ⟨rfl, hb5⟩
            rw [← HFL.out]
            have HR2 := Lib.hid (HR1.out.below hb5)
            have HB2 := Lib.hid (HB1.out.trans (hb5.mono HB1.out.size))
            have HD2 := Lib.hid (HD1.out.below hb5)
            have HG2 := Lib.hid (HG1.out.below hb5)
            have cf := cell_of_row wb fb 0 _ _ _ ((hb5.block fb (Array.getElem?_eq_some_iff.1 HF1.out).1).trans HF1.out)
            obtain ⟨x2, bo2, hxb2, hx2⟩ : ∃ x2 bo2, toldV (nthD Fl 8) = .tuple #[.string x2, .bool bo2] ∧ x2 = textsD Fl 5 := ⟨_, _, rfl, congrArg txt (nthD_getD Fl 7)⟩
            rw [hxb2]
            obtain ⟨c0, c1, c2, c3, c4, c5, c6, c7, c8, c9, c10, c11, c12, c13, c14⟩ := HG2.out.cells
            obtain ⟨f0, f1, f2, f3, f4, f5, f6, f7, f8, f9, f10, f11, f12, f13, f14⟩ := HG2.out.frz
            have HX2 := Lib.hid hx2
            clear hb5 hxb2 hx2 c0 c1 c2' c3 c4 HR1 HB1 HD1 HG1 HF1
            obtain ⟨c0, c1, c2, c3, c4, c5, c6, c7, c8, c9, c10, c11, c12, c13, c14⟩ := HG2.out.cells
            go_wp2_with (fail)
            refine (row6_ G wb).mono ?_
            rintro e wc ⟨rfl, rfl⟩
            go_wp2_with (fail)
            rw [HX2.out]
            exact ⟨⟨6, by omega, rfl, hdTo_step5 HG2.out, HD2.out.other HNE.out.2.1 _ _, HR2.out.other HNE.out.1 _ _, HB2.out.setCell (p := ⟨G, 10, none⟩) HNE.out.2.2 _⟩, by simp [intOf]⟩
          | 6, _ =>
            rw [show ((6 : Nat) : Int) = 6 from rfl]
            have i0 : ∀ W, (Instr.index 170 (.agg rowsV) (.int .i64 6)).run Tryz.prog W = .ok (.agg #[.func (.func 147) #[] #[]]) W := fun _ => by kernel_rfl
            have HD1 : Hid (BoxS d D (wo.alloc (.cells #[.func (.func 147) #[] #[]] 169))) := Lib.hid (HD.out.below ((Below.refl _ _).alloc (Nat.le_refl _) _))
            have HR1 : Hid (BoxH Hd.zero w.heap.size (wo.alloc (.cells #[.func (.func 147) #[] #[]] 169))) := Lib.hid (HR.out.below ((Below.refl _ _).alloc (Nat.le_refl _) _))
            have HG1 : Hid (BoxH (hdTo d (textsD Fl) 6) G (wo.alloc (.cells #[.func (.func 147) #[] #[]] 169))) := Lib.hid (HG.out.below ((Below.refl _ _).alloc (Nat.le_refl _) _))
            have HB1 : Hid (Below w.heap.size w (wo.alloc (.cells #[.func (.func 147) #[] #[]] 169))) := Lib.hid (HB.out.alloc HB.out.size _)
            have HF1 : Hid ((wo.alloc (.cells #[.func (.func 147) #[] #[]] 169)).heap[wo.heap.size]? = some (.cells #[.func (.func 147) #[] #[]] 169)) := Lib.hid (heap_alloc_new wo _)
            obtain ⟨c0, c1, c2', c3, c4⟩ := HD1.out.cells
            clear hlt hk
            go_wp2_with (fail)
            generalize (wo.alloc (.cells #[.func (.func 147) #[] #[]] 169)) = wa at *
            generalize wo.heap.size = fb at *
            refine (field_ s 9 d wa (by have := HSZ.out; omega) (by omega) (by omega)).mono ?_
            rintro e wb ⟨rfl, hb5⟩
            rw [← HFL.out]
            have HR2 := Lib.hid (HR1.out.below hb5)
            have HB2 := Lib.hid (HB1.out.trans (hb5.mono HB1.out.size))
            have HD2 := Lib.hid (HD1.out.below hb5)
            have HG2 := Lib.hid (HG1.out.below hb5)
            have cf := cell_of_row wb fb 0 _ _ _ ((hb5.block fb (Array.getElem?_eq_some_iff.1 HF1.out).1).trans HF1.out)
            obtain ⟨x2, bo2, hxb2, hx2⟩ : ∃ x2 bo2, toldV (nthD Fl 9) = .tuple #[.string x2, .bool bo2] ∧ x2 = textsD Fl 6 := ⟨_, _, rfl, congrArg txt (nthD_getD Fl 8)⟩
            rw [hxb2]
            obtain ⟨c0, c1, c2, c3, c4, c5, c6, c7, c8, c9, c10, c11, c12, c13, c14⟩ := HG2.out.cells
            obtain ⟨f0, f1, f2, f3, f4, f5, f6, f7, f8, f9, f10, f11, f12, f13, f14⟩ := HG2.out.frz
            have HX2 := Lib.hid hx2
            clear hb5 hxb2 hx2 c0 c1 c2' c3 c4 HR1 HB1 HD1 HG1 HF1
            obtain ⟨c0, c1, c2, c3, c4, c5, c6, c7, c8, c9, c10, c11, c12, c13, c14⟩ := HG2.out.cells
            go_wp2_with (fail)
            refine (row7_ G wb).mono ?_
            rintro e wc ⟨rfl, rfl⟩
            go_wp2_with (fail)
            rw [HX2.out]
            exact ⟨⟨7, by omega, rfl, hdTo_step6 HG2.out, HD2.out.other HNE.out.2.1 _ _, HR2.out.other HNE.out.1 _ _, HB2.out.setCell (p := ⟨G, 11, none⟩) HNE.out.2.2 _⟩, by simp [intOf]⟩
          | 7, _ =>
            rw [show ((7 : Nat) : Int) = 7 from rfl]
            have i0 : ∀ W, (Instr.index 170 (.agg rowsV) (.int .i64 7)).run Tryz.prog W = .ok (.agg #[.func (.func 148) #[] #[]]) W := fun _ => by kernel_rfl
            have HD1 : Hid (BoxS d D (wo.alloc (.cells #[.func (.func 148) #[] #[]] 169))) := Lib.hid (HD.out.below ((Below.refl _ _).alloc (Nat.le_refl _) _))
            have HR1 : Hid (BoxH Hd.zero w.heap.size (wo.alloc (.cells #[.func (.func 148) #[] #[]] 169))) := Lib.hid (HR.out.below ((Below.refl _ _).alloc (Nat.le_refl _) _))
            have HG1 : Hid (BoxH (hdTo d (textsD Fl) 7) G (wo.alloc (.cells #[.func (.func 148) #[] #[]] 169))) := Lib.hid (HG.out.below ((Below.refl _ _).alloc (Nat.le_refl _) _))
            have HB1 : Hid (Below w.heap.size w (wo.alloc (.cells #[.func (.func 148) #[] #[]] 169))) := Lib.hid (HB.out.alloc HB.out.size _)
            have HF1 : Hid ((wo.alloc (.cells #[.func (.func 148) #[] #[]] 169)).heap[wo.heap.size]? = some (.cells #[.func (.func 148) #[] #[]] 169)) := Lib.hid (heap_alloc_new wo _)
            obtain ⟨c0, c1, c2', c3, c4⟩ := HD1.out.cells
            clear hlt hk
            go_wp2_with (fail)
            generalize (wo.alloc (.cells #[.func (.func 148) #[] #[]] 169)) = wa at *
            generalize wo.heap.size = fb at *
            refine (field_ s 10 d wa (by have := HSZ.out; omega) (by omega) (by omega)).mono ?_
            rintro e wb ⟨rfl, hb5⟩
            rw [← HFL.out]
            have HR2 := Lib.hid (HR1.out.below hb5)
            have HB2 := Lib.hid (HB1.out.trans (hb5.mono HB1.out.size))
            have HD2 := Lib.hid (HD1.out.below hb5)
            have HG2 := Lib.hid (HG1.out.below hb5)
            have cf := cell_of_row wb fb 0 _ _ _ ((hb5.block fb (Array.getElem?_eq_some_iff.1 HF1.out).1).trans HF1.out)
            obtain ⟨x2, bo2, hxb2, hx2⟩ : ∃ x2 bo2, toldV (nthD Fl 10) = .tuple #[.string x2, .bool bo2] ∧ x2 = textsD Fl 7 := ⟨_, _, rfl, congrArg txt (nthD_getD Fl 9)⟩
            rw [hxb2]
            obtain ⟨c0, c1, c2, c3, c4, c5, c6, c7, c8, c9, c10, c11, c12, c13, c14⟩ := HG2.out.cells
            obtain ⟨f0, f1, f2, f3, f4, f5, f6, f7, f8, f9, f10, f11, f12, f13, f14⟩ := HG2.out.frz
            have HX2 := Lib.hid hx2
            clear hb5 hxb2 hx2 c0 c1 c2' c3 c4 HR1 HB1 HD1 HG1 HF1
            obtain ⟨c0, c1, c2, c3, c4, c5, c6, c7, c8, c9, c10, c11, c12, c13, c14⟩ := HG2.out.cells
            go_wp2_with (fail)
            refine (row8_ G wb).mono ?_
            rintro e wc ⟨rfl, rfl⟩
            go_wp2_with (fail)
            rw [HX2.out]
            exact ⟨⟨8, by omega, rfl, hdTo_step7 HG2.out, HD2.out.other HNE.out.2.1 _ _, HR2.out.other HNE.out.1 _ _, HB2.out.setCell (p := ⟨G, 12, none⟩) HNE.out.2.2 _⟩, by simp [intOf]⟩
          | 8, _ =>
            rw [show ((8 : Nat) : Int) = 8 from rfl]
            have i0 : ∀ W, (Instr.index 170 (.agg rowsV) (.int .i64 8)).run Tryz.prog W = .ok (.agg #[.func (.func 149) #[] #[]]) W := fun _ => by kernel_rfl
            have HD1 : Hid (BoxS d D (wo.alloc (.cells #[.func (.func 149) #[] #[]] 169))) := Lib.hid (HD.out.below ((Below.refl _ _).alloc (Nat.le_refl _) _))
            have HR1 : Hid (BoxH Hd.zero w.heap.size (wo.alloc (.cells #[.func (.func 149) #[] #[]] 169))) := Lib.hid (HR.out.below ((Below.refl _ _).alloc (Nat.le_refl _) _))
            have HG1 : Hid (BoxH (hdTo d (textsD Fl) 8) G (wo.alloc (.cells #[.func (.func 149) #[] #[]] 169))) := Lib.hid (HG.out.below ((Below.refl _ _).alloc (Nat.le_refl _) _))
            have HB1 : Hid (Below w.heap.size w (wo.alloc (.cells #[.func (.func 149) #[] #[]] 169))) := Lib.hid (HB.out.alloc HB.out.size _)
            have HF1 : Hid ((wo.alloc (.cells #[.func (.func 149) #[] #[]] 169)).heap[wo.heap.size]? = some (.cells #[.func (.func 149) #[] #[]] 169)) := Lib.hid (heap_alloc_new wo _)
            obtain ⟨c0, c1, c2', c3, c4⟩ := HD1.out.cells
            clear hlt hk
            go_wp2_with (fail)
            generalize (wo.alloc (.cells #[.func (.func 149) #[] #[]] 169)) = wa at *
            generalize wo.heap.size = fb at *
            refine (field_ s 11 d wa (by have := HSZ.out; omega) (by omega) (by omega)).mono ?_
            rintro e wb ⟨rfl, hb5⟩
            rw [← HFL.out]
            have HR2 := Lib.hid (HR1.out.below hb5)
            have HB2 := Lib.hid (HB1.out.trans (hb5.mono HB1.out.size))
            have HD2 := Lib.hid (HD1.out.below hb5)
            have HG2 := Lib.hid (HG1.out.below hb5)
            have cf := cell_of_row wb fb 0 _ _ _ ((hb5.block fb (Array.getElem?_eq_some_iff.1 HF1.out).1).trans HF1.out)
            obtain ⟨x2, bo2, hxb2, hx2⟩ : ∃ x2 bo2, toldV (nthD Fl 11) = .tuple #[.string x2, .bool bo2] ∧ x2 = textsD Fl 8 := ⟨_, _, rfl, congrArg txt (nthD_getD Fl 10)⟩
            rw [hxb2]
            obtain ⟨c0, c1, c2, c3, c4, c5, c6, c7, c8, c9, c10, c11, c12, c13, c14⟩ := HG2.out.cells
            obtain ⟨f0, f1, f2, f3, f4, f5, f6, f7, f8, f9, f10, f11, f12, f13, f14⟩ := HG2.out.frz
            have HX2 := Lib.hid hx2
            clear hb5 hxb2 hx2 c0 c1 c2' c3 c4 HR1 HB1 HD1 HG1 HF1
            obtain ⟨c0, c1, c2, c3, c4, c5, c6, c7, c8, c9, c10, c11, c12, c13, c14⟩ := HG2.out.cells
            go_wp2_with (fail)
            refine (row9_ G wb).mono ?_
            rintro e wc ⟨rfl, rfl⟩
            go_wp2_with (fail)
            rw [HX2.out]
            exact ⟨⟨9, by omega, rfl, hdTo_step8 HG2.out, HD2.out.other HNE.out.2.1 _ _, HR2.out.other HNE.out.1 _ _, HB2.out.setCell (p := ⟨G, 13, none⟩) HNE.out.2.2 _⟩, by simp [intOf]⟩
          | 9, _ =>
            rw [show ((9 : Nat) : Int) = 9 from rfl]
            have i0 : ∀ W, (Instr.index 170 (.agg rowsV) (.int .i64 9)).run Tryz.prog W = .ok (.agg #[.func (.func 150) #[] #[]]) W := fun _ => by kernel_rfl
            have HD1 : Hid (BoxS d D (wo.alloc (.cells #[.func (.func 150) #[] #[]] 169))) := Lib.hid (HD.out.below ((Below.refl _ _).alloc (Nat.le_refl _) _))
            have HR1 : Hid (BoxH Hd.zero w.heap.size (wo.alloc (.cells #[.func (.func 150) #[] #[]] 169))) := Lib.hid (HR.out.below ((Below.refl _ _).alloc (Nat.le_refl _) _))
            have HG1 : Hid (BoxH (hdTo d (textsD Fl) 9) G (wo.alloc (.cells #[.func (.func 150) #[] #[]] 169))) := Lib.hid (HG.out.below ((Below.refl _ _).alloc (Nat.le_refl _) _))
            have HB1 : Hid (Below w.heap.size w (wo.alloc (.cells #[.func (.func 150) #[] #[]] 169))) := Lib.hid (HB.out.alloc HB.out.size _)
            have HF1 : Hid ((wo.alloc (.cells #[.func (.func 150) #[] #[]] 169)).heap[wo.heap.size]? = some (.cells #[.func (.func 150) #[] #[]] 169)) := Lib.hid (heap_alloc_new wo _)
            obtain ⟨c0, c1, c2', c3, c4⟩ := HD1.out.cells
            clear hlt hk
            go_wp2_with (fail)
            generalize (wo.alloc (.cells #[.func (.func 150) #[] #[]] 169)) = wa at *
            generalize wo.heap.size = fb at *
            refine (field_ s 12 d wa (by have := HSZ.out; omega) (by omega) (by omega)).mono ?_
            rintro e wb ⟨rfl, hb5⟩
            rw [← HFL.out]
            have HR2 := Lib.hid (HR1.out.below hb5)
            have HB2 := Lib.hid (HB1.out.trans (hb5.mono HB1.out.size))
            have HD2 := Lib.hid (HD1.out.below hb5)
            have HG2 := Lib.hid (HG1.out.below hb5)
            have cf := cell_of_row wb fb 0 _ _ _ ((hb5.block fb (Array.getElem?_eq_some_iff.1 HF1.out).1).trans HF1.out)
            obtain ⟨x2, bo2, hxb2, hx2⟩ : ∃ x2 bo2, toldV (nthD Fl 12) = .tuple #[.string x2, .bool bo2] ∧ x2 = textsD Fl 9 := ⟨_, _, rfl, congrArg txt (nthD_getD Fl 11)⟩
            rw [hxb2]
            obtain ⟨c0, c1, c2, c3, c4, c5, c6, c7, c8, c9, c10, c11, c12, c13, c14⟩ := HG2.out.cells
            obtain ⟨f0, f1, f2, f3, f4, f5, f6, f7, f8, f9, f10, f11, f12, f13, f14⟩ := HG2.out.frz
            have HX2 := Lib.hid hx2
            clear hb5 hxb2 hx2 c0 c1 c2' c3 c4 HR1 HB1 HD1 HG1 HF1
            obtain ⟨c0, c1, c2, c3, c4, c5, c6, c7, c8, c9, c10, c11, c12, c13, c14⟩ := HG2.out.cells
            go_wp2_with (fail)
            refine (row10_ G wb).mono ?_
            rintro e wc ⟨rfl, rfl⟩
            go_wp2_with (fail)
            rw [HX2.out]
            exact ⟨⟨10, by omega, rfl, hdTo_step9 HG2.out, HD2.out.other HNE.out.2.1 _ _, HR2.out.other HNE.out.1 _ _, HB2.out.setCell (p := ⟨G, 14, none⟩) HNE.out.2.2 _⟩, by simp [intOf]⟩
        · obtain rfl : k = 10 := by omega
          clear hlt hk
          obtain ⟨c0, c1, c2, c3, c4, c5, c6, c7, c8, c9, c10, c11, c12, c13, c14⟩ := HG.out.cells
          obtain ⟨e0, e1, e2, e3, e4, e5, e6, e7, e8, e9, e10, e11, e12, e13, e14⟩ := HR.out.cells
          obtain ⟨f0, f1, f2, f3, f4, f5, f6, f7, f8, f9, f10, f11, f12, f13, f14⟩ := HR.out.frz
          go_wp2_with (fail)
          change bodyPost _ _ _ _ _ (setHd wo w.heap.size (hdTo d (textsD Fl) 10))
          have HR3 := Lib.hid (setHd_row HR.out (hdTo d (textsD Fl) 10))
          have HB3 := Lib.hid (setHd_below HB.out (Nat.le_refl _) (hdTo d (textsD Fl) 10))
          generalize setHd wo w.heap.size (hdTo d (textsD Fl) 10) = w3' at *
          clear c0 c1 c2 c3 c4 c5 c6 c7 c8 c9 c10 c11 c12 c13 c14 e0 e1 e2 e3 e4 e5 e6 e7 e8 e9 e10 e11 e12 e13 e14 f0 f1 f2 f3 f4 f5 f6 f7 f8 f9 f10 f11 f12 f13 f14
          obtain ⟨c0, c1, c2, c3, c4, c5, c6, c7, c8, c9, c10, c11, c12, c13, c14⟩ := HR3.out.cells
          refine bodyPost_ret (v := .tuple #[(hdTo d (textsD Fl) 10).v, .int .i64 0]) ?_ rfl ⟨by rw [HE.out], HB3.out⟩
          simp [results, Tryz.results70, go_sem, *]
    · have HE : Hid (readH l = (Hd.zero, 11)) := Lib.hid (by rw [HE0.out, if_neg hq])
      have hst : ((txt x).toList == (txt [d.b, d.c, d.d, d.e]).toList) = false := strEq_f (fun e => hq (by have := congrArg (fun b : ByteArray => b.data.toList) e; simpa using this))
      have hst2 : (x == [d.b, d.c, d.d, d.e]) = false := by simpa using hq
      obtain ⟨c0, c1, c2', c3, c4⟩ := HD5.out.cells
      clear hq
      obtain ⟨e0, e1, e2, e3, e4, e5, e6, e7, e8, e9, e10, e11, e12, e13, e14⟩ := HR5.out.cells
      obtain ⟨f0, f1, f2, f3, f4, f5, f6, f7, f8, f9, f10, f11, f12, f13, f14⟩ := HR5.out.frz
      go_wp2_with (fail)
      change bodyPost _ _ _ _ _ (setHd w5 w.heap.size Hd.zero)
      have HR6 := Lib.hid (setHd_row HR5.out Hd.zero)
      have HB6 := Lib.hid (setHd_below HB5.out (Nat.le_refl _) Hd.zero)
      generalize setHd w5 w.heap.size Hd.zero = w6 at *
      clear c0 c1 c2' c3 c4 e0 e1 e2 e3 e4 e5 e6 e7 e8 e9 e10 e11 e12 e13 e14 f0 f1 f2 f3 f4 f5 f6 f7 f8 f9 f10 f11 f12 f13 f14
      obtain ⟨c0, c1, c2, c3, c4, c5, c6, c7, c8, c9, c10, c11, c12, c13, c14⟩ := HR6.out.cells
      refine bodyPost_ret (v := .tuple #[Hd.zero.v, .int .i64 11]) ?_ rfl ⟨by rw [HE.out], HB6.out⟩
      simp [results, Tryz.results70, go_sem, *]
  · have HE : Hid (readH l = (Hd.zero, (readD l).2)) := Lib.hid (if_neg he)
    have de : (((readD l).2) == 0) = false := by simpa using he
    obtain ⟨D, hD⟩ : ∃ D, D = readD l := ⟨_, rfl⟩
    rw [← hD] at HE de ⊢
    clear hD
    have HR2 : Hid (BoxH Hd.zero w.heap.size (w1.alloc (.cells #[.int .u8 (D.1.a.toNat : Int), .int .u8 (D.1.b.toNat : Int), .int .u8 (D.1.c.toNat : Int), .int .u8 (D.1.d.toNat : Int), .int .u8 (D.1.e.toNat : Int)] 109))) := Lib.hid (HR1.out.below ((Below.refl _ _).alloc (Nat.le_refl _) _))
    have HB2 : Hid (Below w.heap.size w (w1.alloc (.cells #[.int .u8 (D.1.a.toNat : Int), .int .u8 (D.1.b.toNat : Int), .int .u8 (D.1.c.toNat : Int), .int .u8 (D.1.d.toNat : Int), .int .u8 (D.1.e.toNat : Int)] 109))) := Lib.hid (HB1.out.alloc HB1.out.size _)
    obtain ⟨c0, c1, c2, c3, c4, c5, c6, c7, c8, c9, c10, c11, c12, c13, c14⟩ := HR2.out.cells
    obtain ⟨f0, f1, f2, f3, f4, f5, f6, f7, f8, f9, f10, f11, f12, f13, f14⟩ := HR2.out.frz
    clear he
    go_wp2_with (fail)
    change bodyPost _ _ _ _ _ (setHd (w1.alloc (.cells #[.int .u8 (D.1.a.toNat : Int), .int .u8 (D.1.b.toNat : Int), .int .u8 (D.1.c.toNat : Int), .int .u8 (D.1.d.toNat : Int), .int .u8 (D.1.e.toNat : Int)] 109)) w.heap.size Hd.zero)
    have HR3 := Lib.hid (setHd_row HR2.out Hd.zero)
    have HB3 := Lib.hid (setHd_below HB2.out (Nat.le_refl _) Hd.zero)
    generalize setHd (w1.alloc (.cells #[.int .u8 (D.1.a.toNat : Int), .int .u8 (D.1.b.toNat : Int), .int .u8 (D.1.c.toNat : Int), .int .u8 (D.1.d.toNat : Int), .int .u8 (D.1.e.toNat : Int)] 109)) w.heap.size Hd.zero = w3 at *
    clear c0 c1 c2 c3 c4 c5 c6 c7 c8 c9 c10 c11 c12 c13 c14 f0 f1 f2 f3 f4 f5 f6 f7 f8 f9 f10 f11 f12 f13 f14
    obtain ⟨c0, c1, c2, c3, c4, c5, c6, c7, c8, c9, c10, c11, c12, c13, c14⟩ := HR3.out.cells
    refine bodyPost_ret (v := .tuple #[Hd.zero.v, .int .i64 D.2]) ?_ rfl ⟨by rw [HE.out], HB3.out⟩
    simp [results, Tryz.results70, go_sem, *]
end Go.Proofs.YtodjilljcjkacaaGreatDoor
/- Layer 9: a head written, walked. -/
namespace Go.Proofs.YtodjilljcjkacaaGreatDoor
open Go.RowKit

theorem mem_lens : ∀ {T : List (List UInt8)} {x : List UInt8}, x ∈ T → x.length ≤ Lib.lens T
  | a :: r, x, h => by
    have e : Lib.lens (a :: r) = a.length + Lib.lens r := by simp [Lib.lens]
    rw [e]
    rcases List.mem_cons.1 h with rfl | h
    · omega
    · have := mem_lens h; omega
theorem OwnS.twoH (w : World) (x y : List UInt8) (base : Nat) (hb : base ≤ w.heap.size) : OwnS (w.alloc (.cells #[str x, str y] 9)) base (.slice (some ⟨w.heap.size, 0, none⟩) 2 2) [x, y] :=
  ⟨by simp, .inr ⟨w.heap.size, 2, #[str x, str y], rfl, hb, heap_alloc_new w _, Nat.le_refl _, by simp [maxLen], by simp, by simp⟩⟩
/-- may a text stand in a field -/
def standD (c : UInt8) (x : ByteArray) : Bool := !x.data.toList.contains c && !x.data.toList.contains 13
theorem index_lt (l : List UInt8) (c : UInt8) : decide (Lib.indexByte l c < 0) = !l.contains c := by
  rw [← indexByte_has l c]
  by_cases h : Lib.indexByte l c < 0
  · simp [h]
  · simp [h]; omega
set_option maxHeartbeats 1000000 in
theorem mayStand_ (x : ByteArray) (d : Sgn) (w : World) : Calls Tryz.prog 160 #[.string x, d.v] w fun e w' => e = .returned (.bool (standD d.a x)) ∧ Below w.heap.size w w' := by
  have HX0 : Hid (BoxS d w.heap.size (boxSgn d w)) := Lib.hid (heap_alloc_new w _)
  have HB0 := Lib.hid (boxSgn_below d w)
  obtain ⟨c0, c1, c2, c3, c4⟩ := HX0.out.cells
  have HI1 := Lib.hid (index_lt x.data.toList d.a)
  have HI2 := Lib.hid (index_lt x.data.toList 13)
  go_enter Tryz.func160, Tryz.ntmps160
  go_wp2_with (fail)
  refine (Tryz.strings_IndexByte x (d.a.toNat : Int) _).mono ?_
  rintro e w1 ⟨rfl, rfl⟩
  rw [u8_back]
  cases h1 : x.data.toList.contains d.a
  · have d1 : decide (Lib.indexByte x.data.toList d.a < 0) = true := by rw [HI1.out, h1]; rfl
    have d1' : Lib.indexByte x.data.toList d.a < 0 := of_decide_eq_true d1
    go_wp2_with (fail)
    refine (Tryz.strings_IndexByte x 13 _).mono ?_
    rintro e w1 ⟨rfl, rfl⟩
    rw [show (13 : Int).toNat.toUInt8 = 13 from rfl]
    cases h2 : x.data.toList.contains 13
    · have d2 : decide (Lib.indexByte x.data.toList 13 < 0) = true := by rw [HI2.out, h2]; rfl
      have d2' : Lib.indexByte x.data.toList 13 < 0 := of_decide_eq_true d2
      have HE : Hid (standD d.a x = true) := Lib.hid (by unfold standD; rw [h1, h2]; rfl)
      go_wp2_with (fail)
      go_ret
      rw [HE.out]; exact ⟨rfl, HB0.out⟩
    · have d2 : decide (Lib.indexByte x.data.toList 13 < 0) = false := by rw [HI2.out, h2]; rfl
      have d2' : ¬ Lib.indexByte x.data.toList 13 < 0 := of_decide_eq_false d2
      have HE : Hid (standD d.a x = false) := Lib.hid (by unfold standD; rw [h1, h2]; rfl)
      go_wp2_with (fail)
      go_ret
      rw [HE.out]; exact ⟨rfl, HB0.out⟩
  · have d1 : decide (Lib.indexByte x.data.toList d.a < 0) = false := by rw [HI1.out, h1]; rfl
    have d1' : ¬ Lib.indexByte x.data.toList d.a < 0 := of_decide_eq_false d1
    have HE : Hid (standD d.a x = false) := Lib.hid (by unfold standD; rw [h1]; rfl)
    go_wp2_with (fail)
    go_ret
    rw [HE.out]; exact ⟨rfl, HB0.out⟩

/-- the number of a head's fields as far as its text number k: two signs' fields, and as far as the last that isn't empty -/
def filledD (l : List ByteArray) : Nat → Nat
  | 0 => 2
  | k + 1 => if (l.getD k ⟨#[]⟩).toList.isEmpty then filledD l k else k + 3
theorem filledD_le (l : List ByteArray) : ∀ k, filledD l k ≤ k + 2
  | 0 => Nat.le_refl _
  | k + 1 => by
    have := filledD_le l k
    unfold filledD
    split <;> omega
/-- the fields of a head -/
def rowH (h : Hd) : List (List UInt8) := [h.d.a] :: [h.d.b, h.d.c, h.d.d, h.d.e] :: h.l.map (·.data.toList)
/-- a head's segment, and why there is none -/
def writeH (h : Hd) : List UInt8 × Int :=
  if h.d.good = true then
    if h.l.all (standD h.d.a) = true then (makeD mshB h.d.a ((rowH h).take (filledD h.l 10)), 0) else ([], 10)
  else ([], 11)

theorem rowH_len (h : Hd) : (rowH h).length = 12 := rfl
theorem Hd.l_len (h : Hd) : h.l.length = 10 := rfl
theorem rowH_take (h : Hd) (k : Nat) (hk : k < 10) : (rowH h).take (k + 2) ++ [(h.l.getD k ⟨#[]⟩).data.toList] = (rowH h).take (k + 1 + 2) := by
  match k, hk with
  | 0, _ => rfl
  | 1, _ => rfl
  | 2, _ => rfl
  | 3, _ => rfl
  | 4, _ => rfl
  | 5, _ => rfl
  | 6, _ => rfl
  | 7, _ => rfl
  | 8, _ => rfl
  | 9, _ => rfl
theorem Hd.cells_at (h : Hd) (k : Nat) (hk : k < 10) : h.cells[5 + k]? = some (.string (h.l.getD k ⟨#[]⟩)) := by
  match k, hk with
  | 0, _ => rfl
  | 1, _ => rfl
  | 2, _ => rfl
  | 3, _ => rfl
  | 4, _ => rfl
  | 5, _ => rfl
  | 6, _ => rfl
  | 7, _ => rfl
  | 8, _ => rfl
  | 9, _ => rfl
theorem BoxH.text {h : Hd} {g : Nat} {w : World} (b : BoxH h g w) (k : Nat) (hk : k < 10) : w.cell? ⟨g, 5 + k, none⟩ = some (.string (h.l.getD k ⟨#[]⟩)) := by
  rw [cell_of_row w g (5 + k) _ _ _ b]; exact h.cells_at k hk
theorem Hd.text_mem (h : Hd) (k : Nat) (hk : k < 10) : h.l.getD k ⟨#[]⟩ ∈ h.l := by
  rw [List.getD_eq_getElem?_getD, List.getElem?_eq_getElem (by rw [h.l_len]; exact hk)]
  exact List.getElem_mem _
theorem Hd.take_all (h : Hd) (p : ByteArray → Bool) (k : Nat) (hk : k < 10) (h1 : (h.l.take k).all p = true) (h2 : p (h.l.getD k ⟨#[]⟩) = true) : (h.l.take (k + 1)).all p = true := by
  rw [List.take_succ_eq_append_getElem (by rw [h.l_len]; exact hk), List.all_append, h1]
  have e : h.l.getD k ⟨#[]⟩ = h.l[k]'(by rw [h.l_len]; exact hk) := by
    rw [List.getD_eq_getElem?_getD, List.getElem?_eq_getElem (by rw [h.l_len]; exact hk)]; rfl
  rw [e] at h2
  simp [h2]
theorem filledD_step (h : Hd) (k : Nat) : filledD h.l (k + 1) = if (h.l.getD k ⟨#[]⟩).toList.isEmpty then filledD h.l k else k + 3 := rfl
/-- the function behind each text's number -/
theorem rowsAt (k : Nat) (hk : k < 10) : ∃ F : Nat, (∀ W : World, (Instr.index 170 (.agg rowsV) (.int .i64 (k : Int))).run Tryz.prog W = .ok (.agg #[.func (.func F) #[] #[]]) W) ∧ (∀ (args : Array Value) (w : World), (callFunc F args).run Tryz.prog w = .ok (.enter F args) w) ∧ (∀ (g : Nat) (W : World), Calls Tryz.prog F #[.pointer (some ⟨g, 0, none⟩)] W fun e w' => e = .returned (.pointer (some ⟨g, 5 + k, none⟩)) ∧ w' = W) := by
  match k, hk with
  | 0, _ => exact ⟨_, fun _ => by kernel_rfl, fun args w => Go.MuLone.run_callFunc_enter Tryz.func141 (by kernel_rfl) rfl args w, fun g W => row1_ g W⟩
  | 1, _ => exact ⟨_, fun _ => by kernel_rfl, fun args w => Go.MuLone.run_callFunc_enter Tryz.func142 (by kernel_rfl) rfl args w, fun g W => row2_ g W⟩
  | 2, _ => exact ⟨_, fun _ => by kernel_rfl, fun args w => Go.MuLone.run_callFunc_enter Tryz.func143 (by kernel_rfl) rfl args w, fun g W => row3_ g W⟩
  | 3, _ => exact ⟨_, fun _ => by kernel_rfl, fun args w => Go.MuLone.run_callFunc_enter Tryz.func144 (by kernel_rfl) rfl args w, fun g W => row4_ g W⟩
  | 4, _ => exact ⟨_, fun _ => by kernel_rfl, fun args w => Go.MuLone.run_callFunc_enter Tryz.func145 (by kernel_rfl) rfl args w, fun g W => row5_ g W⟩
  | 5, _ => exact ⟨_, fun _ => by kernel_rfl, fun args w => Go.MuLone.run_callFunc_enter Tryz.func146 (by kernel_rfl) rfl args w, fun g W => row6_ g W⟩
  | 6, _ => exact ⟨_, fun _ => by kernel_rfl, fun args w => Go.MuLone.run_callFunc_enter Tryz.func147 (by kernel_rfl) rfl args w, fun g W => row7_ g W⟩
  | 7, _ => exact ⟨_, fun _ => by kernel_rfl, fun args w => Go.MuLone.run_callFunc_enter Tryz.func148 (by kernel_rfl) rfl args w, fun g W => row8_ g W⟩
  | 8, _ => exact ⟨_, fun _ => by kernel_rfl, fun args w => Go.MuLone.run_callFunc_enter Tryz.func149 (by kernel_rfl) rfl args w, fun g W => row9_ g W⟩
  | 9, _ => exact ⟨_, fun _ => by kernel_rfl, fun args w => Go.MuLone.run_callFunc_enter Tryz.func150 (by kernel_rfl) rfl args w, fun g W => row10_ g W⟩
end Go.Proofs.YtodjilljcjkacaaGreatDoor
/- Layer 8: the fields of a segment that was made of them, as lists of bytes. -/
namespace Go.Proofs.YtodjilljcjkacaaGreatDoor
open Go.RowKit Go.Lib

theorem getD_some (T : List (List UInt8)) (k : Nat) (hk : k < T.length) : T[k]? = some (T.getD k []) := by
  rw [List.getD_eq_getElem?_getD, List.getElem?_eq_getElem hk]; rfl
theorem mkTo_plain (name : ByteArray) (c : UInt8) (T : List (List UInt8)) (hn : name ≠ mshB) : ∀ k, k ≤ T.length → mkTo name c T k = name.data.toList ++ joinTail [c] (T.take k)
  | 0, _ => by simp [mkTo, joinTail]
  | k + 1, h => by
    have ih := mkTo_plain name c T hn k (by omega)
    have hs : sepD name c k = [c] := if_neg fun h => hn h.1
    rw [joinTail_take_succ [c] T k _ (getD_some T k (by omega))]
    simp only [mkTo, ih, hs, List.append_assoc]
theorem makeD_plain (name : ByteArray) (c : UInt8) (T : List (List UInt8)) (hn : name ≠ mshB) : makeD name c T = name.data.toList ++ joinTail [c] T := by
  unfold makeD
  rw [mkTo_plain name c T hn _ (Nat.le_refl _), List.take_length]
theorem mkTo_head (c : UInt8) (a b : List UInt8) (r : List (List UInt8)) : ∀ k, k ≤ r.length → mkTo mshB c (a :: b :: r) (k + 2) = [77, 83, 72] ++ a ++ b ++ joinTail [c] (r.take k)
  | 0, _ => by
    have h0 : sepD mshB c 0 = [] := if_pos ⟨rfl, by omega⟩
    have h1 : sepD mshB c 1 = [] := if_pos ⟨rfl, by omega⟩
    simp [mkTo, joinTail, h0, h1]
  | k + 1, h => by
    have ih := mkTo_head c a b r k (by omega)
    have hs : sepD mshB c (k + 2) = [c] := if_neg fun h => by have := h.2; omega
    rw [joinTail_take_succ [c] r k _ (getD_some r k (by omega))]
    rw [show mkTo mshB c (a :: b :: r) (k + 1 + 2) = mkTo mshB c (a :: b :: r) (k + 2) ++ sepD mshB c (k + 2) ++ (a :: b :: r).getD (k + 2) [] from rfl, ih, hs]
    simp only [List.getD_cons_succ, List.append_assoc]
theorem makeD_head (c : UInt8) (a b : List UInt8) (r : List (List UInt8)) : makeD mshB c (a :: b :: r) = [77, 83, 72] ++ a ++ b ++ joinTail [c] r := by
  unfold makeD
  rw [show (a :: b :: r).length = r.length + 2 from rfl, mkTo_head c a b r _ (Nat.le_refl _), List.take_length]

end Go.Proofs.YtodjilljcjkacaaGreatDoor
/- Layer 9: a head that is written, with a 13 behind, is read as that head. -/
namespace Go.Proofs.YtodjilljcjkacaaGreatDoor
open Go.RowKit Lib

theorem good_signs {s : Sgn} (h : s.good = true) : (∀ x ∈ s.l, isSign x.toNat = true) ∧ s.a ∉ [s.b, s.c, s.d, s.e] := by
  obtain ⟨a, b, c, d, e⟩ := s
  simp only [Sgn.good, goodTo, Sgn.l, Bool.and_eq_true, Bool.not_eq_true', List.take_zero, List.take_succ_cons] at h
  obtain ⟨⟨⟨⟨⟨⟨⟨⟨⟨⟨_, h1⟩, _⟩, h2⟩, q2⟩, h3⟩, q3⟩, h4⟩, q4⟩, h5⟩, q5⟩ := h
  simp only [List.getD_cons_zero, List.getD_cons_succ, List.contains_cons, List.contains_nil, Bool.or_false, Bool.or_eq_false_iff, beq_eq_false_iff_ne] at h1 h2 h3 h4 h5 q2 q3 q4 q5
  refine ⟨fun x hx => ?_, fun hm => ?_⟩
  · simp only [Sgn.l, List.mem_cons, List.not_mem_nil, or_false] at hx
    rcases hx with rfl | rfl | rfl | rfl | rfl <;> assumption
  · simp only [List.mem_cons, List.not_mem_nil, or_false] at hm
    rcases hm with e1 | e1 | e1 | e1
    · exact q2 e1.symm
    · exact q3.1 e1.symm
    · exact q4.1 e1.symm
    · exact q5.1 e1.symm
theorem filledD_ge (l : List ByteArray) : ∀ k, 2 ≤ filledD l k
  | 0 => Nat.le_refl _
  | k + 1 => by
    have := filledD_ge l k
    unfold filledD
    split <;> omega
theorem cutAt_front (c : UInt8) : ∀ (m l : List UInt8), c ∉ m → cutAt c (m ++ c :: l) = m :: cutAt c l
  | [], l, _ => by simp [cutAt]
  | x :: r, l, h => by
    simp only [List.mem_cons, not_or] at h
    rw [List.cons_append]
    conv => lhs; unfold cutAt
    rw [if_neg (fun e => h.1 e.symm), cutAt_front c r l h.2]
/-- the texts of a head that are written -/
def rowK (h : Hd) : List (List UInt8) := (h.l.map (·.data.toList)).take (filledD h.l 10 - 2)
theorem rowH_take_eq (h : Hd) : (rowH h).take (filledD h.l 10) = [h.d.a] :: [h.d.b, h.d.c, h.d.d, h.d.e] :: rowK h := by
  have h2 := filledD_ge h.l 10
  obtain ⟨k, hk⟩ : ∃ k, filledD h.l 10 = k + 2 := ⟨filledD h.l 10 - 2, by omega⟩
  unfold rowK rowH
  rw [hk]
  rfl
/-- a head's segment -/
def segH (h : Hd) : List UInt8 := makeD mshB h.d.a ((rowH h).take (filledD h.l 10))
theorem segH_eq (h : Hd) : segH h = [77, 83, 72, h.d.a, h.d.b, h.d.c, h.d.d, h.d.e] ++ joinTail [h.d.a] (rowK h) := by
  unfold segH
  rw [rowH_take_eq, makeD_head]
  rfl
theorem writeH_good {h : Hd} (hg : h.d.good = true) (hs : h.l.all (standD h.d.a) = true) : writeH h = (segH h, 0) := by
  unfold writeH
  rw [if_pos hg, if_pos hs]; rfl
end Go.Proofs.YtodjilljcjkacaaGreatDoor
/- Layer 9: a head written, walked. -/
namespace Go.Proofs.YtodjilljcjkacaaGreatDoor
open Go.RowKit

set_option maxHeartbeats 16000000 in
set_option maxRecDepth 100000 in
theorem write_ (h : Hd) (w : World) (hb : Lib.lens (h.l.map (·.data.toList)) ≤ 1000000) :
    Calls Tryz.prog 115 #[h.v] w fun e w' => e = .returned (.tuple #[str (writeH h).1, .int .i64 (writeH h).2]) ∧ Below w.heap.size w w' := by
  have HX0 := Lib.hid (BoxH.new h w)
  have HB0 := Lib.hid (boxHd_below h w)
  have HLB := Lib.hid hb
  have HW : Hid (writeH h = if h.d.good = true then if h.l.all (standD h.d.a) = true then (makeD mshB h.d.a ((rowH h).take (filledD h.l 10)), 0) else ([], 10) else ([], 11)) := Lib.hid rfl
  clear hb
  go_enter Tryz.func115, Tryz.ntmps115
  obtain ⟨c0, c1, c2, c3, c4, c5, c6, c7, c8, c9, c10, c11, c12, c13, c14⟩ := HX0.out.cells
  go_wp2_with (fail)
  generalize w.alloc (.cells #[u8 h.d.a, u8 h.d.b, u8 h.d.c, u8 h.d.d, u8 h.d.e, .string h.a0, .string h.a1, .string h.a2, .string h.a3, .string h.a4, .string h.a5, .string h.a6, .string h.a7, .string h.a8, .string h.a9] TH) = w0 at *
  refine (delimRight h.d w0).mono ?_
  rintro e w1 ⟨rfl, hb1⟩
  have HX1 := Lib.hid (HX0.out.below hb1)
  have HB1 := Lib.hid (HB0.out.trans (hb1.mono HB0.out.size))
  clear hb1 c0 c1 c2 c3 c4 c5 c6 c7 c8 c9 c10 c11 c12 c13 c14 HX0 HB0
  cases hg : h.d.good
  · have HE : Hid (writeH h = ([], 11)) := Lib.hid (by rw [HW.out, hg]; rfl)
    go_wp2_with (fail)
    go_ret2
    exact ⟨by rw [HE.out]; rfl, HB1.out⟩
  · have HE : Hid (writeH h = if h.l.all (standD h.d.a) = true then (makeD mshB h.d.a ((rowH h).take (filledD h.l 10)), 0) else ([], 10)) := Lib.hid (by rw [HW.out, hg]; rfl)
    go_wp2_with (fail)
    have HBS : Hid (Bs (w1.alloc (.cells #[u8 h.d.a] 5)) (some ⟨w1.heap.size, 0, none⟩) 1 1 [h.d.a]) := Lib.hid (Bs.lit w1 [h.d.a] 5 _ _ rfl rfl rfl (by simp [maxLen]))
    have HGW : Hid (w.heap.size < w1.heap.size) := Lib.hid (Array.getElem?_eq_some_iff.1 HX1.out).1
    go_cut [4] (fun x wx => ∃ g : Nat, x = .slice (some ⟨g, 0, none⟩) 2 2 ∧ OwnS wx w1.heap.size (.slice (some ⟨g, 0, none⟩) 2 2) [[h.d.a], [h.d.b, h.d.c, h.d.d, h.d.e]] ∧ Below w1.heap.size w1 wx)
    case first =>
      as_aux_lemma =>
        have hcv : ∀ W : World, (convert 40 9 (.slice (some ⟨W.heap.size, 0, none⟩) 1 1)).run Tryz.prog (W.alloc (.cells #[u8 h.d.a] 5)) = .ok (str [h.d.a]) (W.alloc (.cells #[u8 h.d.a] 5)) := fun W => (Bs.lit W [h.d.a] 5 _ _ rfl rfl rfl (by simp [maxLen])).str (P := Tryz.prog) 40 5 9 Tryz.underlying40 Tryz.underlying5 Tryz.underlying9
        have hcd : (convert 40 9 (.slice (some ⟨w1.heap.size, 0, none⟩) 1 1)).run Tryz.prog (w1.alloc (.cells #[u8 h.d.a] 5)).drew = .ok (str [h.d.a]) (w1.alloc (.cells #[u8 h.d.a] 5)).drew := (HBS.out.drew).str (P := Tryz.prog) 40 5 9 Tryz.underlying40 Tryz.underlying5 Tryz.underlying9
        have HCW : Hid (∀ wA : World, Below (w1.alloc (.cells #[u8 h.d.a] 5)).heap.size (w1.alloc (.cells #[u8 h.d.a] 5)).drew wA → (convert 40 9 (.slice (some ⟨w1.heap.size, 0, none⟩) 1 1)).run Tryz.prog wA = .ok (str [h.d.a]) wA) := Lib.hid (fun wA hA => (HBS.out.drew.below hA).str (P := Tryz.prog) 40 5 9 Tryz.underlying40 Tryz.underlying5 Tryz.underlying9)
        have q0 : ∀ o1 : Obj, (w1.alloc o1).cell? ⟨w.heap.size, 0, none⟩ = some (u8 h.d.a) := fun o1 => cell_of_row _ w.heap.size 0 _ _ _ (HX1.out.below ((Below.refl _ _).alloc (Nat.le_refl _) o1))
        have q1 : ∀ o1 : Obj, (w1.alloc o1).cell? ⟨w.heap.size, 1, none⟩ = some (u8 h.d.b) := fun o1 => cell_of_row _ w.heap.size 1 _ _ _ (HX1.out.below ((Below.refl _ _).alloc (Nat.le_refl _) o1))
        have q2 : ∀ o1 : Obj, (w1.alloc o1).cell? ⟨w.heap.size, 2, none⟩ = some (u8 h.d.c) := fun o1 => cell_of_row _ w.heap.size 2 _ _ _ (HX1.out.below ((Below.refl _ _).alloc (Nat.le_refl _) o1))
        have q3 : ∀ o1 : Obj, (w1.alloc o1).cell? ⟨w.heap.size, 3, none⟩ = some (u8 h.d.d) := fun o1 => cell_of_row _ w.heap.size 3 _ _ _ (HX1.out.below ((Below.refl _ _).alloc (Nat.le_refl _) o1))
        have q4 : ∀ o1 : Obj, (w1.alloc o1).cell? ⟨w.heap.size, 4, none⟩ = some (u8 h.d.e) := fun o1 => cell_of_row _ w.heap.size 4 _ _ _ (HX1.out.below ((Below.refl _ _).alloc (Nat.le_refl _) o1))
        obtain ⟨r0, r1, r2, r3, r4, _⟩ := HX1.out.cells
        go_region_with ((go_at_call 103; go_loud ((refine (otherSigns_ h.d _).mono ?_; rintro e wA ⟨rfl, hbA⟩; have HBA : Hid (Below w1.heap.size w1 wA) := Lib.hid (by first | exact ((Below.refl _ w1).alloc (Nat.le_refl _) _).drew.trans (hbA.mono (by simp)) | exact (Below.refl _ w1).drew.trans hbA | exact hbA); have HXA := Lib.hid (HX1.out.below HBA.out); (first | (have hcA := HCW.out wA hbA) | skip); obtain ⟨z0, _, _, _, _, _⟩ := HXA.out.cells; clear hbA))))
        all_goals
          go_wp2_with (fail)
          go_meet
          first
          | exact ⟨wA.heap.size, rfl, OwnS.twoH wA _ _ _ HBA.out.size, HBA.out.alloc HBA.out.size _⟩
          | exact ⟨wA.heap.size + 1, rfl, by have t := OwnS.twoH (wA.alloc (.cells #[u8 h.d.a] 5)) [h.d.a] [h.d.b, h.d.c, h.d.d, h.d.e] w1.heap.size (Nat.le_trans HBA.out.size (by simp)); simp only [World.size_alloc] at t; exact t, (HBA.out.alloc HBA.out.size _).alloc (Nat.le_trans HBA.out.size (by simp)) _⟩
    case rest =>
      as_aux_lemma =>
        obtain ⟨g, rfl, ho, hbc⟩ := hcut
        have HO0 : Hid (OwnS wc w1.heap.size (.slice (some ⟨g, 0, none⟩) 2 2) ((rowH h).take 2)) := Lib.hid ho
        have HBC := Lib.hid hbc
        clear ho hbc HBS
        go_wp2_with (fail)
        have HBW : Hid (Below w.heap.size w w1) := HB1
        refine (rows_ wc).mono ?_
        rintro e w7 ⟨rfl, hb7⟩
        have HYL : Hid (∀ y ∈ h.l, y.size ≤ 1000000) := Lib.hid (fun y hy => by
          have h1 := HLB.out
          have h2 := mem_lens (List.mem_map.2 ⟨y, hy, rfl⟩ : y.data.toList ∈ h.l.map (·.data.toList))
          simp at h2
          omega)
        have HO7 := Lib.hid (HO0.out.below hb7)
        have HB7 := Lib.hid (HBC.out.trans (hb7.mono HBC.out.size))
        clear hb7 HO0 HBC
        go_wp2_with (fail)
        go_loopw [25, 4, 5, 7, 8] (fun i v f _ _ wr => ∃ k : Nat, k ≤ 10 ∧ i = .int .i64 k ∧ OwnS wr w1.heap.size v ((rowH h).take (k + 2)) ∧ f = .int .i64 ((filledD h.l k : Nat) : Int) ∧ (h.l.take k).all (standD h.d.a) = true ∧ Below w1.heap.size w1 wr) (fun i _ _ _ _ _ => 10 - (intOf i).toNat)
        case atStart => exact ⟨0, by omega, rfl, HO7.out, rfl, rfl, HB7.out⟩
        case round =>
          clear HO7 HB7
          obtain ⟨wo, rfl⟩ : ∃ wo : World, wo = wr := ⟨_, rfl⟩
          obtain ⟨k, hk, rfl, ho, rfl, hst, hb⟩ := hrel
          have HO := Lib.hid ho
          have HST := Lib.hid hst
          have HB := Lib.hid hb
          clear ho hst hb
          obtain ⟨A4, cc4, rfl, _, _⟩ := HO.out.ss
          obtain ⟨L, hL⟩ : ∃ L, L = ((rowH h).take (k + 2)).length := ⟨_, rfl⟩
          have HLL : Hid (L = k + 2) := Lib.hid (by rw [hL, List.length_take, show (rowH h).length = 12 from rfl]; omega)
          rw [← hL] at HO ⊢
          clear hL
          by_cases hlt : k < 10
          · obtain ⟨F, i0, hkk, hrw⟩ := rowsAt k hlt
            have HRW := Lib.hid hrw
            have HKL := Lib.hid hlt
            have HB1 : Hid (Below w1.heap.size w1 (wo.alloc (.cells #[.func (.func F) #[] #[]] 169))) := Lib.hid (HB.out.alloc HB.out.size _)
            have HO1 : Hid (OwnS (wo.alloc (.cells #[.func (.func F) #[] #[]] 169)) w1.heap.size (.slice A4 L cc4) ((rowH h).take (k + 2))) := Lib.hid (HO.out.below ((Below.refl _ _).alloc (Nat.le_refl _) _))
            obtain ⟨c0, c1, c2, c3, c4, cx⟩ := (HX1.out.below HB1.out).cells
            have cy := (HX1.out.below HB1.out).text k hlt
            have HYM : Hid ((h.l.getD k ⟨#[]⟩) ∈ h.l) := Lib.hid (h.text_mem k hlt)
            have HRT : Hid ((rowH h).take (k + 2) ++ [(h.l.getD k ⟨#[]⟩).data.toList] = (rowH h).take (k + 1 + 2)) := Lib.hid (rowH_take h k hlt)
            have HTA : Hid (standD h.d.a (h.l.getD k ⟨#[]⟩) = true → (h.l.take (k + 1)).all (standD h.d.a) = true) := Lib.hid (h.take_all _ k hlt HST.out)
            have HFS : Hid (filledD h.l (k + 1) = if (h.l.getD k ⟨#[]⟩).toList.isEmpty then filledD h.l k else k + 3) := Lib.hid (filledD_step h k)
            obtain ⟨y, hy⟩ : ∃ y, y = h.l.getD k ⟨#[]⟩ := ⟨_, rfl⟩
            rw [← hy] at cy HYM HRT HTA HFS
            obtain ⟨f, hf⟩ : ∃ f, f = filledD h.l k := ⟨_, rfl⟩
            rw [← hf] at HFS ⊢
            clear hrw hk cx hy hf
            have hk0 : (k : Int) < 10 := by omega
            go_wp2_with (fail)
            refine (HRW.out w.heap.size _).mono ?_
            rintro e wc2 ⟨rfl, rfl⟩
            have hYS : Hid (y.size ≤ 1000000) := Lib.hid (HYL.out _ HYM.out)
            go_wp2_with (fail)
            refine (mayStand_ y h.d _).mono ?_
            rintro e wd ⟨rfl, hbd⟩
            have HB2 := Lib.hid (HB1.out.trans (hbd.mono HB1.out.size))
            have HO2 := Lib.hid (HO1.out.below hbd)
            clear hbd c0 c1 c2 c3 c4 cy HB1 HO1
            cases hs : standD h.d.a y
            · have HEF : Hid (writeH h = ([], 10)) := Lib.hid (by
                rw [HE.out, if_neg]
                intro e
                have t := List.all_eq_true.1 e y HYM.out
                rw [hs] at t
                cases t)
              go_wp2_with (fail)
              go_ret2
              exact ⟨by rw [HEF.out]; rfl, HBW.out.trans (HB2.out.mono HBW.out.size)⟩
            · have HST2 : Hid ((h.l.take (k + 1)).all (standD h.d.a) = true) := Lib.hid (HTA.out hs)
              have HLB2 : Hid (((rowH h).take (k + 2)).length ≤ 12) := Lib.hid (by rw [List.length_take]; have := rowH_len h; omega)
              clear hs
              cases de : y.toList.isEmpty
              · have tok1 : Hid True := Lib.hid trivial
                have HF2 : Hid (filledD h.l (k + 1) = k + 3) := Lib.hid (by rw [HFS.out, de]; rfl)
                go_wp2_with (at_builtin; have _t := tok1; go_loud ((refine wpList_str rfl (.tmp 38) (.tmp 40) rfl w1.heap.size _ ((rowH h).take (k + 2)) rfl (HO2.out.below ((Below.refl _ wd).alloc (Nat.le_refl _) _)) wd.heap.size y.data.toList rfl (heap_alloc_new wd _) (by have := HLB2.out; omega) (by have := HB2.out.size; simp; omega) ?_; intro v' w' hown hbel hgr; rw [HRT.out] at hown; obtain ⟨A5, c5, rfl, _, _⟩ := hown.ss; obtain ⟨L5, hL5⟩ : ∃ L5, L5 = ((rowH h).take (k + 1 + 2)).length := ⟨_, rfl⟩; have HL5 : Hid (L5 = k + 3) := Lib.hid (by rw [hL5, List.length_take, rowH_len]; have := HKL.out; omega); rw [← hL5] at hown ⊢; have HOWN : Hid (OwnS w' w1.heap.size (.slice A5 L5 c5) ((rowH h).take (k + 1 + 2))) := Lib.hid hown; have HB3 : Hid (Below w1.heap.size w1 w') := Lib.hid ((HB2.out.alloc HB2.out.size _).trans hbel); clear tok1 hown hbel hgr hL5 _t)))
                exact ⟨⟨k + 1, by have := HKL.out; omega, by go_num, HOWN.out, by rw [HF2.out, HL5.out], HST2.out, HB3.out⟩, by have := HKL.out; simp [intOf]; omega⟩
              · have tok1 : Hid True := Lib.hid trivial
                have HF2 : Hid (filledD h.l (k + 1) = f) := Lib.hid (by rw [HFS.out, de]; rfl)
                go_wp2_with (at_builtin; have _t := tok1; go_loud ((refine wpList_str rfl (.tmp 38) (.tmp 40) rfl w1.heap.size _ ((rowH h).take (k + 2)) rfl (HO2.out.below ((Below.refl _ wd).alloc (Nat.le_refl _) _)) wd.heap.size y.data.toList rfl (heap_alloc_new wd _) (by have := HLB2.out; omega) (by have := HB2.out.size; simp; omega) ?_; intro v' w' hown hbel hgr; rw [HRT.out] at hown; obtain ⟨A5, c5, rfl, _, _⟩ := hown.ss; obtain ⟨L5, hL5⟩ : ∃ L5, L5 = ((rowH h).take (k + 1 + 2)).length := ⟨_, rfl⟩; have HL5 : Hid (L5 = k + 3) := Lib.hid (by rw [hL5, List.length_take, rowH_len]; have := HKL.out; omega); rw [← hL5] at hown ⊢; have HOWN : Hid (OwnS w' w1.heap.size (.slice A5 L5 c5) ((rowH h).take (k + 1 + 2))) := Lib.hid hown; have HB3 : Hid (Below w1.heap.size w1 w') := Lib.hid ((HB2.out.alloc HB2.out.size _).trans hbel); clear tok1 hown hbel hgr hL5 _t)))
                exact ⟨⟨k + 1, by have := HKL.out; omega, by go_num, HOWN.out, by rw [HF2.out], HST2.out, HB3.out⟩, by have := HKL.out; simp [intOf]; omega⟩
          · obtain rfl : k = 10 := by omega
            have HE2 : Hid (writeH h = (makeD mshB h.d.a ((rowH h).take (filledD h.l 10)), 0)) := Lib.hid (by rw [HE.out, if_pos (show h.l.all (standD h.d.a) = true from HST.out)])
            have HFB : Hid (filledD h.l 10 ≤ 12) := Lib.hid (filledD_le h.l 10)
            have hR12 : (rowH h).length = 12 := rfl
            have hB2 : Lib.lens (rowH h) = 1 + (4 + Lib.lens (h.l.map (·.data.toList))) := by simp [rowH, Lib.lens]
            rw [List.take_of_length_le (by rw [hR12]; omega)] at HO
            obtain ⟨RH, hRH⟩ : ∃ RH, RH = rowH h := ⟨_, rfl⟩
            rw [← hRH] at HO HE2 hR12 hB2
            clear hRH
            obtain ⟨g4, c4', e4, _, _, hcap, hcm⟩ := HO.out.form (by rw [hR12]; omega)
            rw [e4] at HO ⊢
            rw [hR12] at HO hcap ⊢
            have HSS : Hid (Ss wo (some ⟨g4, 0, none⟩) (filledD h.l 10) c4' (RH.take (filledD h.l 10))) := Lib.hid (Ss.take (n := 12) (by have t := HO.out; rw [← hR12] at t; have t2 := OwnS.ss' t; rw [hR12] at t2; exact t2) HFB.out)
            have HBK : Hid (Lib.lens (RH.take (filledD h.l 10)) + (RH.take (filledD h.l 10)).length ≤ 1048576) := Lib.hid (by
              have h1 := Lib.lens_take_le RH (filledD h.l 10)
              have h2 := hB2
              have h3 : (RH.take (filledD h.l 10)).length ≤ 12 := by rw [List.length_take, hR12]; omega
              have h4 := HLB.out
              omega)
            obtain ⟨F, hF⟩ : ∃ F, F = filledD h.l 10 := ⟨_, rfl⟩
            rw [← hF] at HE2 HFB HSS HBK ⊢
            obtain ⟨U, hU⟩ : ∃ U, U = RH.take F := ⟨_, rfl⟩
            rw [← hU] at HE2 HSS HBK
            have HCAP : Hid (12 ≤ c4') := Lib.hid hcap
            have HMS : Hid (mshB.size ≤ 1048576) := Lib.hid (by decide)
            have hf1 : (F : Int) ≤ (c4' : Int) := by have := HFB.out; have := HCAP.out; omega
            have hf2 : (0 : Int) ≤ (F : Int) := by omega
            have hf3 : F ≤ c4' := by omega
            have HX2 := Lib.hid (HX1.out.below HB.out)
            have HB0 := Lib.hid (HBW.out.trans (HB.out.mono HBW.out.size))
            clear HX1 HB1 HBW HB HYL HLB HST HE HW HLL hlt hk hF hU hcap HO hR12 hB2 e4 hcm
            obtain ⟨r0, r1, r2, r3, r4, rx⟩ := HX2.out.cells
            clear rx
            go_wp2_with (fail)
            go_region_held3 (fun w' => w'.cell? ⟨w.heap.size, 0, none⟩ = some (.int .u8 (h.d.a.toNat : Int)) ∧ w'.cell? ⟨w.heap.size, 1, none⟩ = some (.int .u8 (h.d.b.toNat : Int)) ∧ w'.cell? ⟨w.heap.size, 2, none⟩ = some (.int .u8 (h.d.c.toNat : Int)) ∧ w'.cell? ⟨w.heap.size, 3, none⟩ = some (.int .u8 (h.d.d.toNat : Int)) ∧ w'.cell? ⟨w.heap.size, 4, none⟩ = some (.int .u8 (h.d.e.toNat : Int))) (go_keep) ((go_at_call 118; go_loud ((refine (segMake h.d mshB (some ⟨g4, 0, none⟩) F c4' U _ (by first | exact HSS.out | exact HSS.out.below (Below.refl _ _).drew) HMS.out HBK.out).mono ?_; rintro e wM ⟨rfl, hbM⟩; have HBM : Hid (Below w.heap.size w wM) := Lib.hid (by first | exact HB0.out.trans (hbM.mono HB0.out.size) | exact HB0.out.trans (((Below.refl _ _).drew.trans hbM).mono HB0.out.size)); obtain ⟨z0, z1, z2, z3, z4, zx⟩ := (HX2.out.keep (by first | exact hbM | exact (Below.refl _ _).drew.trans hbM) (Array.getElem?_eq_some_iff.1 HX2.out).1).cells; clear hbM zx))))
            all_goals
              go_wp2_with (fail)
              go_ret2
              exact ⟨by rw [HE2.out]; rfl, HBM.out⟩
end Go.Proofs.YtodjilljcjkacaaGreatDoor
/- Laid together: MshE, MshG, MshW0. -/

/- Layer 9: a head against itself. -/
namespace Go.Proofs.YtodjilljcjkacaaGreatDoor
open Go.RowKit

end Go.Proofs.YtodjilljcjkacaaGreatDoor

/- Layer 9: how great a head is. -/
namespace Go.Proofs.YtodjilljcjkacaaGreatDoor
open Go.RowKit

/-- how many bytes a head's texts have -/
def Hd.sum (h : Hd) : Nat := h.a0.size + h.a1.size + h.a2.size + h.a3.size + h.a4.size + h.a5.size + h.a6.size + h.a7.size + h.a8.size + h.a9.size
theorem Hd.sum_eq (h : Hd) : h.sum = Lib.lens (h.l.map (·.data.toList)) := by
  have k : ∀ b : ByteArray, b.data.toList.length = b.size := fun b => by simp
  simp only [Hd.sum, Hd.l, Lib.lens, List.map_cons, List.map_nil, List.sum_cons, List.sum_nil, k]
  omega
end Go.Proofs.YtodjilljcjkacaaGreatDoor

/- Layer 9: how a head is written. -/
namespace Go.Proofs.YtodjilljcjkacaaGreatDoor
open Go.RowKit

/-- how a head is written: no, for its signs; no, for a text; or its segment -/
theorem writeH_cases (h : Hd) : (writeH h = ([], 11)) ∨ (writeH h = ([], 10)) ∨ (writeH h = (segH h, 0) ∧ h.d.good = true ∧ h.l.all (standD h.d.a) = true) := by
  by_cases hg : h.d.good = true
  · by_cases hs : h.l.all (standD h.d.a) = true
    · exact .inr (.inr ⟨writeH_good hg hs, hg, hs⟩)
    · exact .inr (.inl (by unfold writeH; rw [if_pos hg, if_neg hs]))
  · exact .inl (by unfold writeH; rw [if_neg hg])
theorem lens_joinTail (c : UInt8) (T : List (List UInt8)) : (Lib.joinTail [c] T).length = Lib.lens T + T.length := by
  induction T with
  | nil => rfl
  | cons a r ih =>
    simp only [Lib.joinTail, Lib.lens] at ih ⊢
    simp only [List.map_cons, List.flatten_cons, List.length_append, List.length_cons, List.length_nil, List.sum_cons] at ih ⊢
    omega
theorem segH_len (h : Hd) : (segH h).length ≤ h.sum + 18 := by
  rw [segH_eq, List.length_append, lens_joinTail, h.sum_eq]
  have h1 := Lib.lens_take_le (h.l.map (·.data.toList)) (filledD h.l 10 - 2)
  have h2 : (rowK h).length ≤ 10 := by
    unfold rowK
    rw [List.length_take]
    have : (h.l.map (·.data.toList)).length = 10 := rfl
    omega
  unfold rowK at h2 ⊢
  simp only [List.length_cons, List.length_nil]
  omega
end Go.Proofs.YtodjilljcjkacaaGreatDoor
/- Laid together: Ack1, AckM, Ack2. -/

/- Layer 10: the codes of answers, walked. -/
namespace Go.Proofs.YtodjilljcjkacaaGreatDoor
open Go.RowKit

/-- the codes of answers -/
def cB : Nat → ByteArray
  | 0 => ⟨#[65, 65]⟩
  | 1 => ⟨#[65, 69]⟩
  | 2 => ⟨#[65, 82]⟩
  | _ => ⟨#[]⟩
def codesL : List ByteArray := [cB 0, cB 1, cB 2]
abbrev codesV : Array Value := #[.string (cB 0), .string (cB 1), .string (cB 2)]
/-- the program's own table of them -/
def Cds (w : World) : Prop := w.cell? ⟨1, 0, none⟩ = some (.string (cB 0)) ∧ w.cell? ⟨1, 1, none⟩ = some (.string (cB 1)) ∧ w.cell? ⟨1, 2, none⟩ = some (.string (cB 2))
theorem Cds.below {w w' : World} (h : Cds w) (hb : Below w.heap.size w w') : Cds w' := by
  obtain ⟨h0, h1, h2⟩ := h
  have hl := World.block_lt_of_cell? w _ h0
  exact ⟨(hb.cell (p := ⟨1, 0, none⟩) hl).trans h0, (hb.cell (p := ⟨1, 1, none⟩) hl).trans h1, (hb.cell (p := ⟨1, 2, none⟩) hl).trans h2⟩
def codeD (s : ByteArray) : Bool := codesL.any fun v => decide (v = s)

set_option maxHeartbeats 4000000 in
set_option maxRecDepth 100000 in
theorem ackKnown_ (s : ByteArray) (w : World) (hv : Cds w) : Calls Tryz.prog 74 #[.string s] w fun e w' => e = .returned (.bool (codeD s)) ∧ w' = w := by
  obtain ⟨v0, v1, v2⟩ := hv
  go_enter Tryz.func74, Tryz.ntmps74
  go_wp2_with (fail)
  clear v0 v1 v2
  go_loop [6, 4] (fun i _ => ∃ k : Nat, k ≤ 3 ∧ i = .int .i64 k ∧ ∀ j, j < k → cB j ≠ s) (fun i _ => 3 - (intOf i).toNat)
  case atStart => exact ⟨0, by omega, rfl, fun j h => absurd h (by omega)⟩
  case round =>
    obtain ⟨k, hk, rfl, hn⟩ := hrel
    have HN := Lib.hid hn
    clear hn
    by_cases hlt : k < 3
    · match k, hlt with
      | 0, _ =>
        rw [show ((0 : Nat) : Int) = 0 from rfl]
        have i0 : ∀ W, (Instr.index 179 (.agg codesV) (.int .i64 0)).run Tryz.prog W = .ok (.string (cB 0)) W := fun _ => by kernel_rfl
        clear hlt hk
        by_cases he : cB 0 = s
        · have d := strEq_t he
          have HE : Hid (codeD s = true) := Lib.hid (by unfold codeD codesL; simp [he])
          clear he
          go_wp2_with (fail)
          go_ret
          rw [HE.out]; exact ⟨rfl, rfl⟩
        · have d := strEq_f he
          have HM : Hid (∀ j, j < 1 → cB j ≠ s) := Lib.hid (fun j hj => by
            rcases Nat.lt_or_ge j 0 with h | h
            · exact HN.out j h
            · have : j = 0 := by omega
              rw [this]; exact he)
          clear he
          go_wp2_with (fail)
          exact ⟨⟨1, by omega, rfl, HM.out⟩, by simp [intOf]⟩
      | 1, _ =>
        rw [show ((1 : Nat) : Int) = 1 from rfl]
        have i0 : ∀ W, (Instr.index 179 (.agg codesV) (.int .i64 1)).run Tryz.prog W = .ok (.string (cB 1)) W := fun _ => by kernel_rfl
        clear hlt hk
        by_cases he : cB 1 = s
        · have d := strEq_t he
          have HE : Hid (codeD s = true) := Lib.hid (by unfold codeD codesL; simp [he])
          clear he
          go_wp2_with (fail)
          go_ret
          rw [HE.out]; exact ⟨rfl, rfl⟩
        · have d := strEq_f he
          have HM : Hid (∀ j, j < 2 → cB j ≠ s) := Lib.hid (fun j hj => by
            rcases Nat.lt_or_ge j 1 with h | h
            · exact HN.out j h
            · have : j = 1 := by omega
              rw [this]; exact he)
          clear he
          go_wp2_with (fail)
          exact ⟨⟨2, by omega, rfl, HM.out⟩, by simp [intOf]⟩
      | 2, _ =>
        rw [show ((2 : Nat) : Int) = 2 from rfl]
        have i0 : ∀ W, (Instr.index 179 (.agg codesV) (.int .i64 2)).run Tryz.prog W = .ok (.string (cB 2)) W := fun _ => by kernel_rfl
        clear hlt hk
        by_cases he : cB 2 = s
        · have d := strEq_t he
          have HE : Hid (codeD s = true) := Lib.hid (by unfold codeD codesL; simp [he])
          clear he
          go_wp2_with (fail)
          go_ret
          rw [HE.out]; exact ⟨rfl, rfl⟩
        · have d := strEq_f he
          have HM : Hid (∀ j, j < 3 → cB j ≠ s) := Lib.hid (fun j hj => by
            rcases Nat.lt_or_ge j 2 with h | h
            · exact HN.out j h
            · have : j = 2 := by omega
              rw [this]; exact he)
          clear he
          go_wp2_with (fail)
          exact ⟨⟨3, by omega, rfl, HM.out⟩, by simp [intOf]⟩
    · obtain rfl : k = 3 := by omega
      have HE : Hid (codeD s = false) := Lib.hid (by
        have h := HN.out
        unfold codeD codesL
        simp only [List.any_cons, List.any_nil, Bool.or_false, Bool.or_eq_false_iff, decide_eq_false_iff_not]
        exact ⟨h 0 (by omega), h 1 (by omega), h 2 (by omega)⟩)
      clear hlt hk
      go_wp2_with (fail)
      go_ret
      rw [HE.out]; exact ⟨rfl, rfl⟩

/-- the head of an answer to a head's message -/
def ansH (h : Hd) : Hd := ⟨h.d, h.a2, h.a3, h.a0, h.a1, h.a4, ⟨#[]⟩, ⟨#[65, 67, 75]⟩, h.a7, h.a8, h.a9⟩
set_option maxHeartbeats 4000000 in
set_option maxRecDepth 100000 in
theorem headOf_ (h : Hd) (w : World) : Calls Tryz.prog 116 #[h.v] w fun e w' => e = .returned (ansH h).v ∧ Below w.heap.size w w' := by
  have HY0 : Hid (BoxH (ansH h) (w.heap.size + 1) ((w.alloc (.cells #[u8 h.d.a, u8 h.d.b, u8 h.d.c, u8 h.d.d, u8 h.d.e, .string h.a0, .string h.a1, .string h.a2, .string h.a3, .string h.a4, .string h.a5, .string h.a6, .string h.a7, .string h.a8, .string h.a9] TH)).alloc (.cells #[.int .u8 (h.d.a.toNat : Int), .int .u8 (h.d.b.toNat : Int), .int .u8 (h.d.c.toNat : Int), .int .u8 (h.d.d.toNat : Int), .int .u8 (h.d.e.toNat : Int), .string h.a2, .string h.a3, .string h.a0, .string h.a1, .string h.a4, .string ⟨#[]⟩, .string ⟨#[65, 67, 75]⟩, .string h.a7, .string h.a8, .string h.a9] TH))) := Lib.hid (by
    have t := BoxH.new (ansH h) (w.alloc (.cells h.cells TH))
    rw [World.size_alloc] at t
    exact t)
  have HB0 : Hid (Below w.heap.size w ((w.alloc (.cells #[u8 h.d.a, u8 h.d.b, u8 h.d.c, u8 h.d.d, u8 h.d.e, .string h.a0, .string h.a1, .string h.a2, .string h.a3, .string h.a4, .string h.a5, .string h.a6, .string h.a7, .string h.a8, .string h.a9] TH)).alloc (.cells #[.int .u8 (h.d.a.toNat : Int), .int .u8 (h.d.b.toNat : Int), .int .u8 (h.d.c.toNat : Int), .int .u8 (h.d.d.toNat : Int), .int .u8 (h.d.e.toNat : Int), .string h.a2, .string h.a3, .string h.a0, .string h.a1, .string h.a4, .string ⟨#[]⟩, .string ⟨#[65, 67, 75]⟩, .string h.a7, .string h.a8, .string h.a9] TH))) := Lib.hid ((boxHd_below h w).alloc (boxHd_below h w).size _)
  go_enter Tryz.func116, Tryz.ntmps116
  go_wp2_with (fail)
  generalize ((w.alloc (.cells #[u8 h.d.a, u8 h.d.b, u8 h.d.c, u8 h.d.d, u8 h.d.e, .string h.a0, .string h.a1, .string h.a2, .string h.a3, .string h.a4, .string h.a5, .string h.a6, .string h.a7, .string h.a8, .string h.a9] TH)).alloc (.cells #[.int .u8 (h.d.a.toNat : Int), .int .u8 (h.d.b.toNat : Int), .int .u8 (h.d.c.toNat : Int), .int .u8 (h.d.d.toNat : Int), .int .u8 (h.d.e.toNat : Int), .string h.a2, .string h.a3, .string h.a0, .string h.a1, .string h.a4, .string ⟨#[]⟩, .string ⟨#[65, 67, 75]⟩, .string h.a7, .string h.a8, .string h.a9] TH)) = w3 at *
  obtain ⟨a, ha⟩ : ∃ a, a = ansH h := ⟨_, rfl⟩
  rw [← ha] at HY0 ⊢
  clear ha
  obtain ⟨c0, c1, c2, c3, c4, c5, c6, c7, c8, c9, c10, c11, c12, c13, c14⟩ := HY0.out.cells
  refine bodyPost_ret (v := a.v) ?_ rfl ⟨rfl, HB0.out⟩
  simp [results, Tryz.results116, go_sem, *]
end Go.Proofs.YtodjilljcjkacaaGreatDoor

/- Layer 10: an answer that is built is read as its code and Id. -/
namespace Go.Proofs.YtodjilljcjkacaaGreatDoor
open Go.RowKit Lib

abbrev msaB : ByteArray := ⟨#[77, 83, 65]⟩
/-- the answer to a head -/
def buildD (h : Hd) (code : ByteArray) : List UInt8 × Int :=
  if codeD code = true then if (writeH (ansH h)).2 = 0 then (joinD [(writeH (ansH h)).1, makeD msaB h.d.a [code.data.toList, h.a7.data.toList]], 0) else ([], (writeH (ansH h)).2) else ([], 17)
theorem splitD_cons (m l : List UInt8) (h : (13 : UInt8) ∉ m) : splitD (m ++ 13 :: l) = m :: splitD l := by
  unfold splitD
  rw [cutAt_front 13 m l h]
  obtain ⟨x, r, hx⟩ : ∃ x r, cutAt 13 l = x :: r := by
    cases h : cutAt 13 l with
    | nil => exact absurd h (cutAt_ne _ _)
    | cons a b => exact ⟨a, b, rfl⟩
  rw [hx]
  have e : (m :: x :: r).getLastD [] = (x :: r).getLastD [] := by cases r <;> rfl
  rw [e]
  split <;> rfl
theorem code_mem {s : ByteArray} (h : codeD s = true) : s = cB 0 ∨ s = cB 1 ∨ s = cB 2 := by
  unfold codeD codesL at h
  simp only [List.any_cons, List.any_nil, Bool.or_false, Bool.or_eq_true, decide_eq_true_iff] at h
  rcases h with h | h | h
  · exact .inl h.symm
  · exact .inr (.inl h.symm)
  · exact .inr (.inr h.symm)
theorem sign_no_letter {x : UInt8} (h : isSign x.toNat = true) (y : UInt8) (hy : isSign y.toNat = false) : x ≠ y := fun e => by
  subst e; rw [h] at hy; cases hy
theorem good_a {s : Sgn} (h : s.good = true) : isSign s.a.toNat = true := (good_signs h).1 s.a (by simp [Sgn.l])
theorem makeD_two (c : UInt8) (x y : List UInt8) : makeD msaB c [x, y] = [77, 83, 65] ++ joinTail [c] [x, y] := makeD_plain msaB c _ (by decide)
theorem ansH_l (h : Hd) : (ansH h).l = [h.a2, h.a3, h.a0, h.a1, h.a4, ⟨#[]⟩, ⟨#[65, 67, 75]⟩, h.a7, h.a8, h.a9] := rfl
/-- how an answer is built: no, for its code; no, for the signs; no, for a text; or it is there -/
theorem buildD_cases (h : Hd) (code : ByteArray) : buildD h code = ([], 17) ∨ buildD h code = ([], 11) ∨ buildD h code = ([], 10) ∨ (buildD h code = (segH (ansH h) ++ 13 :: (makeD msaB h.d.a [code.data.toList, h.a7.data.toList] ++ [13]), 0) ∧ codeD code = true ∧ h.d.good = true ∧ (ansH h).l.all (standD h.d.a) = true) := by
  unfold buildD
  by_cases hk : codeD code = true
  · rw [if_pos hk]
    by_cases hg : h.d.good = true
    · by_cases hs : (ansH h).l.all (standD h.d.a) = true
      · have e : writeH (ansH h) = (segH (ansH h), 0) := writeH_good (h := ansH h) hg hs
        rw [e, if_pos rfl]
        refine .inr (.inr (.inr ⟨?_, hk, hg, hs⟩))
        simp [joinD]
      · have e : writeH (ansH h) = ([], 10) := by
          unfold writeH
          rw [if_pos (show (ansH h).d.good = true from hg), if_neg (show ¬ (ansH h).l.all (standD (ansH h).d.a) = true from hs)]
        rw [e, if_neg (by decide)]
        exact .inr (.inr (.inl rfl))
    · have e : writeH (ansH h) = ([], 11) := by
        unfold writeH
        rw [if_neg (show ¬ (ansH h).d.good = true from hg)]
      rw [e, if_neg (by decide)]
      exact .inr (.inl rfl)
  · rw [if_neg hk]
    exact .inl rfl
end Go.Proofs.YtodjilljcjkacaaGreatDoor

/- Layer 10: an answer built, and read, walked. -/
namespace Go.Proofs.YtodjilljcjkacaaGreatDoor
open Go.RowKit

/-- bytes in new memory, and an error -/
def RetBE (w : World) (r : List UInt8 × Int) (e : Ending) (w' : World) : Prop :=
  ∃ A c, e = .returned (.tuple #[.slice A r.1.length c, .int .i64 r.2]) ∧ Bs w' A r.1.length c r.1 ∧ Below w.heap.size w w'
theorem ansH_sum (h : Hd) : (ansH h).sum ≤ h.sum + 3 := by
  unfold Hd.sum ansH
  have e1 : (ByteArray.mk #[]).size = 0 := rfl
  have e2 : (ByteArray.mk #[65, 67, 75]).size = 3 := rfl
  simp only [e1, e2]
  omega
theorem a7_le (h : Hd) : h.a7.size ≤ h.sum := by unfold Hd.sum; omega
theorem lens_two (x y : List UInt8) : Lib.lens [x, y] = x.length + y.length := by simp [Lib.lens]
theorem msa_len (c : UInt8) (x y : List UInt8) : (makeD msaB c [x, y]).length = x.length + y.length + 5 := by
  rw [makeD_two]; simp [Lib.joinTail]; omega

theorem buildD_len (h : Hd) (code : ByteArray) : (buildD h code).1.length ≤ 2 * h.sum + code.size + 40 := by
  rcases buildD_cases h code with e | e | e | ⟨e, _, _, _⟩
  · rw [e]; simp
  · rw [e]; simp
  · rw [e]; simp
  · rw [e]
    have h1 := segH_len (ansH h)
    have h2 := ansH_sum h
    have h3 := a7_le h
    have h4 : code.data.toList.length = code.size := by simp
    have h5 : h.a7.data.toList.length = h.a7.size := by simp
    simp only [List.length_append, List.length_cons, List.length_nil, msa_len]
    omega

set_option maxHeartbeats 8000000 in
set_option maxRecDepth 100000 in
theorem ackBuild (h : Hd) (code : ByteArray) (w : World) (hv : Cds w) (hb : h.sum ≤ 300000) (hc : code.size ≤ 1000) : Calls Tryz.prog 85 #[h.v, .string code] w (RetBE w (buildD h code)) := by
  have HX0 := Lib.hid (BoxH.new h w)
  have HB0 := Lib.hid (boxHd_below h w)
  have HV0 := Lib.hid (hv.below (boxHd_below h w))
  have HS := Lib.hid hb
  have HC := Lib.hid hc
  have HAS := Lib.hid (ansH_sum h)
  have HA7 := Lib.hid (a7_le h)
  clear hv hb hc
  go_enter Tryz.func85, Tryz.ntmps85
  go_wp2_with (fail)
  generalize w.alloc (.cells #[u8 h.d.a, u8 h.d.b, u8 h.d.c, u8 h.d.d, u8 h.d.e, .string h.a0, .string h.a1, .string h.a2, .string h.a3, .string h.a4, .string h.a5, .string h.a6, .string h.a7, .string h.a8, .string h.a9] TH) = w0 at *
  refine (ackKnown_ code w0 HV0.out).mono ?_
  rintro e w1 ⟨rfl, rfl⟩
  cases hk : codeD code
  · have HE : Hid (buildD h code = ([], 17)) := Lib.hid (by unfold buildD; rw [hk]; rfl)
    go_wp2_with (fail)
    go_ret2
    exact ⟨none, 0, by rw [HE.out]; rfl, by rw [HE.out]; exact Bs.none_ _, HB0.out⟩
  · obtain ⟨c0, c1, c2, c3, c4, c5, c6, c7, c8, c9, c10, c11, c12, c13, c14⟩ := HX0.out.cells
    go_wp2_with (fail)
    clear c0 c1 c2 c3 c4 c5 c6 c7 c8 c9 c10 c11 c12 c13 c14
    refine (headOf_ h w1).mono ?_
    rintro e w2 ⟨rfl, hb2⟩
    have HX2 := Lib.hid (HX0.out.below hb2)
    have HB2 := Lib.hid (HB0.out.trans (hb2.mono HB0.out.size))
    clear hb2 HX0
    go_wp2_with (fail)
    refine (write_ (ansH h) w2 (by rw [← Hd.sum_eq]; have := HAS.out; have := HS.out; omega)).mono ?_
    rintro e w3 ⟨rfl, hb3⟩
    have HX3 := Lib.hid (HX2.out.below hb3)
    have HB3 := Lib.hid (HB2.out.trans (hb3.mono HB2.out.size))
    clear hb3 HX2
    rcases writeH_cases (ansH h) with hw | hw | ⟨hw, hg, hst⟩
    · have HE : Hid (buildD h code = ([], 11)) := Lib.hid (by unfold buildD; rw [if_pos hk, hw]; rfl)
      rw [hw]
      rw [show str (([], (11 : Int)) : List UInt8 × Int).1 = Value.string ⟨#[]⟩ from rfl]
      clear hw hk
      go_wp2_with (fail)
      go_ret2
      exact ⟨none, 0, by rw [HE.out]; rfl, by rw [HE.out]; exact Bs.none_ _, HB3.out⟩
    · have HE : Hid (buildD h code = ([], 10)) := Lib.hid (by unfold buildD; rw [if_pos hk, hw]; rfl)
      rw [hw]
      rw [show str (([], (10 : Int)) : List UInt8 × Int).1 = Value.string ⟨#[]⟩ from rfl]
      clear hw hk
      go_wp2_with (fail)
      go_ret2
      exact ⟨none, 0, by rw [HE.out]; rfl, by rw [HE.out]; exact Bs.none_ _, HB3.out⟩
    · have HE : Hid (buildD h code = (joinD [segH (ansH h), makeD msaB h.d.a [code.data.toList, h.a7.data.toList]], 0)) := Lib.hid (by unfold buildD; rw [if_pos hk, hw]; rfl)
      have HSL : Hid ((segH (ansH h)).length ≤ 300021) := Lib.hid (by have := segH_len (ansH h); have := HAS.out; have := HS.out; omega)
      rw [hw]
      clear hw hk hg hst
      obtain ⟨c0, c1, c2, c3, c4, c5, c6, c7, c8, c9, c10, c11, c12, c13, c14⟩ := HX3.out.cells
      go_wp2_with (fail)
      clear c0 c1 c2 c3 c4 c5 c6 c7 c8 c9 c10 c11 c12 c13 c14
      have HO4 : Hid (OwnS (w3.alloc (.cells #[.string code, .string h.a7] 9)) w3.heap.size (.slice (some ⟨w3.heap.size, 0, none⟩) 2 2) [code.data.toList, h.a7.data.toList]) := Lib.hid (OwnS.twoH w3 code.data.toList h.a7.data.toList _ (Nat.le_refl _))
      have HB4 : Hid (Below w.heap.size w (w3.alloc (.cells #[.string code, .string h.a7] 9))) := Lib.hid (HB3.out.alloc HB3.out.size _)
      have HT : Hid (Lib.lens [code.data.toList, h.a7.data.toList] ≤ 302000) := Lib.hid (by rw [lens_two]; have := HC.out; have := HA7.out; have := HS.out; simp; omega)
      generalize w3.alloc (.cells #[.string code, .string h.a7] 9) = w4 at *
      refine (segMake h.d msaB _ 2 2 _ w4 HO4.out.ss' (by decide) (by have := HT.out; simp only [List.length_cons, List.length_nil]; omega)).mono ?_
      rintro e w5 ⟨rfl, hb5⟩
      have HB5 := Lib.hid (HB4.out.trans (hb5.mono HB4.out.size))
      have HML : Hid ((makeD msaB h.d.a [code.data.toList, h.a7.data.toList]).length ≤ 302005) := Lib.hid (by rw [msa_len, ← lens_two]; have := HT.out; omega)
      clear hb5 HO4 HB4 HT
      obtain ⟨M, hM⟩ : ∃ M, M = makeD msaB h.d.a [code.data.toList, h.a7.data.toList] := ⟨_, rfl⟩
      rw [← hM] at HE HML ⊢
      obtain ⟨S, hS⟩ : ∃ S, S = segH (ansH h) := ⟨_, rfl⟩
      rw [← hS] at HE HSL ⊢
      clear hM hS
      go_wp2_with (fail)
      have HO6 : Hid (OwnS (w5.alloc (.cells #[str S, str M] 9)) w5.heap.size (.slice (some ⟨w5.heap.size, 0, none⟩) 2 2) [S, M]) := Lib.hid (OwnS.twoH w5 S M _ (Nat.le_refl _))
      have HB6 : Hid (Below w.heap.size w (w5.alloc (.cells #[str S, str M] 9))) := Lib.hid (HB5.out.alloc HB5.out.size _)
      generalize w5.alloc (.cells #[str S, str M] 9) = w6 at *
      refine (segJoin _ 2 2 [S, M] w6 HO6.out.ss' (by rw [lens_two]; have := HSL.out; have := HML.out; simp only [List.length_cons, List.length_nil]; omega)).mono ?_
      rintro e w7 ⟨A7, c7, rfl, hB7, hb7⟩
      have HBS := Lib.hid hB7
      have HB7 := Lib.hid (HB6.out.trans (hb7.mono HB6.out.size))
      clear hB7 hb7 HO6
      go_wp2_with (fail)
      go_ret2
      exact ⟨A7, c7, by rw [HE.out]; rfl, by rw [HE.out]; exact HBS.out, HB7.out⟩

/-- an answer's block -/
def BoxA (x y : ByteArray) (g : Nat) (w : World) : Prop := w.heap[g]? = some (.cells #[.string x, .string y] 80)
theorem BoxA.below {x y : ByteArray} {g : Nat} {w w' : World} (k : BoxA x y g w) (hb : Below w.heap.size w w') : BoxA x y g w' := (hb.block g (Array.getElem?_eq_some_iff.1 k).1).trans k
theorem BoxA.cells {x y : ByteArray} {g : Nat} {w : World} (k : BoxA x y g w) : w.cell? ⟨g, 0, none⟩ = some (.string x) ∧ w.cell? ⟨g, 1, none⟩ = some (.string y) := ⟨cell_of_row w g 0 _ _ _ k, cell_of_row w g 1 _ _ _ k⟩
theorem BoxA.frz {x y : ByteArray} {g : Nat} {w : World} (k : BoxA x y g w) : w.frozen? ⟨g, 0, none⟩ = false ∧ w.frozen? ⟨g, 1, none⟩ = false := by
  unfold BoxA at k
  constructor <;> simp [World.frozen?, k]
end Go.Proofs.YtodjilljcjkacaaGreatDoor
/- Layer 9: a head that was read may be written. -/
namespace Go.Proofs.YtodjilljcjkacaaGreatDoor
open Go.RowKit Lib

theorem cut_mem {c : UInt8} : ∀ {l x : List UInt8}, x ∈ cutAt c l → c ∉ x ∧ x.length ≤ l.length ∧ ∀ y ∈ x, y ∈ l
  | [], x, h => by
    simp [cutAt] at h
    subst h
    exact ⟨by simp, by simp, fun y hy => by cases hy⟩
  | a :: r, x, h => by
    unfold cutAt at h
    split at h
    · rcases List.mem_cons.1 h with rfl | h
      · exact ⟨by simp, by simp, fun y hy => by cases hy⟩
      · obtain ⟨h1, h2, h3⟩ := cut_mem h
        exact ⟨h1, by simp only [List.length_cons]; omega, fun y hy => List.mem_cons_of_mem _ (h3 y hy)⟩
    · rename_i hne
      have hm : ∀ z ∈ cutAt c r, c ∉ z ∧ z.length ≤ r.length ∧ ∀ y ∈ z, y ∈ r := fun z hz => cut_mem hz
      cases hc : cutAt c r with
      | nil => exact absurd hc (cutAt_ne _ _)
      | cons p q =>
        rw [hc] at h hm
        simp only at h
        rcases List.mem_cons.1 h with rfl | h
        · obtain ⟨h1, h2, h3⟩ := hm p (by simp)
          refine ⟨fun hin => ?_, by simp only [List.length_cons]; omega, fun y hy => ?_⟩
          · rcases List.mem_cons.1 hin with e | e
            · exact hne e.symm
            · exact h1 e
          · rcases List.mem_cons.1 hy with e | e
            · rw [e]; simp
            · exact List.mem_cons_of_mem _ (h3 y e)
        · obtain ⟨h1, h2, h3⟩ := hm x (by simp [h])
          exact ⟨h1, by simp only [List.length_cons]; omega, fun y hy => List.mem_cons_of_mem _ (h3 y hy)⟩
theorem getD_mem_or {α : Type} (T : List α) (k : Nat) (d : α) : T.getD k d ∈ T ∨ T.getD k d = d := by
  rw [List.getD_eq_getElem?_getD]
  rcases Nat.lt_or_ge k T.length with h | h
  · rw [List.getElem?_eq_getElem h]; exact .inl (List.getElem_mem h)
  · rw [List.getElem?_eq_none h]; exact .inr rfl
theorem cut_getD {c : UInt8} (l : List UInt8) (k : Nat) : c ∉ (cutAt c l).getD k [] ∧ ((cutAt c l).getD k []).length ≤ l.length ∧ ∀ y ∈ (cutAt c l).getD k [], y ∈ l := by
  rcases getD_mem_or (cutAt c l) k [] with h | h
  · exact cut_mem h
  · rw [h]; exact ⟨by simp, by simp, fun y hy => by cases hy⟩
theorem fields_mem (s : List UInt8) (c : UInt8) (k : Nat) : c ∉ (fieldsD (txt s) c).getD (k + 1) [] ∧ ((fieldsD (txt s) c).getD (k + 1) []).length ≤ s.length ∧ ∀ y ∈ (fieldsD (txt s) c).getD (k + 1) [], y ∈ s := by
  have none_ : c ∉ ([] : List UInt8) ∧ ([] : List UInt8).length ≤ s.length ∧ ∀ y ∈ ([] : List UInt8), y ∈ s := ⟨by simp, by simp, fun y hy => by cases hy⟩
  unfold fieldsD
  split
  · unfold behD
    split
    · rename_i h
      split at h
      · cases h
      · exact none_
    · rename_i r h
      split at h
      · injection h with h
        subst h
        rw [List.getD_cons_succ]
        obtain ⟨h1, h2, h3⟩ := cut_getD (c := c) ((txt s).extract 4 (txt s).size).data.toList k
        have e : ((txt s).extract 4 (txt s).size).data.toList = s.drop 4 := by
          rw [ex_list, show (txt s).data.toList = s from by simp, txt_size]
          exact List.take_of_length_le (by simp)
        rw [e] at h1 h2 h3 ⊢
        exact ⟨h1, by rw [List.length_drop] at h2; omega, fun y hy => List.mem_of_mem_drop (h3 y hy)⟩
      · cases h
  · rw [show (txt s).data.toList = s from by simp]
    have e : (cutAt c s).tail.getD (k + 1) [] = (cutAt c s).getD (k + 2) [] := by
      cases hc : cutAt c s with
      | nil => exact absurd hc (cutAt_ne _ _)
      | cons a b => rfl
    rw [e]
    exact cut_getD s (k + 2)
theorem seg0_mem (l : List UInt8) : (13 : UInt8) ∉ (splitD l).getD 0 [] ∧ ((splitD l).getD 0 []).length ≤ l.length := by
  rcases getD_mem_or (splitD l) 0 [] with h | h
  · have hm : (splitD l).getD 0 [] ∈ cutAt 13 l := by
      unfold splitD at h ⊢
      split at h
      · rename_i hc
        rw [if_pos hc]
        exact List.dropLast_subset _ h
      · rename_i hc
        rw [if_neg hc]
        exact h
    exact ⟨(cut_mem hm).1, (cut_mem hm).2.1⟩
  · rw [h]; exact ⟨by simp, by simp⟩
theorem readD_good {l : List UInt8} (h : (readD l).2 = 0) : (readD l).1.good = true := by
  unfold readD at h ⊢
  split at h
  · cases h
  · rename_i h1
    rw [if_neg h1]
    split at h
    · cases h
    · rename_i h2
      rw [if_neg h2]
      split at h
      · cases h
      · rename_i h3
        rw [if_neg h3]
        simp only
        cases hg : (Sgn.of l).good
        · exact absurd (.inr hg) h2
        · rfl
theorem hdTo_l (d : Sgn) (T : Nat → ByteArray) : (hdTo d T 10).l = [T 0, T 1, T 2, T 3, T 4, T 5, T 6, T 7, T 8, T 9] := rfl
/-- P9.4, the other way about -/
theorem read_stands {l : List UInt8} {h : Hd} (hr : readH l = (h, 0)) : h.d.good = true ∧ h.l.all (standD h.d.a) = true ∧ ∀ b ∈ h.l, b.size ≤ l.length := by
  unfold readH at hr
  split at hr
  · rename_i h0
    have hg := readD_good h0
    split at hr
    · obtain ⟨seg, hseg⟩ : ∃ seg, seg = (splitD l).getD 0 [] := ⟨_, rfl⟩
      obtain ⟨s1, s2⟩ := seg0_mem l
      rw [← hseg] at hr s1 s2
      injection hr with hr _
      obtain ⟨d, hd⟩ : ∃ d, d = (readD l).1 := ⟨_, rfl⟩
      rw [← hd] at hr hg
      subst hr
      have key : ∀ i, standD d.a (textsD (fieldsD (txt seg) d.a) i) = true ∧ (textsD (fieldsD (txt seg) d.a) i).size ≤ l.length := fun i => by
        obtain ⟨h1, h2, h3⟩ := fields_mem seg d.a (i + 1)
        have e : textsD (fieldsD (txt seg) d.a) i = txt ((fieldsD (txt seg) d.a).getD (i + 1 + 1) []) := by unfold textsD; rw [show 2 + i = i + 1 + 1 by omega]
        rw [e]
        generalize (fieldsD (txt seg) d.a).getD (i + 1 + 1) [] = x at h1 h2 h3
        refine ⟨?_, by rw [txt_size]; omega⟩
        unfold standD
        rw [show (txt x).data.toList = x from by simp]
        simp only [Bool.and_eq_true, Bool.not_eq_true']
        refine ⟨?_, ?_⟩
        · cases hc : x.contains d.a
          · rfl
          · exact absurd (List.contains_iff_mem.1 hc) h1
        · cases hc : x.contains 13
          · rfl
          · exact absurd (h3 13 (List.contains_iff_mem.1 hc)) s1
      refine ⟨hg, ?_, fun b hb => ?_⟩
      · rw [hdTo_l]
        simp only [List.all_cons, List.all_nil, Bool.and_true, Bool.and_eq_true]
        exact ⟨(key 0).1, (key 1).1, (key 2).1, (key 3).1, (key 4).1, (key 5).1, (key 6).1, (key 7).1, (key 8).1, (key 9).1⟩
      · rw [hdTo_l] at hb
        simp only [List.mem_cons, List.not_mem_nil, or_false] at hb
        rcases hb with rfl | rfl | rfl | rfl | rfl | rfl | rfl | rfl | rfl | rfl
        · exact (key 0).2
        · exact (key 1).2
        · exact (key 2).2
        · exact (key 3).2
        · exact (key 4).2
        · exact (key 5).2
        · exact (key 6).2
        · exact (key 7).2
        · exact (key 8).2
        · exact (key 9).2
    · injection hr with _ h2
      cases h2
  · rename_i h0
    injection hr with _ h2
    exact absurd h2 h0
theorem sum_le_of {h : Hd} {n : Nat} (hb : ∀ b ∈ h.l, b.size ≤ n) : h.a8.size ≤ n ∧ h.a9.size ≤ n ∧ Lib.lens (h.l.map (·.data.toList)) ≤ 10 * n := by
  have k : ∀ b : ByteArray, b.data.toList.length = b.size := fun b => by simp
  simp only [Hd.l, List.mem_cons, List.not_mem_nil, or_false, forall_eq_or_imp, forall_eq] at hb
  obtain ⟨h0, h1, h2, h3, h4, h5, h6, h7, h8, h9⟩ := hb
  refine ⟨h8, h9, ?_⟩
  simp only [Hd.l, Lib.lens, List.map_cons, List.map_nil, List.sum_cons, List.sum_nil, k]
  omega
end Go.Proofs.YtodjilljcjkacaaGreatDoor
/- Layer 4: what frame's functions answer, over this seat's translation. -/
namespace Go.Proofs.YtodjilljcjkacaaGreatDoor
open Go.RowKit

/-- the signs' cells -/
def Signs (w : World) : Prop :=
  w.cell? ⟨0, 0, none⟩ = some (.int .u8 11) ∧ w.cell? ⟨0, 1, none⟩ = some (.int .u8 28) ∧ w.cell? ⟨0, 2, none⟩ = some (.int .u8 13)
theorem Signs.below {w w' : World} (h : Signs w) (hb : Below w.heap.size w w') : Signs w' :=
  ⟨(hb.cell (World.block_lt_of_cell? w _ h.1)).trans h.1, (hb.cell (World.block_lt_of_cell? w _ h.2.1)).trans h.2.1, (hb.cell (World.block_lt_of_cell? w _ h.2.2)).trans h.2.2⟩
theorem Signs.alloc {w : World} (h : Signs w) (o : Obj) : Signs (w.alloc o) := h.below ((Below.refl _ _).alloc (Nat.le_refl _) o)

theorem Signs.drewN {w : World} (h : Signs w) (k : Nat) : Signs (w.drewN k) := h.below (drawN_below (Below.refl _ _) k)

/-- bytes that may be in a frame -/
def Good (l : List UInt8) : Prop := 11 ∉ l ∧ ∀ i, i < l.length → l[i]? = some 28 → ∃ d, l[i + 1]? = some d ∧ d ≠ 13
/-- the place i ends them -/
def badAt (l : List UInt8) (i : Nat) : Bool := l[i]? == some 28 && (decide (i + 1 = l.length) || l[i + 1]? == some 13)
def good (l : List UInt8) : Bool := !l.contains 11 && (List.range l.length).all fun i => !badAt l i

theorem u8_ne {x : UInt8} {k : Int} (y : UInt8) (hk : k = (y.toNat : Int)) (h : x ≠ y) : ((x.toNat : Int) == k) = false := by
  rw [beq_eq_false_iff_ne]
  intro e
  apply h
  apply UInt8.toNat_inj.1
  omega

theorem good_no_start {l : List UInt8} (h : good l = true) : 11 ∉ l := by
  unfold good at h
  simp at h
  exact h.1
theorem good_at {l : List UInt8} (h : good l = true) {i : Nat} (hi : i < l.length) : badAt l i = false := by
  unfold good at h
  simp only [Bool.and_eq_true, List.all_eq_true, Bool.not_eq_true'] at h
  exact h.2 i (List.mem_range.2 hi)
theorem good_of {l : List UInt8} (h1 : 11 ∉ l) (h2 : ∀ i, i < l.length → badAt l i = false) : good l = true := by
  unfold good
  simp only [Bool.and_eq_true, List.all_eq_true, Bool.not_eq_true']
  exact ⟨by simpa using h1, fun i hi => h2 i (List.mem_range.1 hi)⟩
theorem indexByte_neg {l : List UInt8} {c : UInt8} (h : c ∉ l) : Lib.indexByte l c = -1 := by
  induction l with
  | nil => rfl
  | cons b l ih =>
    simp only [List.mem_cons, not_or] at h
    unfold Lib.indexByte
    rw [if_neg (by simpa using fun e => h.1 e.symm), ih h.2]
    rfl
theorem indexByte_pos {l : List UInt8} {c : UInt8} (h : c ∈ l) : 0 ≤ Lib.indexByte l c := by
  induction l with
  | nil => cases h
  | cons b l ih =>
    unfold Lib.indexByte
    by_cases e : b = c
    · rw [if_pos (by simpa using e)]; omega
    · rw [if_neg (by simpa using e)]
      have := ih ((List.mem_cons.1 h).resolve_left fun h' => e h'.symm)
      rw [if_neg (by simp; omega)]
      omega

set_option maxRecDepth 100000 in
/-- bytes.IndexByte -/
theorem indexByte_any (A : Option Addr) (n c : Nat) (l : List UInt8) (cv : UInt8) (k : Int) (hk : k = (cv.toNat : Int)) (w : World) (hB : Bs w A n c l) :
    Calls Tryz.prog 101 #[.slice A n c, .int .u8 k] w fun e w' => e = .returned (.int .i64 (Lib.indexByte l cv)) ∧ w = w' := by
  have hcv : k.toNat.toUInt8 = cv := by subst hk; simp
  have hrun : (Extern.BytealgIndexByte.indexByte #[.slice A n c, .int .u8 k]).run Tryz.prog w = .ok (.int .i64 (Lib.indexByte l cv)) w := by
    rcases Nat.eq_zero_or_pos n with h0 | h0
    · subst h0
      obtain rfl := hB.empty
      rcases A with _ | a
      · have h0 : ∀ (kk : Int) (cc : Nat) (w : World), (Extern.BytealgIndexByte.indexByte #[.slice none 0 cc, .int .u8 kk]).run Tryz.prog w = .ok (.int .i64 (-1)) w := fun _ _ _ => by kernel_rfl
        exact h0 k c w
      · have := Lib.run_indexByteAt (P := Tryz.prog) w a 0 c [] rfl (fun i hi => by omega) k
        rw [this]; rfl
    · obtain ⟨b, o, rfl, hc⟩ := hB.cells h0
      have := Lib.run_indexByteAt (P := Tryz.prog) w ⟨b, o, none⟩ n c (nums l) (by rw [nums_length, hB.1]) (fun i hi => by rw [Addr.add_lit]; exact hc i hi) k
      rw [this, bytesOf_nums, hcv]
  have Hrun := Lib.hid hrun
  clear hrun hcv hk
  go_enter Tryz.func101, Tryz.ntmps101
  go_wp2
  rw [run_callFunc_extern Tryz.func139 (by kernel_rfl) (by kernel_rfl) (by kernel_rfl) (e := Extern.BytealgIndexByte.indexByte) (by kernel_rfl), Hrun.out]
  simp only [Result.andThen]
  rw [Oper.upon_value]
  go_wp2
  go_ret
  exact ⟨rfl, rfl⟩

set_option maxRecDepth 100000 in
/-- frame.Good, the answer true -/
theorem frameGood_yes (A : Option Addr) (n c : Nat) (l : List UInt8) (w : World) (hS : Signs w) (hB : Bs w A n c l) (hg : good l = true) :
    Calls Tryz.prog 68 #[.slice A n c] w fun e w' => e = .returned (.bool true) ∧ ∃ q, w' = w.drewN q := by
  obtain ⟨s0, s1, s2⟩ := hS
  have hn := hB.nmax
  have hib := indexByte_any A n c l 11 11 rfl w hB
  rw [indexByte_neg (good_no_start hg)] at hib
  have Hib := Lib.hid hib; clear hib
  have HG := Lib.hid hg; clear hg
  have HB := Lib.hid hB; clear hB
  go_enter Tryz.func68, Tryz.ntmps68
  go_wp2_with (go_at_call 101; refine (Hib.out).mono ?_; rintro e w' ⟨rfl, rfl⟩)
  go_loopw [12, 3, 4] (fun i x y wr => ∃ k : Nat, k ≤ n ∧ i = .int .i64 k ∧ ∃ q, wr = w.drewN q) (fun i _ _ _ => n - (intOf i).toNat)
  case atStart => exact ⟨0, Nat.zero_le _, rfl, 0, rfl⟩
  case round =>
    obtain ⟨k, hk, rfl, q, rfl⟩ := hrel
    by_cases hlt : k < n
    · obtain ⟨b, o, rfl, hb, hc⟩ := HB.out.at_ (by omega)
      have hkl : k < l.length := by have := HB.out.len; omega
      have hbad := good_at HG.out hkl
      have hcell := hc k _ (List.getElem?_eq_getElem hkl)
      unfold badAt at hbad
      rw [List.getElem?_eq_getElem hkl] at hbad
      generalize l[k] = x at hcell hbad
      by_cases h28 : x = 28
      · subst h28
        have hkn : k + 1 ≠ l.length := by intro e; simp [e] at hbad
        have hk1 : k + 1 < l.length := by omega
        have hcell1 := hc (k + 1) _ (List.getElem?_eq_getElem hk1)
        rw [List.getElem?_eq_getElem hk1] at hbad
        generalize l[k + 1] = y at hcell1 hbad
        have hne := u8_ne (x := y) (k := 13) 13 rfl (by intro e; subst e; simp at hbad)
        have hk2 : ((k : Int) + 1 == n) = false := by rw [beq_eq_false_iff_ne]; have := HB.out.len; omega
        have hk3 : k + 1 < n := by have := HB.out.len; omega
        have hw1 : IntKind.i64.wrap ((k : Int) + 1) = (k : Int) + 1 := IntWalk.i64_in _ (by omega)
        have hw2 : ((k : Int) + 1).toNat = k + 1 := by omega
        have hw3 : (0 : Int) ≤ (k : Int) + 1 := by omega
        have hw4 : (k : Int) + 1 < (n : Int) := by omega
        clear hbad hkn hc
        go_wp2
        go_quiet (fail)
        clear hw1 hw2 hw3 hw4
        go_wp2
        go_roundw
        case rel => exact ⟨k + 1, by omega, by go_num, _, rfl⟩
        case measure => simp [intOf]; omega
      · have hx' := u8_ne (x := x) (k := 28) 28 rfl h28
        clear hbad hc
        go_wp2
        go_quiet (fail)
        go_wp2
        go_roundw
        case rel => exact ⟨k + 1, by omega, by go_num, _, rfl⟩
        case measure => simp [intOf]; omega
    · go_wp2
      go_ret
      exact ⟨rfl, _, rfl⟩

set_option maxRecDepth 100000 in
/-- frame.Good, the answer false -/
theorem frameGood_no (A : Option Addr) (n c : Nat) (l : List UInt8) (w : World) (hS : Signs w) (hB : Bs w A n c l) (hg : good l = false) :
    Calls Tryz.prog 68 #[.slice A n c] w fun e w' => e = .returned (.bool false) ∧ ∃ q, w' = w.drewN q := by
  obtain ⟨s0, s1, s2⟩ := hS
  have hn := hB.nmax
  have hib := indexByte_any A n c l 11 11 rfl w hB
  by_cases h11 : 11 ∈ l
  · have hp := indexByte_pos h11
    generalize Lib.indexByte l 11 = r at hib hp
    have Hib := Lib.hid hib; clear hib
    go_enter Tryz.func68, Tryz.ntmps68
    go_wp2_with (go_at_call 101; refine (Hib.out).mono ?_; rintro e w' ⟨rfl, rfl⟩)
    go_ret
    exact ⟨rfl, 0, rfl⟩
  · rw [indexByte_neg h11] at hib
    have Hib := Lib.hid hib; clear hib
    have hex : ∃ i, i < l.length ∧ badAt l i = true := by
      apply Classical.byContradiction
      intro hne
      rw [good_of h11 (fun i hi => by
        cases hb : badAt l i with
        | false => rfl
        | true => exact absurd ⟨i, hi, hb⟩ hne)] at hg
      cases hg
    obtain ⟨j, hj, hjb⟩ := hex
    have hjn : j < n := by have := hB.len; omega
    have HJ := Lib.hid hjb; clear hjb hg
    have HB := Lib.hid hB; clear hB
    go_enter Tryz.func68, Tryz.ntmps68
    go_wp2_with (go_at_call 101; refine (Hib.out).mono ?_; rintro e w' ⟨rfl, rfl⟩)
    go_loopw [12, 3, 4] (fun i x y wr => ∃ k : Nat, k ≤ j ∧ i = .int .i64 k ∧ ∃ q, wr = w.drewN q) (fun i _ _ _ => n - (intOf i).toNat)
    case atStart => exact ⟨0, Nat.zero_le _, rfl, 0, rfl⟩
    case round =>
      obtain ⟨k, hk, rfl, q, rfl⟩ := hrel
      have hlt : k < n := by omega
      obtain ⟨b, o, rfl, hb, hc⟩ := HB.out.at_ (by omega)
      have hkl : k < l.length := by have := HB.out.len; omega
      have hcell := hc k _ (List.getElem?_eq_getElem hkl)
      cases hbad : badAt l k with
      | false =>
        have hkj : k < j := by
          rcases Nat.lt_or_ge k j with h | h
          · exact h
          · obtain rfl : k = j := by omega
            rw [HJ.out] at hbad; cases hbad
        unfold badAt at hbad
        rw [List.getElem?_eq_getElem hkl] at hbad
        generalize l[k] = x at hcell hbad
        by_cases h28 : x = 28
        · subst h28
          have hkn : k + 1 ≠ l.length := by intro e; simp [e] at hbad
          have hk1 : k + 1 < l.length := by omega
          have hcell1 := hc (k + 1) _ (List.getElem?_eq_getElem hk1)
          rw [List.getElem?_eq_getElem hk1] at hbad
          generalize l[k + 1] = y at hcell1 hbad
          have hne := u8_ne (x := y) (k := 13) 13 rfl (by intro e; subst e; simp at hbad)
          have hk2 : ((k : Int) + 1 == n) = false := by rw [beq_eq_false_iff_ne]; have := HB.out.len; omega
          have hk3 : k + 1 < n := by have := HB.out.len; omega
          have hw1 : IntKind.i64.wrap ((k : Int) + 1) = (k : Int) + 1 := IntWalk.i64_in _ (by omega)
          have hw2 : ((k : Int) + 1).toNat = k + 1 := by omega
          have hw3 : (0 : Int) ≤ (k : Int) + 1 := by omega
          have hw4 : (k : Int) + 1 < (n : Int) := by omega
          clear hbad hkn hc
          go_wp2
          go_quiet (fail)
          clear hw1 hw2 hw3 hw4
          go_wp2
          go_roundw
          case rel => exact ⟨k + 1, by omega, by go_num, _, rfl⟩
          case measure => simp [intOf]; omega
        · have hx' := u8_ne (x := x) (k := 28) 28 rfl h28
          clear hbad hc
          go_wp2
          go_quiet (fail)
          go_wp2
          go_roundw
          case rel => exact ⟨k + 1, by omega, by go_num, _, rfl⟩
          case measure => simp [intOf]; omega
      | true =>
        unfold badAt at hbad
        rw [List.getElem?_eq_getElem hkl] at hbad
        simp only [Bool.and_eq_true, beq_iff_eq, Option.some.injEq, Bool.or_eq_true, decide_eq_true_eq] at hbad
        obtain ⟨h28, hend⟩ := hbad
        rw [h28] at hcell
        have hw1 : IntKind.i64.wrap ((k : Int) + 1) = (k : Int) + 1 := IntWalk.i64_in _ (by omega)
        have hw2 : ((k : Int) + 1).toNat = k + 1 := by omega
        have hw3 : (0 : Int) ≤ (k : Int) + 1 := by omega
        by_cases he : k + 1 = l.length
        · have hk2 : ((k : Int) + 1 == n) = true := by rw [beq_iff_eq]; have := HB.out.len; omega
          clear hend he hc h28
          go_wp2
          go_quiet (fail)
          clear hw1 hw2 hw3
          go_wp2
          go_ret
          exact ⟨rfl, q + nq, by rw [World.drewN_drewN]⟩
        · have h13 := hend.resolve_left he
          have hcell1 := hc (k + 1) _ h13
          have hk1 : k + 1 < l.length := by omega
          have hk2 : ((k : Int) + 1 == n) = false := by rw [beq_eq_false_iff_ne]; have := HB.out.len; omega
          have hk3 : k + 1 < n := by have := HB.out.len; omega
          have hw4 : (k : Int) + 1 < (n : Int) := by omega
          clear hend hc h28 he h13
          go_wp2
          go_quiet (fail)
          clear hw1 hw2 hw3 hw4
          go_wp2
          go_ret
          exact ⟨rfl, q + nq, by rw [World.drewN_drewN]⟩
end Go.Proofs.YtodjilljcjkacaaGreatDoor
/- Layer 11: what a message is worth, in plain words. -/
namespace Go.Proofs.YtodjilljcjkacaaGreatDoor
open Go.RowKit

/-- the bytes ahead of the first 13 -/
def seg1 (l : List UInt8) : List UInt8 := if Lib.indexByte l 13 < 0 then l else l.take (Lib.indexByte l 13).toNat
theorem indexByte_lt (l : List UInt8) (c : UInt8) : Lib.indexByte l c < (l.length : Int) := by
  induction l with
  | nil => simp [Lib.indexByte]
  | cons b l ih =>
    unfold Lib.indexByte
    split
    · simp
    · split
      · simp; omega
      · simp; omega
theorem indexByte_front {m : List UInt8} {c : UInt8} (h : c ∉ m) (r : List UInt8) : Lib.indexByte (m ++ c :: r) c = (m.length : Int) := by
  induction m with
  | nil => simp [Lib.indexByte]
  | cons b m ih =>
    simp only [List.mem_cons, not_or] at h
    rw [List.cons_append]
    unfold Lib.indexByte
    rw [if_neg (by simpa using fun e => h.1 e.symm), ih h.2]
    rw [if_neg (by simp)]
    simp
theorem seg1_front {m : List UInt8} (h : (13 : UInt8) ∉ m) (r : List UInt8) : seg1 (m ++ 13 :: r) = m := by
  unfold seg1
  rw [indexByte_front h r, if_neg (by omega)]
  simp
theorem seg1_none {m : List UInt8} (h : (13 : UInt8) ∉ m) : seg1 m = m := by
  unfold seg1
  rw [indexByte_neg h, if_pos (by decide)]
theorem seg1_cases (l : List UInt8) : ((13 : UInt8) ∉ l ∧ seg1 l = l) ∨ ∃ r, (13 : UInt8) ∉ seg1 l ∧ l = seg1 l ++ 13 :: r := by
  by_cases h : (13 : UInt8) ∈ l
  · right
    obtain ⟨m, r, rfl, hm⟩ := List.eq_append_cons_of_mem h
    exact ⟨r, by rw [seg1_front hm]; exact hm, by rw [seg1_front hm]⟩
  · exact .inl ⟨h, seg1_none h⟩
theorem seg1_sub (l : List UInt8) : ∀ y ∈ seg1 l, y ∈ l := by
  intro y hy
  unfold seg1 at hy
  split at hy
  · exact hy
  · exact List.mem_of_mem_take hy
/-- the code by which a check is answered -/
def codeOf (e : Int) : ByteArray := if e = 0 then cB 0 else if e = 14 then cB 1 else cB 2
/-- what a message is worth: its head, a code, why -/
def verdictD (l : List UInt8) : Hd × ByteArray × Int :=
  if (readH l).2 = 0 then if (28 : UInt8) ∈ seg1 l then (Hd.zero, ⟨#[]⟩, 10) else ((readH l).1, codeOf (checkD (readH l).1), checkD (readH l).1)
  else (Hd.zero, ⟨#[]⟩, (readH l).2)
theorem checkD_cases (h : Hd) : checkD h = 0 ∨ checkD h = 14 ∨ checkD h = 12 ∨ checkD h = 13 := by
  unfold checkD
  split
  · exact .inr (.inl rfl)
  · split
    · exact .inr (.inr (.inl rfl))
    · split
      · exact .inr (.inr (.inr rfl))
      · exact .inl rfl
theorem seg0_seg1 {l : List UInt8} (h : (readD l).2 = 0) : (splitD l).getD 0 [] = seg1 l := by
  have hl := readD_long h
  rcases seg1_cases l with ⟨h1, h2⟩ | ⟨r, h1, h2⟩
  · rw [h2]
    unfold splitD
    rw [cutAt_none 13 l h1]
    cases l with
    | nil => simp at hl
    | cons b l => simp
  · obtain ⟨m, hm⟩ : ∃ m, m = seg1 l := ⟨_, rfl⟩
    rw [← hm] at h1 h2 ⊢
    rw [h2]
    rw [splitD_cons m r h1]
    rfl
/-- a head's texts come out of the first segment -/
theorem texts_seg1 {l : List UInt8} {h : Hd} (hr : readH l = (h, 0)) : ∀ b ∈ h.l, ∀ y ∈ b.data.toList, y ∈ seg1 l := by
  unfold readH at hr
  split at hr
  · rename_i h0
    split at hr
    · rw [seg0_seg1 h0] at hr
      obtain ⟨seg, hseg⟩ : ∃ seg, seg = seg1 l := ⟨_, rfl⟩
      rw [← hseg] at hr ⊢
      injection hr with hr _
      obtain ⟨d, hd⟩ : ∃ d, d = (readD l).1 := ⟨_, rfl⟩
      rw [← hd] at hr
      subst hr
      have key : ∀ i, ∀ y ∈ (textsD (fieldsD (txt seg) d.a) i).data.toList, y ∈ seg := fun i => by
        obtain ⟨h1, h2, h3⟩ := fields_mem seg d.a (i + 1)
        have e : textsD (fieldsD (txt seg) d.a) i = txt ((fieldsD (txt seg) d.a).getD (i + 1 + 1) []) := by unfold textsD; rw [show 2 + i = i + 1 + 1 by omega]
        rw [e]
        exact h3
      intro b hb
      rw [hdTo_l] at hb
      simp only [List.mem_cons, List.not_mem_nil, or_false] at hb
      rcases hb with rfl | rfl | rfl | rfl | rfl | rfl | rfl | rfl | rfl | rfl
      · exact key 0
      · exact key 1
      · exact key 2
      · exact key 3
      · exact key 4
      · exact key 5
      · exact key 6
      · exact key 7
      · exact key 8
      · exact key 9
    · injection hr with _ h2
      cases h2
  · rename_i h0
    injection hr with _ h2
    exact absurd h2 h0
/-- a byte that a segment hasn't -/
theorem segH_free {g : Hd} {z : UInt8} (hz : z ∉ ([77, 83, 72] : List UInt8)) (hs : z ∉ g.d.l) (ht : ∀ b ∈ g.l, z ∉ b.data.toList) : z ∉ segH g := by
  rw [segH_eq]
  intro hm
  rcases List.mem_append.1 hm with hm | hm
  · simp only [List.mem_cons, List.not_mem_nil, or_false] at hm hz
    rcases hm with e | e | e | hm
    · exact hz (.inl e)
    · exact hz (.inr (.inl e))
    · exact hz (.inr (.inr e))
    · exact hs (by simpa [Sgn.l] using hm)
  · unfold Lib.joinTail at hm
    obtain ⟨y, hy, hm⟩ := List.mem_flatten.1 hm
    obtain ⟨x, hx, rfl⟩ := List.mem_map.1 hy
    rcases List.mem_append.1 hm with hm | hm
    · exact hs (by rw [List.mem_singleton.1 hm]; simp [Sgn.l])
    · obtain ⟨b, hb, rfl⟩ := List.mem_map.1 (List.mem_of_mem_take hx)
      exact ht b hb hm
theorem sign_free {s : Sgn} (h : s.good = true) {z : UInt8} (hz : isSign z.toNat = false) : z ∉ s.l := fun hm => by
  have := (good_signs h).1 z hm
  rw [hz] at this
  cases this
/-- what is answered -/
def replyD (l : List UInt8) (kept : Bool) : List UInt8 × Bool :=
  if (verdictD l).2.1 = ⟨#[]⟩ ∨ good l = false then ([], false)
  else (11 :: ((buildD (verdictD l).1 (if (verdictD l).2.1 = cB 0 ∧ kept = false then cB 1 else (verdictD l).2.1)).1 ++ [28, 13]), true)
theorem codeOf_ne (e : Int) : codeOf e ≠ ⟨#[]⟩ ∧ codeD (codeOf e) = true ∧ (codeOf e).size = 2 := by
  unfold codeOf
  split
  · decide +kernel
  · split <;> decide +kernel
theorem verdict_some {l : List UInt8} (h : (verdictD l).2.1 ≠ ⟨#[]⟩) : ∃ g, readH l = (g, 0) ∧ (28 : UInt8) ∉ seg1 l ∧ verdictD l = (g, codeOf (checkD g), checkD g) := by
  unfold verdictD at h ⊢
  split at h
  · rename_i h0
    rw [if_pos h0]
    split at h
    · exact absurd rfl h
    · rename_i h28
      rw [if_neg h28]
      exact ⟨(readH l).1, by rw [← h0], h28, rfl⟩
  · exact absurd rfl h
/-- the answer to a head that was read is there, and may be in a frame -/
theorem answer_good {l : List UInt8} {g : Hd} (hr : readH l = (g, 0)) (h28 : (28 : UInt8) ∉ seg1 l) (hl : good l = true) {c : ByteArray} (hc : codeD c = true) :
    buildD g c = (segH (ansH g) ++ 13 :: (makeD msaB g.d.a [c.data.toList, g.a7.data.toList] ++ [13]), 0) ∧ good (buildD g c).1 = true := by
  obtain ⟨hg, hs, _⟩ := read_stands hr
  have ht := texts_seg1 hr
  have hca := good_a hg
  have hack : standD g.d.a ⟨#[65, 67, 75]⟩ = true := by
    simp only [standD, Bool.and_eq_true, Bool.not_eq_true']
    constructor
    · rw [← Bool.not_eq_true, List.contains_iff_mem]
      intro hm
      simp only [List.mem_cons, List.not_mem_nil, or_false] at hm
      rcases hm with e | e | e <;> exact sign_no_letter hca _ (by decide) e
    · decide
  have hnil : standD g.d.a ⟨#[]⟩ = true := by simp [standD]
  have hsa : (ansH g).l.all (standD g.d.a) = true := by
    rw [ansH_l]
    simp only [Hd.l, List.all_cons, List.all_nil, Bool.and_true, Bool.and_eq_true] at hs ⊢
    obtain ⟨h0, h1, h2, h3, h4, h5, h6, h7, h8, h9⟩ := hs
    exact ⟨h2, h3, h0, h1, h4, hnil, hack, h7, h8, h9⟩
  have e : buildD g c = (segH (ansH g) ++ 13 :: (makeD msaB g.d.a [c.data.toList, g.a7.data.toList] ++ [13]), 0) := by
    unfold buildD
    rw [if_pos hc, writeH_good (h := ansH g) hg hsa, if_pos rfl]
    simp [joinD]
  refine ⟨e, ?_⟩
  rw [e]
  have free : ∀ z : UInt8, isSign z.toNat = false → z ∉ ([77, 83, 72, 65, 67, 75, 13] : List UInt8) → z ∉ c.data.toList → z ∉ seg1 l → z ∉ segH (ansH g) ++ 13 :: (makeD msaB g.d.a [c.data.toList, g.a7.data.toList] ++ [13]) := by
    intro z hz hk hzc hzs hm
    have hsg := sign_free hg hz
    have htx : ∀ b ∈ g.l, z ∉ b.data.toList := fun b hb hy => hzs (ht b hb z hy)
    simp only [List.mem_cons, List.not_mem_nil, or_false, not_or] at hk
    obtain ⟨k1, k2, k3, k4, k5, k6, k7⟩ := hk
    have hans : ∀ b ∈ (ansH g).l, z ∉ b.data.toList := by
      intro b hb
      rw [ansH_l] at hb
      simp only [List.mem_cons, List.not_mem_nil, or_false] at hb
      have m : ∀ x, x ∈ g.l → z ∉ x.data.toList := htx
      rcases hb with rfl | rfl | rfl | rfl | rfl | rfl | rfl | rfl | rfl | rfl
      · exact m _ (by simp [Hd.l])
      · exact m _ (by simp [Hd.l])
      · exact m _ (by simp [Hd.l])
      · exact m _ (by simp [Hd.l])
      · exact m _ (by simp [Hd.l])
      · simp
      · simp [k4, k5, k6]
      · exact m _ (by simp [Hd.l])
      · exact m _ (by simp [Hd.l])
      · exact m _ (by simp [Hd.l])
    rcases List.mem_append.1 hm with hm | hm
    · exact segH_free (g := ansH g) (by simp [k1, k2, k3]) hsg hans hm
    · rcases List.mem_cons.1 hm with hm | hm
      · exact k7 hm
      · rcases List.mem_append.1 hm with hm | hm
        · rw [makeD_two] at hm
          have ha : z ≠ g.d.a := fun e => hsg (by rw [e]; simp [Sgn.l])
          simp only [Lib.joinTail, List.map_cons, List.map_nil, List.flatten_cons, List.flatten_nil, List.append_nil, List.mem_append, List.mem_cons, List.not_mem_nil, or_false] at hm
          rcases hm with (e | e | e) | (e | e) | (e | e)
          · exact k1 e
          · exact k2 e
          · exact k4 e
          · exact ha e
          · exact hzc e
          · exact ha e
          · exact htx g.a7 (by simp [Hd.l]) e
        · exact k7 (List.mem_singleton.1 hm)
  have hcc : ∀ z : UInt8, z ∈ c.data.toList → z = 65 ∨ z = 69 ∨ z = 82 := by
    intro z hz
    rcases code_mem hc with rfl | rfl | rfl <;> simp [cB] at hz <;> rcases hz with rfl | rfl <;> simp
  have f11 := free 11 (by decide) (by decide) (fun hm => by rcases hcc _ hm with e | e | e <;> exact absurd e (by decide)) (fun hm => good_no_start hl (seg1_sub l _ hm))
  have f28 := free 28 (by decide) (by decide) (fun hm => by rcases hcc _ hm with e | e | e <;> exact absurd e (by decide)) h28
  refine good_of f11 (fun i hi => ?_)
  unfold badAt
  obtain ⟨X, hX⟩ : ∃ X, X = segH (ansH g) ++ 13 :: (makeD msaB g.d.a [c.data.toList, g.a7.data.toList] ++ [13]) := ⟨_, rfl⟩
  rw [← hX] at f28 hi ⊢
  have hne : X[i]? ≠ some 28 := fun e => f28 (List.mem_of_getElem? e)
  simp [hne]
end Go.Proofs.YtodjilljcjkacaaGreatDoor
/- Heads as whole rows: a load, a store and an answer of a head, in one step each. -/
namespace Go.Proofs.YtodjilljcjkacaaGreatDoor
open Go.RowKit

theorem head_size : (Tryz.prog.info? TH).map (·.size) = some 15 := by kernel_rfl
theorem cells_one (h : Hd) : h.cells.all (·.oneCell') = true := by kernel_rfl
theorem BoxH.setRow {h0 : Hd} {g : Nat} {w : World} (k : BoxH h0 g w) (h : Hd) : BoxH h g (w.setRow g h.cells) := setRow_heap w g _ _ _ _ k
theorem BoxH.setRow_other {h : Hd} {g t : Nat} {w : World} (k : BoxH h g w) (hne : g ≠ t) (c : Array Value) : BoxH h g (w.setRow t c) := (_root_.Go.setRow_other w t g c hne).trans k
theorem BoxS.setRow_other {d : Sgn} {g t : Nat} {w : World} (k : BoxS d g w) (hne : g ≠ t) (c : Array Value) : BoxS d g (w.setRow t c) := (_root_.Go.setRow_other w t g c hne).trans k

theorem wp_storeH {dst : Option Tmp} {x y : Operand} {ty : TypeId} {pos : String} {af} {a : Act} {w : World} {K : Act → World → Prop} {Q : Exit → Act → World → Prop} {gd}
    (g : Nat) (h h0 : Hd) (hx : a.eval x = .pointer (some ⟨g, 0, none⟩)) (hy : a.eval y = h.v) (k : BoxH h0 g w)
    (next : K (a.put dst undef) (w.setRow g h.cells)) : (⟨dst, .store TH x y, ty, pos, af, gd⟩ : Oper).wp Tryz.prog a w K Q :=
  wp_store_row TH x y rfl g h.cells hx hy TH h0.cells k head_size rfl (cells_one h) next
theorem wpList_storeH {ops : Array Oper} {rest : List Oper} {dst : Option Tmp} {x y : Operand} {ty : TypeId} {pos : String} {af} {a : Act} {w : World} {Q : Exit → Act → World → Prop}
    (g : Nat) (h h0 : Hd) (hx : a.eval x = .pointer (some ⟨g, 0, none⟩)) (hy : a.eval y = h.v) (k : BoxH h0 g w)
    (next : wpList Tryz.prog ops Q rest (a.put dst undef) (w.setRow g h.cells)) : wpList Tryz.prog ops Q ((⟨dst, .store TH x y, ty, pos, af, none⟩ : Oper) :: rest) a w :=
  wpList_store_row rfl TH x y rfl g h.cells hx hy TH h0.cells k head_size rfl (cells_one h) next
theorem wp_loadH {dst : Option Tmp} {x : Operand} {ty : TypeId} {pos : String} {af} {a : Act} {w : World} {K : Act → World → Prop} {Q : Exit → Act → World → Prop} {gd}
    (g : Nat) (h : Hd) (hx : a.eval x = .pointer (some ⟨g, 0, none⟩)) (k : BoxH h g w)
    (next : K (a.put dst h.v) w) : (⟨dst, .load TH x, ty, pos, af, gd⟩ : Oper).wp Tryz.prog a w K Q :=
  wp_load_row TH x rfl g hx TH h.cells (0, 0) _ k Tryz.underlying111 rfl head_size next
/-- a head's parts -/
abbrev Hd.parts (h : Hd) : List (Nat × Value) := [(0, h.d.v), (1, .string h.a0), (2, .string h.a1), (3, .string h.a2), (4, .string h.a3), (5, .string h.a4), (6, .string h.a5), (7, .string h.a6), (8, .string h.a7), (9, .string h.a8), (10, .string h.a9)]
theorem wpList_loadHG {ops : Array Oper} {rest : List Oper} {dst : Option Tmp} {x : Operand} {ty : TypeId} {pos : String} {af} {gd} {a : Act} {w : World} {Q : Exit → Act → World → Prop}
    (g : Nat) (h : Hd) (hw : Region.wanted (⟨dst, .load TH x, ty, pos, af, gd⟩ : Oper) (yielded ops a.tmps) = true) (hx : a.eval x = .pointer (some ⟨g, 0, none⟩)) (k : BoxH h g w)
    (next : wpList Tryz.prog ops Q rest (a.put dst h.v) w) : wpList Tryz.prog ops Q ((⟨dst, .load TH x, ty, pos, af, gd⟩ : Oper) :: rest) a w :=
  wpList_step fun K hK => by rw [if_pos hw]; exact wp_loadH g h hx k (hK _ _ next)
end Go.Proofs.YtodjilljcjkacaaGreatDoor
/- A region that draws its order: what holds behind each operation may be said anew. No condition. -/
namespace Go.Proofs.YtodjilljcjkacaaGreatDoor
open Go.RowKit

theorem wpAnyH_imp {P : Program} {md : Region.Mode} {ops : Array Oper} {Q : Exit → Act → World → Prop} {S S' : World → Prop} (h : ∀ w, S' w → S w) : ∀ (fuel : Nat) (listed : Array Bool) (a : Act) (w : World), wpAnyH P md ops Q S' fuel listed a w → wpAnyH P md ops Q S fuel listed a w
  | 0, _, _, _, hh => hh
  | fuel + 1, _, _, _, hh => ⟨hh.1, fun i hi => wpOp_mono (fun a' w' h' => ⟨h _ h'.1, wpAnyH_imp h fuel _ a' w' h'.2⟩) (hh.2 i hi)⟩
end Go.Proofs.YtodjilljcjkacaaGreatDoor
/- Layer 11: the first segment, the codes by errors, and what a message is worth, walked. -/
namespace Go.Proofs.YtodjilljcjkacaaGreatDoor
open Go.RowKit

theorem results_tmp3 {fn : Func} {t u v : Tmp} (h : fn.results = #[.tmp t, .tmp u, .tmp v]) (tmps : Array Value) (P : Program) (w : World) :
    (results fn tmps).run P w = .ok (.tuple #[tmps.getD t undef, tmps.getD u undef, tmps.getD v undef]) w := by
  simp [results, h]
set_option maxRecDepth 100000 in
set_option maxHeartbeats 2000000 in
theorem bytesIndex1 (A : Option Addr) (n c : Nat) (l : List UInt8) (g : Nat) (w : World) (hB : Bs w A n c l) (hg : w.heap[g]? = some (.cells #[.int .u8 13] 5)) :
    Calls Tryz.prog 178 #[.slice A n c, .slice (some ⟨g, 0, none⟩) 1 1] w fun e w' => e = .returned (.int .i64 (Lib.indexByte l 13)) ∧ w' = w := by
  have HBS := Lib.hid hB
  have hc := cell_of_row w g 0 _ _ _ hg
  simp only [List.getElem?_toArray, List.getElem?_cons_zero] at hc
  clear hB hg
  go_enter Tryz.func178, Tryz.ntmps178
  go_wp2_with (fail)
  refine (indexByte_any A n c l 13 13 rfl w HBS.out).mono ?_
  rintro e w1 ⟨rfl, rfl⟩
  clear hc
  go_wp2_with (fail)
  go_ret
  exact ⟨rfl, rfl⟩

set_option maxRecDepth 100000 in
set_option maxHeartbeats 2000000 in
theorem bytesCut13 (A : Option Addr) (n c : Nat) (l : List UInt8) (g : Nat) (w : World) (hB : Bs w A n c l) (hg : w.heap[g]? = some (.cells #[.int .u8 13] 5)) :
    Calls Tryz.prog 156 #[.slice A n c, .slice (some ⟨g, 0, none⟩) 1 1] w fun e w' => ∃ k v b, e = .returned (.tuple #[.slice A k c, v, .bool b]) ∧ Bs w' A k c (seg1 l) ∧ Below w.heap.size w w' := by
  have HBS := Lib.hid hB
  have HL := Lib.hid hB.len
  have hle := hB.le
  have hnm := hB.nmax
  have HGE := Lib.hid (Lib.indexByte_ge l 13)
  have HLT := Lib.hid (indexByte_lt l 13)
  have HG := Lib.hid hg
  have hmx := hB.max
  clear hB hg
  go_enter Tryz.func156, Tryz.ntmps156
  go_wp2_with (fail)
  refine (bytesIndex1 A n c l g w HBS.out HG.out).mono ?_
  rintro e w1 ⟨rfl, rfl⟩
  by_cases h0 : Lib.indexByte l 13 < 0
  · as_aux_lemma =>
    have HS : Hid (seg1 l = l) := Lib.hid (if_pos h0)
    have hi : Lib.indexByte l 13 = -1 := by have := HGE.out; omega
    rw [hi]
    clear h0 hi
    go_wp2_with (fail)
    refine bodyPost_ret (v := .tuple #[.slice A n c, .slice none 0 0, .bool false]) ?_ rfl ⟨n, _, _, rfl, by rw [HS.out]; exact HBS.out, Below.refl _ _⟩
    simp [results, Tryz.results156, go_sem]
  · as_aux_lemma =>
    obtain ⟨k, hk⟩ : ∃ k : Nat, Lib.indexByte l 13 = (k : Int) := ⟨(Lib.indexByte l 13).toNat, by omega⟩
    have HS : Hid (seg1 l = l.take k) := Lib.hid (by unfold seg1; rw [if_neg h0, hk]; rfl)
    have hkn : k < n := by have := HLT.out; rw [hk, HL.out] at this; omega
    have HBK : Hid (∀ q, Bs (w1.drewN q) A k c (seg1 l)) := Lib.hid (fun q => by rw [HS.out]; exact (HBS.out.drewN q).take (by omega))
    rw [hk]
    obtain ⟨b, o, rfl, _, _⟩ := HBS.out.at_ (by omega)
    have e1 : (0 : Int) ≤ (k : Int) := by omega
    have e2 : (k : Int) ≤ (n : Int) := by omega
    have e3 : (k : Int) ≤ (c : Int) := by omega
    have e4 : (0 : Int) ≤ (k : Int) + 1 := by omega
    have e5 : (k : Int) + 1 ≤ (n : Int) := by omega
    have e6 : (n : Int) ≤ (c : Int) := by omega
    have e7 : ((k : Int) + 1).toNat = k + 1 := by omega
    have d1 : decide ((0 : Int) ≤ (k : Int)) = true := by simp
    have w1' : IntKind.i64.wrap ((k : Int) + 1) = (k : Int) + 1 := IntWalk.i64_in _ (by omega)
    by_cases hcc : c = k + 1
    · as_aux_lemma =>
      have e8 : (c : Int) = (k : Int) + 1 := by omega
      clear h0 hk hkn hle hnm hmx hcc
      go_wp2_with (fail)
      go_quiet (fail)
      go_wp2_with (fail)
      refine bodyPost_ret (results_tmp3 Tryz.results156 _ _ _) rfl ⟨k, _, true, rfl, HBK.out _, drawN_below (Below.refl _ _) _⟩
    · as_aux_lemma =>
      have e8 : ¬ (c : Int) = (k : Int) + 1 := by omega
      have e9 : ¬ c = k + 1 := hcc
      clear h0 hk hkn hle hnm hmx hcc
      go_wp2_with (fail)
      go_quiet (fail)
      go_wp2_with (fail)
      refine bodyPost_ret (results_tmp3 Tryz.results156 _ _ _) rfl ⟨k, _, true, rfl, HBK.out _, drawN_below (Below.refl _ _) _⟩

set_option maxRecDepth 100000 in
set_option maxHeartbeats 2000000 in
theorem firstSegment_ (A : Option Addr) (n c : Nat) (l : List UInt8) (w : World) (hB : Bs w A n c l) :
    Calls Tryz.prog 112 #[.slice A n c] w fun e w' => ∃ k, e = .returned (.slice A k c) ∧ Bs w' A k c (seg1 l) ∧ Below w.heap.size w w' := by
  have HB1 : Hid (Bs (w.alloc (.cells #[.int .u8 13] 5)) A n c l) := Lib.hid (hB.alloc _)
  have HG : Hid ((w.alloc (.cells #[.int .u8 13] 5)).heap[w.heap.size]? = some (.cells #[.int .u8 13] 5)) := Lib.hid (heap_alloc_new w _)
  have HB0 : Hid (Below w.heap.size w (w.alloc (.cells #[.int .u8 13] 5))) := Lib.hid ((Below.refl _ w).alloc (Nat.le_refl _) _)
  clear hB
  go_enter Tryz.func112, Tryz.ntmps112
  go_wp2_with (fail)
  refine (bytesCut13 A n c l w.heap.size _ HB1.out HG.out).mono ?_
  rintro e w1 ⟨k, v, b, rfl, hB2, hb2⟩
  have HB2 := Lib.hid hB2
  have HBB := Lib.hid (HB0.out.trans (hb2.mono HB0.out.size))
  clear hB2 hb2
  go_wp2_with (fail)
  go_ret
  exact ⟨k, rfl, HB2.out, HBB.out⟩

/-- the codes by errors -/
def codesM : List (Int × Value) := [(0, .string (cB 0)), (14, .string (cB 1)), (12, .string (cB 2)), (13, .string (cB 2))]
abbrev i64v (k : Int) : Value := .int .i64 k
noncomputable def keyI64 {P : Program} {k : TypeId} (h : P.underlying k = some (.int .i64)) : KeyK P k Int i64v :=
  ⟨.int .i64, h, fun _ => rfl, fun a b => by
    simp only [Instr.sameNow, if_true, Option.some.injEq]
    rw [Bool.eq_iff_iff]
    simp, fun a => by simp [Instr.sameBits]⟩
theorem code_get (e : Int) (h : e = 0 ∨ e = 14 ∨ e = 12 ∨ e = 13) : aget codesM e = some (.string (codeOf e)) := by
  rcases h with rfl | rfl | rfl | rfl <;> rfl

set_option maxRecDepth 100000 in
set_option maxHeartbeats 2000000 in
theorem codes_ (w : World) : Calls Tryz.prog 114 #[] w fun e w' => ∃ M, e = .returned (.map (some M)) ∧ MapIs i64v w' M codesM ∧ Below w.heap.size w w' := by
  have hmm := @run_makeMap Tryz.prog
  have HM0 : Hid (MapIs i64v (w.alloc (.map #[] 0)) w.heap.size ([] : List (Int × Value))) := Lib.hid (MapIs.new i64v w)
  have HB0 : Hid (Below w.heap.size w (w.alloc (.map #[] 0))) := Lib.hid ((Below.refl _ w).alloc (Nat.le_refl _) _)
  have tok1 : Hid True := Lib.hid trivial
  have tok2 : Hid True := Lib.hid trivial
  have tok3 : Hid True := Lib.hid trivial
  have tok4 : Hid True := Lib.hid trivial
  go_enter Tryz.func114, Tryz.ntmps114
  go_wp2_with (first
    | (have _t := tok1; go_loud ((refine wpList_updateL rfl (keyI64 Tryz.underlying46) (.tmp 1) _ _ 183 9 (.inr rfl) Tryz.underlying183 w.heap.size _ rfl HM0.out 0 rfl _ rfl ?_; intro w1 hm1 hc1 hs1; have HM1 := Lib.hid hm1; have HB1 := Lib.hid (HB0.out.trans (hc1.below (fun j hj => by rw [hj]; exact Nat.le_refl _) HB0.out.size)); clear tok1 _t hm1 hc1 hs1)))
    | (have _t := tok2; go_loud ((refine wpList_updateL rfl (keyI64 Tryz.underlying46) (.tmp 1) _ _ 183 9 (.inr rfl) Tryz.underlying183 w.heap.size _ rfl HM1.out 14 rfl _ rfl ?_; intro w2 hm2 hc2 hs2; have HM2 := Lib.hid hm2; have HB2 := Lib.hid (HB1.out.trans (hc2.below (fun j hj => by rw [hj]; exact Nat.le_refl _) HB1.out.size)); clear tok2 _t hm2 hc2 hs2)))
    | (have _t := tok3; go_loud ((refine wpList_updateL rfl (keyI64 Tryz.underlying46) (.tmp 1) _ _ 183 9 (.inr rfl) Tryz.underlying183 w.heap.size _ rfl HM2.out 12 rfl _ rfl ?_; intro w3 hm3 hc3 hs3; have HM3 := Lib.hid hm3; have HB3 := Lib.hid (HB2.out.trans (hc3.below (fun j hj => by rw [hj]; exact Nat.le_refl _) HB2.out.size)); clear tok3 _t hm3 hc3 hs3)))
    | (have _t := tok4; go_loud ((refine wpList_updateL rfl (keyI64 Tryz.underlying46) (.tmp 1) _ _ 183 9 (.inr rfl) Tryz.underlying183 w.heap.size _ rfl HM3.out 13 rfl _ rfl ?_; intro w4 hm4 hc4 hs4; have HM4 := Lib.hid hm4; have HB4 := Lib.hid (HB3.out.trans (hc4.below (fun j hj => by rw [hj]; exact Nat.le_refl _) HB3.out.size)); clear tok4 _t hm4 hc4 hs4))))
  go_ret
  exact ⟨w.heap.size, rfl, HM4.out, HB4.out⟩

theorem exec_code {dst : Option Tmp} {x y : Operand} {ty : TypeId} {pos : String} {af} {gd} {a : Act} {W : World} (M : Nat) (K : Int) (hx : a.eval x = .map (some M)) (hy : a.eval y = .int .i64 K) (hK : K = 0 ∨ K = 14 ∨ K = 12 ∨ K = 13) (hM : MapIs i64v W M codesM) :
    (execOp a.eval (⟨dst, .lookup 183 x y false, ty, pos, af, gd⟩ : Oper)).run Tryz.prog W = .ok (.value (.string (codeOf K))) W := by
  have hz : (zeroValue 9).run Tryz.prog W = .ok (.string ⟨#[]⟩) W := by kernel_rfl
  have hrun := run_lookupL (keyI64 Tryz.underlying46) 183 9 Tryz.underlying183 W M codesM hM K _ hz false
  rw [code_get K hK] at hrun
  unfold execOp
  simp only [hx, hy, Sem.run_bind]
  rw [hrun]
  rfl
theorem exec_loadH {dst : Option Tmp} {x : Operand} {ty : TypeId} {pos : String} {af} {gd} {a : Act} {W : World} (g : Nat) (h : Hd) (hx : a.eval x = .pointer (some ⟨g, 0, none⟩)) (k : BoxH h g W) :
    (execOp a.eval (⟨dst, .load TH x, ty, pos, af, gd⟩ : Oper)).run Tryz.prog W = .ok (.value h.v) W := by
  unfold execOp
  simp only [hx, Instr.loadAt, Instr.sureAddr, Sem.run_bind, Sem.run_pure, Result.andThen_ok, run_loadVar_row W g TH TH h.cells (0, 0) _ k Tryz.underlying111 rfl head_size]
/-- an answer of a head and two more -/
theorem resultsH3 {fn : Func} {p u v : Tmp} (hf : fn.results = #[.cell p TH, .tmp u, .tmp v]) (tmps : Array Value) (w : World) (g : Nat) (h : Hd) (y z : Value)
    (hp : tmps.getD p undef = .pointer (some ⟨g, 0, none⟩)) (hy : tmps.getD u undef = y) (hz : tmps.getD v undef = z) (k : BoxH h g w) : (results fn tmps).run Tryz.prog w = .ok (.tuple #[h.v, y, z]) w := by
  have hp' : tmps[p]?.getD undef = .pointer (some ⟨g, 0, none⟩) := by simpa using hp
  have hy' : tmps[u]?.getD undef = y := by simpa using hy
  have hz' : tmps[v]?.getD undef = z := by simpa using hz
  simp [results, hf, hp', hy', hz', asAddr, run_loadVar_row w g TH TH h.cells (0, 0) _ k Tryz.underlying111 rfl head_size]

set_option maxRecDepth 100000 in
set_option maxHeartbeats 4000000 in
theorem verdict_ (A : Option Addr) (n c : Nat) (l : List UInt8) (w : World) (hv : Vers w) (hB : Bs w A n c l) (hn : n ≤ 1000000) :
    Calls Tryz.prog 84 #[.slice A n c] w fun e w' => e = .returned (.tuple #[(verdictD l).1.v, .string (verdictD l).2.1, .int .i64 (verdictD l).2.2]) ∧ Below w.heap.size w w' := by
  have HN := Lib.hid hn
  have HL := Lib.hid hB.len
  have HV := Lib.hid (fun W (hb : Below w.heap.size w W) => hv.below hb)
  have HZ0 : Hid (BoxH Hd.zero w.heap.size (w.alloc (.cells Hd.zero.cells TH))) := Lib.hid (BoxH.new _ w)
  have HB0 : Hid (Below w.heap.size w (w.alloc (.cells Hd.zero.cells TH))) := Lib.hid (boxHd_below _ w)
  have HBS := Lib.hid (hB.below (boxHd_below Hd.zero w))
  clear hB hn hv
  go_enter Tryz.func84, Tryz.ntmps84
  go_wp2_with (fail)
  generalize hw0 : w.alloc (.cells #[.int .u8 0, .int .u8 0, .int .u8 0, .int .u8 0, .int .u8 0, .string ⟨#[]⟩, .string ⟨#[]⟩, .string ⟨#[]⟩, .string ⟨#[]⟩, .string ⟨#[]⟩, .string ⟨#[]⟩, .string ⟨#[]⟩, .string ⟨#[]⟩, .string ⟨#[]⟩, .string ⟨#[]⟩] TH) = w0
  rw [show w.alloc (.cells Hd.zero.cells TH) = w0 from hw0] at HZ0 HB0 HBS
  clear hw0
  refine (read_ A n c l w0 HBS.out HN.out).mono ?_
  rintro e w1 ⟨rfl, hb1⟩
  have HZ1 := Lib.hid (HZ0.out.below hb1)
  have HB1 := Lib.hid (HB0.out.trans (hb1.mono HB0.out.size))
  have HBS1 := Lib.hid (HBS.out.below hb1)
  clear hb1 HZ0 HBS HB0
  have HVD : Hid (verdictD l = if (readH l).2 = 0 then if (28 : UInt8) ∈ seg1 l then (Hd.zero, ⟨#[]⟩, 10) else ((readH l).1, codeOf (checkD (readH l).1), checkD (readH l).1) else (Hd.zero, ⟨#[]⟩, (readH l).2)) := Lib.hid rfl
  have HKS : Hid (readH l = ((readH l).1, 0) → (readH l).1.a8.size ≤ n ∧ (readH l).1.a9.size ≤ n) := Lib.hid (fun hr => by
    have t := sum_le_of (read_stands hr).2.2
    rw [HL.out] at t
    exact ⟨t.1, t.2.1⟩)
  obtain ⟨h, hh⟩ : ∃ h, h = (readH l).1 := ⟨_, rfl⟩
  obtain ⟨x, hx⟩ : ∃ x, x = (readH l).2 := ⟨_, rfl⟩
  have HPR : Hid (readH l = (h, x)) := Lib.hid (by rw [hh, hx])
  rw [← hh, ← hx] at HVD ⊢
  rw [← hh] at HKS
  clear hh hx
  have HX2 : Hid (BoxH h w1.heap.size (w1.alloc (.cells h.cells TH))) := Lib.hid (BoxH.new h w1)
  have HZ2 : Hid (BoxH Hd.zero w.heap.size (w1.alloc (.cells h.cells TH))) := Lib.hid (HZ1.out.below (boxHd_below h w1))
  have HB2 : Hid (Below w.heap.size w (w1.alloc (.cells h.cells TH))) := Lib.hid (HB1.out.alloc HB1.out.size _)
  have HBS2 : Hid (Bs (w1.alloc (.cells h.cells TH)) A n c l) := Lib.hid (HBS1.out.alloc _)
  have HGG : Hid (w.heap.size < w1.heap.size) := Lib.hid (Array.getElem?_eq_some_iff.1 HZ1.out).1
  by_cases he : x = 0
  · subst he
    rw [if_pos rfl] at HVD
    have HK2 := Lib.hid (HKS.out HPR.out)
    clear HKS
    go_wp2_with (fail)
    obtain ⟨G, hG⟩ : ∃ G, G = w1.heap.size := ⟨_, rfl⟩
    rw [← hG] at HX2 HGG ⊢
    clear hG
    generalize w1.alloc (.cells #[u8 h.d.a, u8 h.d.b, u8 h.d.c, u8 h.d.d, u8 h.d.e, .string h.a0, .string h.a1, .string h.a2, .string h.a3, .string h.a4, .string h.a5, .string h.a6, .string h.a7, .string h.a8, .string h.a9] TH) = w2 at *
    refine (firstSegment_ A n c l w2 HBS2.out).mono ?_
    rintro e w3 ⟨k, rfl, hS3, hb3⟩
    have HX3 := Lib.hid (HX2.out.below hb3)
    have HZ3 := Lib.hid (HZ2.out.below hb3)
    have HB3 := Lib.hid (HB2.out.trans (hb3.mono HB2.out.size))
    have HS3 := Lib.hid hS3
    clear hb3 hS3 HX2 HZ2 HB2 HBS2 HZ1 HB1 HBS1
    go_wp2_with (fail)
    refine (indexByte_any A k c (seg1 l) 28 28 rfl w3 HS3.out).mono ?_
    rintro e w4 ⟨rfl, rfl⟩
    by_cases h28 : (28 : UInt8) ∈ seg1 l
    · as_aux_lemma =>
      have HE : Hid (verdictD l = (Hd.zero, ⟨#[]⟩, 10)) := Lib.hid (by rw [HVD.out, if_pos h28])
      have hi := indexByte_pos h28
      obtain ⟨i, hi2⟩ : ∃ i, i = Lib.indexByte (seg1 l) 28 := ⟨_, rfl⟩
      rw [← hi2] at hi ⊢
      clear h28 hi2
      go_wp2_with (with_reducible refine wpList_storeH w.heap.size Hd.zero Hd.zero (by kernel_rfl) (by kernel_rfl) HZ3.out ?_)
      have HR := Lib.hid (HZ3.out.setRow Hd.zero)
      have HBR := Lib.hid (below_setRow HB3.out (Nat.le_refl _) Hd.zero.cells)
      generalize w3.setRow w.heap.size Hd.zero.cells = w5 at *
      refine bodyPost_ret (v := .tuple #[Hd.zero.v, .string ⟨#[]⟩, .int .i64 10]) ?_ rfl ⟨by rw [HE.out], HBR.out⟩
      exact resultsH3 Tryz.results84 _ _ _ _ _ _ (by kernel_rfl) (by kernel_rfl) (by kernel_rfl) HR.out
    · have HE : Hid (verdictD l = (h, codeOf (checkD h), checkD h)) := Lib.hid (by rw [HVD.out, if_neg h28])
      rw [indexByte_neg h28]
      clear h28
      go_wp2_with (with_reducible refine wpList_loadHG G h (by kernel_rfl) (by kernel_rfl) HX3.out ?_)
      refine (check_ h w3 (HV.out _ HB3.out) (by have := HK2.out.1; have := HN.out; omega) (by have := HK2.out.2; have := HN.out; omega)).mono ?_
      rintro e w5 ⟨rfl, hb5⟩
      have HX5 := Lib.hid (HX3.out.below hb5)
      have HZ5 := Lib.hid (HZ3.out.below hb5)
      have HB5 := Lib.hid (HB3.out.trans (hb5.mono HB3.out.size))
      have HCC := Lib.hid (checkD_cases h)
      clear hb5 HX3 HZ3 HB3
      obtain ⟨K, hK⟩ : ∃ K, K = checkD h := ⟨_, rfl⟩
      rw [← hK] at HE HCC ⊢
      clear hK
      go_wp2_with (fail)
      refine wp_region_held_drew (S := fun W => BoxH h G W ∧ (∃ x, BoxH x w.heap.size W) ∧ Below w.heap.size w W) (by kernel_rfl) ?_ (fun hHeld => ?_)
      · exact ⟨BoxH.drew HX5.out, ⟨_, BoxH.drew HZ5.out⟩, HB5.out.drew⟩
      clear HX5 HZ5 HB5
      generalize w5.drew = w6 at *
      refine wpAnyH_take (i := 0) (oi := ⟨some 23, _, _, _, _, _⟩) (v := h.v) rfl (by kernel_rfl) (by kernel_rfl) (by kernel_rfl) (fun _ _ _ h => h) (Or.inl ⟨by kernel_rfl, ?hy0⟩) hHeld ?r0
      case hy0 =>
        intro W hW
        exact exec_loadH G h (by kernel_rfl) hW.1
      (try simp only [Act.put, List.setIfInBounds_toArray, List.set_cons_zero, List.set_cons_succ])
      refine wpAnyH_take (i := 2) (oi := ⟨some 25, _, _, _, _, _⟩) (v := .int .i64 K) rfl (by kernel_rfl) (by kernel_rfl) (by kernel_rfl) (fun _ _ _ h => h) (Or.inl ⟨by kernel_rfl, ?hy2⟩) hHeld ?r2
      case hy2 =>
        intro W hW
        rfl
      (try simp only [Act.put, List.setIfInBounds_toArray, List.set_cons_zero, List.set_cons_succ])
      refine wpAnyH_take (i := 4) (oi := ⟨some 27, _, _, _, _, _⟩) (v := .int .i64 K) rfl (by kernel_rfl) (by kernel_rfl) (by kernel_rfl) (fun _ _ _ h => h) (Or.inl ⟨by kernel_rfl, ?hy4⟩) hHeld ?r4
      case hy4 =>
        intro W hW
        rfl
      (try simp only [Act.put, List.setIfInBounds_toArray, List.set_cons_zero, List.set_cons_succ])
      have HHL := Lib.hid hHeld
      clear hHeld
      refine wpAnyH_ready (rs := [1]) (by kernel_rfl) (by simp) (AllReadyH.cons (o := _) rfl (fun K' hK => ?_) AllReadyH.nil)
      go_simp
      refine (codes_ _).mono ?_
      rintro e w7 ⟨M, rfl, hM, hb7⟩
      dsimp only
      refine hK.out _ _ ⟨HHL.out.1.below hb7, HHL.out.2.1.imp (fun _ k => k.below hb7), HHL.out.2.2.trans (hb7.mono HHL.out.2.2.size)⟩ (fun hHeld => ?_)
      clear hK K' hb7 HHL
      have HHL := Lib.hid hHeld
      have hH2 : MapIs i64v w7 M codesM := hM
      refine wpAnyH_imp (S' := fun W => (BoxH h G W ∧ (∃ x, BoxH x w.heap.size W) ∧ Below w.heap.size w W) ∧ MapIs i64v W M codesM) (fun _ h => h.1) _ _ _ _ ?_
      have hHeld2 : (BoxH h G w7 ∧ (∃ x, BoxH x w.heap.size w7) ∧ Below w.heap.size w w7) ∧ MapIs i64v w7 M codesM := ⟨hHeld, hH2⟩
      clear hHeld hM hH2
      (try simp only [Act.put, List.setIfInBounds_toArray, List.set_cons_zero, List.set_cons_succ])
      refine wpAnyH_take (i := 3) (oi := ⟨some 26, _, _, _, _, _⟩) (v := .string (codeOf K)) rfl (by kernel_rfl) (by kernel_rfl) (by kernel_rfl) (fun _ _ _ h => h) (Or.inl ⟨by kernel_rfl, ?hy3⟩) hHeld2 ?r3
      case hy3 =>
        intro W hW
        exact exec_code M K (by kernel_rfl) (by kernel_rfl) HCC.out hW.2
      (try simp only [Act.put, List.setIfInBounds_toArray, List.set_cons_zero, List.set_cons_succ])
      have HH2 := Lib.hid hHeld2
      clear hHeld2 HHL
      refine wpAnyH_ready (rs := [5]) (by kernel_rfl) (by simp) (AllReadyH.cons (o := _) rfl (fun K' hK => ?_) AllReadyH.nil)
      rw [if_pos (by kernel_rfl)]
      obtain ⟨x0, hx0⟩ := HH2.out.1.2.1
      have HX0' := Lib.hid hx0
      clear hx0
      refine wp_storeH w.heap.size h x0 (by kernel_rfl) (by kernel_rfl) HX0'.out ?_
      have HR := Lib.hid (HX0'.out.setRow h)
      have HBR := Lib.hid (below_setRow HH2.out.1.2.2 (Nat.le_refl _) h.cells)
      have HGR := Lib.hid (HH2.out.1.1.setRow_other (t := w.heap.size) (by have := HGG.out; omega) h.cells)
      refine hK.out _ _ ⟨⟨HGR.out, ⟨_, HR.out⟩, HBR.out⟩, HH2.out.2.row (setRow_other _ _ _ _ (HH2.out.2.ne HX0'.out))⟩ (fun hHeld => ?_)
      clear hK K' HH2 HX0' HGR
      generalize w7.setRow w.heap.size h.cells = w8 at *
      (try simp only [Act.put])
      refine wpAnyH_take (i := 6) (oi := ⟨some 3, _, _, _, _, _⟩) (v := .string (codeOf K)) rfl (by kernel_rfl) (by kernel_rfl) (by kernel_rfl) (fun _ _ _ h => h) (Or.inl ⟨by kernel_rfl, ?hy6⟩) hHeld ?r6
      case hy6 =>
        intro W hW
        rfl
      (try simp only [Act.put, List.setIfInBounds_toArray, List.set_cons_zero, List.set_cons_succ])
      refine wpAnyH_take (i := 7) (oi := ⟨some 4, _, _, _, _, _⟩) (v := .int .i64 K) rfl (by kernel_rfl) (by kernel_rfl) (by kernel_rfl) (fun _ _ _ h => h) (Or.inl ⟨by kernel_rfl, ?hy7⟩) hHeld ?r7
      case hy7 =>
        intro W hW
        rfl
      (try simp only [Act.put, List.setIfInBounds_toArray, List.set_cons_zero, List.set_cons_succ])
      clear hHeld
      refine wpAnyH_done (by kernel_rfl) ?_ _
      go_wp2_with (fail)
      refine bodyPost_ret (v := .tuple #[h.v, .string (codeOf K), .int .i64 K]) ?_ rfl ⟨by rw [HE.out], HBR.out⟩
      exact resultsH3 Tryz.results84 _ _ _ _ _ _ (by kernel_rfl) (by kernel_rfl) (by kernel_rfl) HR.out
  · as_aux_lemma =>
    rw [if_neg he] at HVD
    have de : (x == 0) = false := by simpa using he
    have de2 : (x != 0) = true := by simpa using he
    clear he
    go_wp2_with (with_reducible refine wpList_storeH w.heap.size Hd.zero Hd.zero (by kernel_rfl) (by kernel_rfl) HZ2.out ?_)
    have HR := Lib.hid (HZ2.out.setRow Hd.zero)
    have HBR := Lib.hid (below_setRow HB2.out (Nat.le_refl _) Hd.zero.cells)
    generalize World.setRow (w1.alloc (.cells h.cells TH)) w.heap.size Hd.zero.cells = w5 at *
    refine bodyPost_ret (v := .tuple #[Hd.zero.v, .string ⟨#[]⟩, .int .i64 x]) ?_ rfl ⟨by rw [HVD.out], HBR.out⟩
    exact resultsH3 Tryz.results84 _ _ _ _ _ _ (by kernel_rfl) (by kernel_rfl) (by kernel_rfl) HR.out
end Go.Proofs.YtodjilljcjkacaaGreatDoor
/- Layer 4: Wrap, Unwrap, Count. -/
namespace Go.Proofs.YtodjilljcjkacaaGreatDoor
open Go.RowKit

theorem byteInfoF : (Tryz.prog.info? 5).map (fun i => (i.zero, i.size, i.bytes)) = some (some (.int .u8 0), 1, 1) := by kernel_rfl

theorem frameGood (A : Option Addr) (n c : Nat) (l : List UInt8) (w : World) (hS : Signs w) (hB : Bs w A n c l) :
    Calls Tryz.prog 68 #[.slice A n c] w fun e w' => e = .returned (.bool (good l)) ∧ ∃ q, w' = w.drewN q := by
  cases hg : good l with
  | true => exact frameGood_yes A n c l w hS hB hg
  | false => exact frameGood_no A n c l w hS hB hg

theorem frameGood_b (A : Option Addr) (n c : Nat) (l : List UInt8) (w : World) (hS : Signs w) (hB : Bs w A n c l) (r : Bool) (hr : good l = r) :
    Calls Tryz.prog 68 #[.slice A n c] w fun e w' => e = .returned (.bool r) ∧ Below w.heap.size w w' := by
  subst hr
  exact (frameGood A n c l w hS hB).mono fun e w' ⟨he, q, hq⟩ => ⟨he, by rw [hq]; exact drawN_below (Below.refl _ _) q⟩

theorem frameCount (k : Int) (h0 : 0 ≤ k) (h1 : k ≤ 4611686018427387904) (w : World) :
    Calls Tryz.prog 69 #[.int .i64 k] w fun e w' => e = .returned (.int .i64 (k + 3)) ∧ w = w' := by
  go_enter Tryz.func69, Tryz.ntmps69
  go_wp2
  go_ret
  exact ⟨rfl, rfl⟩
end Go.Proofs.YtodjilljcjkacaaGreatDoor
/- Layer 4: Wrap, where the frame lies. -/
namespace Go.Proofs.YtodjilljcjkacaaGreatDoor
open Go.RowKit

/-- bytes in memory of their own -/
def RetNew (err : Int) (l : List UInt8) (w : World) (e : Ending) (w' : World) : Prop :=
  ∃ A c, e = .returned (.tuple #[.slice A l.length c, .int .i64 err]) ∧ Bs w' A l.length c l ∧ (∀ b, A = some b → w.heap.size ≤ b.block) ∧ Below w.heap.size w w'
set_option maxRecDepth 100000 in
theorem frameWrap_new (A : Option Addr) (n c : Nat) (l : List UInt8) (w : World) (hS : Signs w) (hB : Bs w A n c l) (hg : good l = true) (hn : n ≤ 140737488351232) :
    Calls Tryz.prog 38 #[.slice A n c] w (RetNew 0 (11 :: (l ++ [28, 13])) w) := by
  have hgo := Lib.hid (frameGood_b A n c l w hS hB true hg)
  have hmk : ∀ W : World, (Instr.makeSlice 40 (.int .i64 0) (.int .i64 ((n : Int) + 3))).run Tryz.prog W = .ok (.slice (some ⟨W.heap.size, 0, none⟩) 0 (n + 3)) (W.alloc (.cells (Array.replicate (n + 3) (.int .u8 0)) 5)) := by
    intro W
    rw [show ((n : Int) + 3) = ((n + 3 : Nat) : Int) from by omega]
    exact run_mk _ _ Tryz.underlying40 byteInfoF 0 (n + 3) (by omega) (by omega) W
  have HS := Lib.hid hS
  have HB := Lib.hid hB
  have HL : l.length ≤ n := by have := hB.len; omega
  have tok1 : True := trivial
  have tok2 : True := trivial
  have tok3 : True := trivial
  clear hS hB hg
  go_enter Tryz.func38, Tryz.ntmps38
  go_wp2_with (first
    | (go_at_call 68; refine (hgo.out).mono ?_; rintro e w1 ⟨rfl, hb1⟩
       have S1 := Lib.hid (HS.out.below hb1)
       have B1 := Lib.hid (HB.out.below hb1)
       obtain ⟨s0, s1, s2⟩ := HS.out.below hb1
       have hsz1 : 0 < w1.heap.size := World.block_lt_of_cell? w1 _ s0)
    | (go_at_call 69; refine (frameCount _ (by omega) (by omega) _).mono ?_; rintro e w' ⟨rfl, rfl⟩)
    | (at_builtin; have _t := tok1
       go_loud (refine wpList_app rfl (.tmp 12) (.tmp 15) 40 rfl w1.heap.size 5 Tryz.underlying40 byteInfoF _ [] rfl ((Own.made 5 w1 (Array.replicate (n + 3) (.int .u8 0)) (n + 3) (Nat.le_refl _) (by simp only [maxLen]; omega) (by simp)).alloc _) _ 1 1 [11] rfl (Bs.lit _ [11] 5 _ _ (by simp) rfl rfl (by simp [maxLen])) (by simp) (by simp; omega) ?_)
       intro v2 w2 hown2 hb2 hg2
       have b12 : Below w1.heap.size w1 w2 := (((Below.refl _ _).alloc (Nat.le_refl _) _).alloc (by simp) _).trans hb2
       clear tok1 hb2 hg2 _t)
    | (at_builtin; have _t := tok2
       go_loud (refine wpList_app rfl (.tmp 17) (.tmp 18) 40 rfl w1.heap.size 5 Tryz.underlying40 byteInfoF _ _ rfl hown2 _ n c l rfl (B1.out.below b12) (by simp; omega) b12.size ?_)
       intro v3 w3 hown3 hb3 hg3
       have b13 := b12.trans hb3
       clear tok2 hb3 hg3 _t
       obtain ⟨s03, s13, s23⟩ := S1.out.below b13)
    | (at_builtin; have _t := tok3
       go_loud (refine wpList_app rfl (.tmp 20) (.tmp 25) 40 rfl w1.heap.size 5 Tryz.underlying40 byteInfoF _ _ rfl (hown3.alloc _) _ 2 2 [28, 13] rfl (Bs.lit _ [28, 13] 5 _ _ (by simp) rfl rfl (by simp [maxLen])) (by simp; omega) (by have := b13.size; simp; omega) ?_)
       intro v4 w4 hown4 hb4 hg4
       have b14 : Below w1.heap.size w1 w4 := (b13.alloc b13.size _).trans hb4
       clear tok3 hb4 hg4 _t))
  go_ret2
  obtain ⟨A4, c4, rfl, hB4, hlo4⟩ := hown4.bs
  have hl4 : ([] ++ [11] ++ l ++ [28, 13] : List UInt8) = 11 :: (l ++ [28, 13]) := by simp
  rw [hl4] at hB4 ⊢
  exact ⟨A4, c4, rfl, hB4, fun b hb => Nat.le_trans hb1.size (hlo4 b hb), hb1.trans (b14.mono hb1.size)⟩
end Go.Proofs.YtodjilljcjkacaaGreatDoor
/- Layer 11: which messages are stored, and what is answered, walked. -/
namespace Go.Proofs.YtodjilljcjkacaaGreatDoor
open Go.RowKit

theorem code_eq0 (cd : ByteArray) : (cd.toList == [65, 65]) = decide (cd = cB 0) := by
  rw [show ([65, 65] : List UInt8) = (cB 0).toList from by decide +kernel]
  exact strEq cd (cB 0)
theorem code_isEmpty (e : Int) : (codeOf e).toList.isEmpty = false := by
  unfold codeOf
  split
  · decide +kernel
  · split <;> decide +kernel

set_option maxRecDepth 100000 in
set_option maxHeartbeats 2000000 in
theorem stored_ (A : Option Addr) (n c : Nat) (l : List UInt8) (w : World) (hv : Vers w) (hB : Bs w A n c l) (hn : n ≤ 1000000) :
    Calls Tryz.prog 82 #[.slice A n c] w fun e w' => e = .returned (.bool (decide ((verdictD l).2.1 = cB 0))) ∧ Below w.heap.size w w' := by
  go_enter Tryz.func82, Tryz.ntmps82
  go_wp2_with (fail)
  refine (verdict_ A n c l w hv hB hn).mono ?_
  rintro e w1 ⟨rfl, hb1⟩
  have HB1 := Lib.hid hb1
  clear hb1 hv hB hn
  obtain ⟨g, hg⟩ : ∃ g, g = (verdictD l).1 := ⟨_, rfl⟩
  obtain ⟨cd, hcd⟩ : ∃ cd, cd = (verdictD l).2.1 := ⟨_, rfl⟩
  obtain ⟨K, hK⟩ : ∃ K, K = (verdictD l).2.2 := ⟨_, rfl⟩
  have HCE := Lib.hid hcd
  rw [← hg, ← hcd, ← hK]
  clear hg hcd hK
  have HB2 : Hid (Below w.heap.size w (w1.alloc (.cells g.cells TH))) := Lib.hid (HB1.out.alloc HB1.out.size _)
  have hd := code_eq0 cd
  cases hdd : decide (cd = cB 0)
  · have HE : Hid (decide ((verdictD l).2.1 = cB 0) = false) := Lib.hid (by rw [← HCE.out]; exact hdd)
    rw [hdd] at hd
    clear hdd
    go_wp2_with (fail)
    go_ret
    exact ⟨by rw [HE.out]; rfl, HB2.out⟩
  · have HE : Hid (decide ((verdictD l).2.1 = cB 0) = true) := Lib.hid (by rw [← HCE.out]; exact hdd)
    rw [hdd] at hd
    clear hdd
    go_wp2_with (fail)
    go_ret
    exact ⟨by rw [HE.out]; rfl, HB2.out⟩

/-- a pair: bytes, and whether -/
def RetBN (w : World) (r : List UInt8 × Bool) (e : Ending) (w' : World) : Prop :=
  ∃ A m c, e = .returned (.tuple #[.slice A m c, .bool r.2]) ∧ Bs w' A m c r.1 ∧ (∀ b, A = some b → w.heap.size ≤ b.block) ∧ Below w.heap.size w w'
theorem RetBN.none_ {w w' : World} {r : List UInt8 × Bool} (h : r = ([], false)) (hb : Below w.heap.size w w') : RetBN w r (.returned (.tuple #[.slice none 0 0, .bool false])) w' := by
  subst h
  exact ⟨none, 0, 0, rfl, Bs.none_ _, (fun b h => by cases h), hb⟩

set_option maxRecDepth 100000 in
set_option maxHeartbeats 4000000 in
theorem reply_n (A : Option Addr) (n c : Nat) (l : List UInt8) (kept : Bool) (w : World) (hv : Vers w) (hs : Signs w) (hc : Cds w) (hB : Bs w A n c l) (hn : n ≤ 29000) :
    Calls Tryz.prog 54 #[.slice A n c, .bool kept] w (RetBN w (replyD l kept)) := by
  have HN := Lib.hid hn
  have HL := Lib.hid hB.len
  have HS := Lib.hid (fun W (hb : Below w.heap.size w W) => hs.below hb)
  have HC := Lib.hid (fun W (hb : Below w.heap.size w W) => hc.below hb)
  have HBS := Lib.hid hB
  go_enter Tryz.func54, Tryz.ntmps54
  go_wp2_with (fail)
  refine (verdict_ A n c l w hv hB (by omega)).mono ?_
  rintro e w1 ⟨rfl, hb1⟩
  have HB1 := Lib.hid hb1
  have HBS1 := Lib.hid (HBS.out.below hb1)
  clear hb1 hv hB hn hs hc HBS
  by_cases hcode : (verdictD l).2.1 = ⟨#[]⟩
  · as_aux_lemma =>
    have HR : Hid (replyD l kept = ([], false)) := Lib.hid (if_pos (.inl hcode))
    rw [hcode]
    obtain ⟨g, hg⟩ : ∃ g, g = (verdictD l).1 := ⟨_, rfl⟩
    obtain ⟨K, hK⟩ : ∃ K, K = (verdictD l).2.2 := ⟨_, rfl⟩
    rw [← hg, ← hK]
    clear hg hK hcode
    have HB2 : Hid (Below w.heap.size w (w1.alloc (.cells g.cells TH))) := Lib.hid (HB1.out.alloc HB1.out.size _)
    go_wp2_with (fail)
    go_ret2
    exact RetBN.none_ HR.out HB2.out
  · obtain ⟨g, hr, h28, hvd⟩ := verdict_some hcode
    have HRP : Hid (replyD l kept = if (verdictD l).2.1 = ⟨#[]⟩ ∨ good l = false then ([], false) else (11 :: ((buildD (verdictD l).1 (if (verdictD l).2.1 = cB 0 ∧ kept = false then cB 1 else (verdictD l).2.1)).1 ++ [28, 13]), true)) := Lib.hid rfl
    rw [hvd] at HRP ⊢
    obtain ⟨cne, ccd, csz⟩ := codeOf_ne (checkD g)
    have ce := code_isEmpty (checkD g)
    obtain ⟨K, hK⟩ : ∃ K, K = checkD g := ⟨_, rfl⟩
    rw [← hK] at HRP cne ccd csz ce ⊢
    obtain ⟨cd, hcd⟩ : ∃ cd, cd = codeOf K := ⟨_, rfl⟩
    rw [← hcd] at HRP cne ccd csz ce ⊢
    have HCD := Lib.hid (And.intro ccd csz)
    have HSU : Hid (g.sum ≤ 290000) := Lib.hid (by
      have t := (sum_le_of (read_stands hr).2.2).2.2
      rw [← Hd.sum_eq, HL.out] at t
      have := HN.out
      omega)
    have HAG := Lib.hid (fun (hl : good l = true) (c' : ByteArray) (hc' : codeD c' = true) => answer_good hr h28 hl hc')
    have HX2 : Hid (BoxH g w1.heap.size (w1.alloc (.cells g.cells TH))) := Lib.hid (BoxH.new g w1)
    have HB2 : Hid (Below w.heap.size w (w1.alloc (.cells g.cells TH))) := Lib.hid (HB1.out.alloc HB1.out.size _)
    have HBS2 : Hid (Bs (w1.alloc (.cells g.cells TH)) A n c l) := Lib.hid (HBS1.out.alloc _)
    have HCN := Lib.hid cne
    clear hK hcd ccd csz hr h28 hvd hcode cne
    go_wp2_with (fail)
    obtain ⟨G, hG⟩ : ∃ G, G = w1.heap.size := ⟨_, rfl⟩
    rw [← hG] at HX2 ⊢
    clear hG HB1 HBS1
    generalize w1.alloc (.cells #[u8 g.d.a, u8 g.d.b, u8 g.d.c, u8 g.d.d, u8 g.d.e, .string g.a0, .string g.a1, .string g.a2, .string g.a3, .string g.a4, .string g.a5, .string g.a6, .string g.a7, .string g.a8, .string g.a9] TH) = w2 at *
    refine (frameGood_b A n c l w2 (HS.out _ HB2.out) HBS2.out (good l) rfl).mono ?_
    rintro e w3 ⟨rfl, hb3⟩
    have HX3 := Lib.hid (HX2.out.below hb3)
    have HB3 := Lib.hid (HB2.out.trans (hb3.mono HB2.out.size))
    clear hb3 HX2 HB2 HBS2 ce
    cases hgl : good l
    · as_aux_lemma =>
      have HR : Hid (replyD l kept = ([], false)) := Lib.hid (by rw [HRP.out, if_pos (.inr hgl)])
      clear hgl
      go_wp2_with (fail)
      go_ret2
      exact RetBN.none_ HR.out HB3.out
    · have HA2 := Lib.hid (HAG.out hgl)
      have HR : Hid (replyD l kept = (11 :: ((buildD g (if cd = cB 0 ∧ kept = false then cB 1 else cd)).1 ++ [28, 13]), true)) := Lib.hid (by
        rw [HRP.out, if_neg]
        rintro (h | h)
        · exact HCN.out h
        · rw [hgl] at h; cases h)
      clear HAG HRP hgl
      have hd := code_eq0 cd
      cases hdd : decide (cd = cB 0)
      · as_aux_lemma =>
        rw [hdd] at hd
        have hnc : cd ≠ cB 0 := of_decide_eq_false hdd
        have HNC := Lib.hid hnc
        clear hdd hnc
        have HR2 : Hid (replyD l kept = (11 :: ((buildD g cd).1 ++ [28, 13]), true)) := Lib.hid (by rw [HR.out, if_neg (fun h => HNC.out h.1)])
        obtain ⟨hbu, hgd⟩ := HA2.out cd HCD.out.1
        have HGD := Lib.hid hgd
        have HBU2 : Hid ((buildD g cd).2 = 0) := Lib.hid (by rw [hbu])
        have HBL := Lib.hid (buildD_len g cd)
        clear hbu hgd
        go_wp2_with (with_reducible refine wpList_loadHG G g (by kernel_rfl) (by kernel_rfl) HX3.out ?_)
        refine (ackBuild g cd w3 (HC.out _ HB3.out) (by have := HSU.out; omega) (by rw [HCD.out.2]; decide)).mono ?_
        rintro e w4 ⟨A4, c4, rfl, hB4, hb4⟩
        have HB4 := Lib.hid (HB3.out.trans (hb4.mono HB3.out.size))
        have HX4 := Lib.hid hB4
        clear hb4 hB4 HX3 HB3
        rw [HBU2.out]
        obtain ⟨X, hX⟩ : ∃ X, X = (buildD g cd).1 := ⟨_, rfl⟩
        rw [← hX] at HR2 HGD HX4 HBL ⊢
        clear hX
        obtain ⟨N, hN⟩ : ∃ N, N = X.length := ⟨_, rfl⟩
        have HNN : Hid (N ≤ 1000000) := Lib.hid (by rw [hN]; have := HBL.out; have := HSU.out; have h2 := HCD.out.2; have h3 : (cB 1).size = 2 := rfl; omega)
        rw [← hN] at HX4 ⊢
        clear hN HBL
        go_wp2_with (fail)
        refine (frameWrap_new A4 N c4 X w4 (HS.out _ HB4.out) HX4.out HGD.out (by have := HNN.out; omega)).mono ?_
        rintro e w5 ⟨A5, c5, rfl, hB5, hf5, hb5⟩
        rw [show ((11 : UInt8) :: (X ++ [28, 13])).length = X.length + 2 + 1 from by simp] at hB5 ⊢
        obtain ⟨N5, hN5⟩ : ∃ N5, N5 = X.length + 2 + 1 := ⟨_, rfl⟩
        rw [← hN5] at hB5 ⊢
        clear hN5
        have HB5 := Lib.hid (HB4.out.trans (hb5.mono HB4.out.size))
        have HX5 := Lib.hid hB5
        have HF5 := Lib.hid (fun b h => Nat.le_trans HB4.out.size (hf5 b h))
        clear hb5 hB5 hf5
        go_wp2_with (fail)
        go_ret2
        exact ⟨A5, N5, c5, by rw [HR2.out]; rfl, by rw [HR2.out]; exact HX5.out, HF5.out, HB5.out⟩
      · have HYC := Lib.hid (of_decide_eq_true hdd)
        rw [hdd] at hd
        clear hdd
        cases kept
        · as_aux_lemma =>
          have HR2 : Hid (replyD l false = (11 :: ((buildD g (cB 1)).1 ++ [28, 13]), true)) := Lib.hid (by rw [HR.out, if_pos ⟨HYC.out, by trivial⟩])
          obtain ⟨hbu, hgd⟩ := HA2.out (cB 1) (by decide +kernel)
          have HGD := Lib.hid hgd
          have HBU2 : Hid ((buildD g (cB 1)).2 = 0) := Lib.hid (by rw [hbu])
          have HBL := Lib.hid (buildD_len g (cB 1))
          clear hbu hgd
          go_wp2_with (with_reducible refine wpList_loadHG G g (by kernel_rfl) (by kernel_rfl) HX3.out ?_)
          refine (ackBuild g (cB 1) w3 (HC.out _ HB3.out) (by have := HSU.out; omega) (by decide)).mono ?_
          rintro e w4 ⟨A4, c4, rfl, hB4, hb4⟩
          have HB4 := Lib.hid (HB3.out.trans (hb4.mono HB3.out.size))
          have HX4 := Lib.hid hB4
          clear hb4 hB4 HX3 HB3
          rw [HBU2.out]
          obtain ⟨X, hX⟩ : ∃ X, X = (buildD g (cB 1)).1 := ⟨_, rfl⟩
          rw [← hX] at HR2 HGD HX4 HBL ⊢
          clear hX
          obtain ⟨N, hN⟩ : ∃ N, N = X.length := ⟨_, rfl⟩
          have HNN : Hid (N ≤ 1000000) := Lib.hid (by rw [hN]; have := HBL.out; have := HSU.out; have h2 := HCD.out.2; have h3 : (cB 1).size = 2 := rfl; omega)
          rw [← hN] at HX4 ⊢
          clear hN HBL
          go_wp2_with (fail)
          refine (frameWrap_new A4 N c4 X w4 (HS.out _ HB4.out) HX4.out HGD.out (by have := HNN.out; omega)).mono ?_
          rintro e w5 ⟨A5, c5, rfl, hB5, hf5, hb5⟩
          rw [show ((11 : UInt8) :: (X ++ [28, 13])).length = X.length + 2 + 1 from by simp] at hB5 ⊢
          obtain ⟨N5, hN5⟩ : ∃ N5, N5 = X.length + 2 + 1 := ⟨_, rfl⟩
          rw [← hN5] at hB5 ⊢
          clear hN5
          have HB5 := Lib.hid (HB4.out.trans (hb5.mono HB4.out.size))
          have HX5 := Lib.hid hB5
          have HF5 := Lib.hid (fun b h => Nat.le_trans HB4.out.size (hf5 b h))
          clear hb5 hB5 hf5
          go_wp2_with (fail)
          go_ret2
          exact ⟨A5, N5, c5, by rw [HR2.out]; rfl, by rw [HR2.out]; exact HX5.out, HF5.out, HB5.out⟩
        · as_aux_lemma =>
          have HR2 : Hid (replyD l true = (11 :: ((buildD g cd).1 ++ [28, 13]), true)) := Lib.hid (by rw [HR.out, if_neg (fun h => by simp at h)])
          obtain ⟨hbu, hgd⟩ := HA2.out cd HCD.out.1
          have HGD := Lib.hid hgd
          have HBU2 : Hid ((buildD g cd).2 = 0) := Lib.hid (by rw [hbu])
          have HBL := Lib.hid (buildD_len g cd)
          clear hbu hgd
          go_wp2_with (with_reducible refine wpList_loadHG G g (by kernel_rfl) (by kernel_rfl) HX3.out ?_)
          refine (ackBuild g cd w3 (HC.out _ HB3.out) (by have := HSU.out; omega) (by rw [HCD.out.2]; decide)).mono ?_
          rintro e w4 ⟨A4, c4, rfl, hB4, hb4⟩
          have HB4 := Lib.hid (HB3.out.trans (hb4.mono HB3.out.size))
          have HX4 := Lib.hid hB4
          clear hb4 hB4 HX3 HB3
          rw [HBU2.out]
          obtain ⟨X, hX⟩ : ∃ X, X = (buildD g cd).1 := ⟨_, rfl⟩
          rw [← hX] at HR2 HGD HX4 HBL ⊢
          clear hX
          obtain ⟨N, hN⟩ : ∃ N, N = X.length := ⟨_, rfl⟩
          have HNN : Hid (N ≤ 1000000) := Lib.hid (by rw [hN]; have := HBL.out; have := HSU.out; have h2 := HCD.out.2; have h3 : (cB 1).size = 2 := rfl; omega)
          rw [← hN] at HX4 ⊢
          clear hN HBL
          go_wp2_with (fail)
          refine (frameWrap_new A4 N c4 X w4 (HS.out _ HB4.out) HX4.out HGD.out (by have := HNN.out; omega)).mono ?_
          rintro e w5 ⟨A5, c5, rfl, hB5, hf5, hb5⟩
          rw [show ((11 : UInt8) :: (X ++ [28, 13])).length = X.length + 2 + 1 from by simp] at hB5 ⊢
          obtain ⟨N5, hN5⟩ : ∃ N5, N5 = X.length + 2 + 1 := ⟨_, rfl⟩
          rw [← hN5] at hB5 ⊢
          clear hN5
          have HB5 := Lib.hid (HB4.out.trans (hb5.mono HB4.out.size))
          have HX5 := Lib.hid hB5
          have HF5 := Lib.hid (fun b h => Nat.le_trans HB4.out.size (hf5 b h))
          clear hb5 hB5 hf5
          go_wp2_with (fail)
          go_ret2
          exact ⟨A5, N5, c5, by rw [HR2.out]; rfl, by rw [HR2.out]; exact HX5.out, HF5.out, HB5.out⟩
end Go.Proofs.YtodjilljcjkacaaGreatDoor
/- Heads compared with themselves, in one step. -/
namespace Go.Proofs.YtodjilljcjkacaaGreatDoor
open Go.RowKit

end Go.Proofs.YtodjilljcjkacaaGreatDoor
/- Layer 11: the document's examples, walked. -/
namespace Go.Proofs.YtodjilljcjkacaaGreatDoor
open Go.RowKit

end Go.Proofs.YtodjilljcjkacaaGreatDoor
/- A function that sends into a buffer with room, or receives where nothing waits: the walk, for frames that are called. No condition. -/
namespace Go.Proofs.YtodjilljcjkacaaGreatDoor
open Go.RowKit Go.Conc

/-- the piece of code c, in a frame that was called -/
def wpN (P : Program) (c : Code) (Q : Exit → Act → World → Prop) (a : Act) (w : World) : Prop :=
  ∀ (b : Frame) (k : List Item) (cs : List Frame), b.kind ≠ .early → ∃ e a' w', Q e a' w' ∧ Arrives P (lone (b.at a (.code c :: k)) cs w) b k cs e a' w'
/-- these operations of a region, in this order -/
def opsN (P : Program) (ops : Array Oper) (Q : Exit → Act → World → Prop) (l : List Nat) (a : Act) (w : World) : Prop :=
  ∀ (b : Frame) (k : List Item) (cs : List Frame), b.kind ≠ .early → ∃ e a' w', Q e a' w' ∧ Arrives P (lone (b.at a (.inRegion ops l :: k)) cs w) b k cs e a' w'
section
variable {P : Program} {Q : Exit → Act → World → Prop} {a : Act} {w w' : World}
theorem wpN_of {c : Code} (h : c.wp P Q a w) : wpN P c Q a w := fun b k cs _ => h b k cs
theorem wpN_past {x : Item} {b : Frame} {k : List Item} {cs : List Frame} {e : Exit} {a' : Act} {w' : World} {m : Machine} (hx : x.plain = true) (he : e ≠ .normal) (hq : Q e a' w') (h : Arrives P m b (x :: k) cs e a' w') :
    ∃ e a' w', Q e a' w' ∧ Arrives P m b k cs e a' w' := ⟨e, a', w', hq, .pass hx (fun _ _ => .inl he) h⟩
theorem wpN_seqN {x y : Code} (h : wpN P x (Exit.then (fun a w => wpN P y Q a w) Q) a w) : wpN P (.seq x y) Q a w := by
  intro b k cs hb
  obtain ⟨e, a1, w1, hq, harr⟩ := h b (.code y :: k) cs hb
  have hs : Steps P (lone (b.at a (.code (.seq x y) :: k)) cs w) (lone (b.at a (.code x :: .code y :: k)) cs w) := .one step_seq
  by_cases hn : e = .normal
  · subst hn
    obtain ⟨e2, a2, w2, hq2, harr2⟩ := hq b k cs hb
    exact ⟨e2, a2, w2, hq2, .of_steps (hs.trans harr) harr2⟩
  · have hq' : Q e a1 w1 := by cases e <;> first | exact hq | exact absurd rfl hn
    exact wpN_past (x := .code y) rfl hn hq' (.of_steps hs harr)
theorem wpN_seq {x y : Code} (h : x.wp P (Exit.then (fun a w => wpN P y Q a w) Q) a w) : wpN P (.seq x y) Q a w := wpN_seqN (wpN_of h)
theorem wpN_cond {c : Operand} {x y : Code} {t : Bool} (hc : a.eval c = .bool t) (h : wpN P (if t then x else y) Q a w) : wpN P (.cond c x y) Q a w :=
  fun b k cs hb => let ⟨e, a', w', q, r⟩ := h b k cs hb; ⟨e, a', w', q, .of_steps (.one (step_cond hc)) r⟩
theorem wpN_block {id : Nat} {c : Code} (h : wpN P c (Exit.inBlock id Q) a w) : wpN P (.block id c) Q a w := by
  intro b k cs hb
  obtain ⟨e, a1, w1, hq, harr⟩ := h b (.inBlock id :: k) cs hb
  have hs : Steps P (lone (b.at a (.code (.block id c) :: k)) cs w) (lone (b.at a (.code c :: .inBlock id :: k)) cs w) := .one step_block
  cases e with
  | normal => exact ⟨.normal, a1, w1, hq, hs.trans (Steps.trans harr (.one step_inBlock))⟩
  | exit i =>
    by_cases hid : i = id
    · simp only [Exit.inBlock, hid, if_true] at hq
      exact ⟨.normal, a1, w1, hq, hs.trans (harr k (by simp [exitTo, hid]))⟩
    · simp only [Exit.inBlock, hid, if_false] at hq
      have hne : (id == i) = false := by simpa using fun h => hid h.symm
      exact ⟨.exit i, a1, w1, hq, fun k' hk => hs.trans (harr k' (by simp [exitTo, hne, hk]))⟩
  | goto l => exact ⟨.goto l, a1, w1, hq, fun k' hk => hs.trans (harr k' (by simp [gotoIn, hk]))⟩
  | ret => exact ⟨.ret, a1, w1, hq, .of_steps hs harr⟩
  | panic ch => exact ⟨.panic ch, a1, w1, hq, .of_steps hs harr⟩
  | outgrown => exact ⟨.outgrown, a1, w1, hq, .of_steps (b := b) (k := k) (cs := cs) (e := .outgrown) hs harr⟩
theorem wpN_loop {c : Code} (I : Act → World → Prop) (μ : Act → World → Nat) (h0 : I a w) (round : ∀ a w, I a w → wpN P c (Exit.then (fun a' w' => I a' w' ∧ μ a' w' < μ a w) Q) a w) : wpN P (.loop c) Q a w := by
  intro b k cs hb
  have key : ∀ n a w, μ a w ≤ n → I a w → ∃ e a' w', Q e a' w' ∧ Arrives P (lone (b.at a (.code c :: .inLoop c :: k)) cs w) b k cs e a' w' := by
    intro n
    induction n with
    | zero =>
      intro a w hn hI
      obtain ⟨e, a1, w1, hq, harr⟩ := round a w hI b (.inLoop c :: k) cs hb
      by_cases hne : e = .normal
      · subst hne; have := hq.2; omega
      · have hq' : Q e a1 w1 := by cases e <;> first | exact hq | exact absurd rfl hne
        exact wpN_past (x := .inLoop c) rfl hne hq' harr
    | succ n ih =>
      intro a w hn hI
      obtain ⟨e, a1, w1, hq, harr⟩ := round a w hI b (.inLoop c :: k) cs hb
      by_cases hne : e = .normal
      · subst hne
        obtain ⟨hI1, hlt⟩ := hq
        obtain ⟨e2, a2, w2, hq2, harr2⟩ := ih a1 w1 (by omega) hI1
        exact ⟨e2, a2, w2, hq2, .of_steps (Steps.trans harr (.one step_inLoop)) harr2⟩
      · have hq' : Q e a1 w1 := by cases e <;> first | exact hq | exact absurd rfl hne
        exact wpN_past (x := .inLoop c) rfl hne hq' harr
  obtain ⟨e, a', w', hq, harr⟩ := key _ a w (Nat.le_refl _) h0
  exact ⟨e, a', w', hq, .of_steps (.one step_loop) harr⟩
theorem wpN_region {id : Nat} {ops : Array Oper} (h : opsN P ops Q (List.range ops.size) a w) : wpN P (.region id ops false) Q a w :=
  fun b k cs hb => let ⟨e, a', w', q, r⟩ := h b k cs hb; ⟨e, a', w', q, .of_steps (.one step_region) r⟩
theorem opsN_value {ops : Array Oper} {i : Nat} {l : List Nat} {o : Oper} {v : Value} (ho : ops[i]? = some o) (hw : Region.wanted o (yielded ops a.tmps) = true) (hr : (execOp a.eval o).run P w = .ok (.value v) w') (h : opsN P ops Q l (a.put o.dst v) w') : opsN P ops Q (i :: l) a w := by
  intro b k cs hb
  obtain ⟨e, a', w2, hq, harr⟩ := h b k cs hb
  refine ⟨e, a', w2, hq, .of_steps (.one (step_lone_go ?_)) harr⟩
  rw [stepG_op (P := P) (b := b) (k := k) (cs := cs) (w := w) (rest := l) ho hw]
  have hf : (b.at a (.inRegion ops (i :: l) :: k)).finish v = b.at (a.put o.dst v) (.inRegion ops l :: k) := by rw [Frame.finish_at, ho]; rfl
  rw [← hf]
  simp [stepG.apply, hr]
theorem opsN_nil {ops : Array Oper} (h : Q .normal a w) : opsN P ops Q [] a w := fun _ _ _ _ => ⟨.normal, a, w, h, .one step_region_end⟩
theorem opsN_comm {ops : Array Oper} {i : Nat} {l : List Nat} {o : Oper} {v : Value} {cases : Array CommCase} {shape : CommShape} {w1 w2 : World} (ho : ops[i]? = some o) (hw : Region.wanted o (yielded ops a.tmps) = true) (hr : (execOp a.eval o).run P w = .ok (.comm cases true shape) w1)
    (hs : ∀ fr cs es, stepG P true (G fr cs) w = .comm (G fr cs) cases true shape w1 es → step P (solo (G fr cs) w) = .next (solo (G (fr.finish v) cs) w2)) (h : opsN P ops Q l (a.put o.dst v) w2) : opsN P ops Q (i :: l) a w := by
  intro b k cs hb
  obtain ⟨e, a', w3, hq, harr⟩ := h b k cs hb
  refine ⟨e, a', w3, hq, .of_steps (.one ?_) harr⟩
  have hf : (b.at a (.inRegion ops (i :: l) :: k)).finish v = b.at (a.put o.dst v) (.inRegion ops l :: k) := by rw [Frame.finish_at, ho]; rfl
  have := hs _ cs _ (stepG_comm (P := P) (main := true) (b := b) (k := k) (cs := cs) (rest := l) ho hw hb hr)
  rw [hf] at this
  exact this
/-- how a frame of that body stands when the walk is at its end -/
theorem bodyN {f : FuncId} {fn : Func} {c : Code} {args : Array Value} {R : Ending → World → Prop} (kd : CallKind) (hk : kd ≠ .early) (hf : P.funcs[f]? = some fn) (hc : fn.body = some c) (h : wpN P c (bodyPost P fn R) { tmps := args ++ Array.replicate (fn.ntmps - args.size) undef, defers := [] } w) (cs : List Frame) :
    ∃ e w' fr, R e w' ∧ Comes P (lone (Frame.enter P f args kd) cs w) (lone fr cs w') e ∧ fr.fn = f ∧ fr.kind = kd ∧ fr.going P w' e := by
  let b : Frame := { (default : Frame) with fn := f, kind := kd }
  have henter : Frame.enter P f args kd = b.at { tmps := args ++ Array.replicate (fn.ntmps - args.size) undef, defers := [] } [.code c] := by
    simp [Frame.enter, Frame.at, hf, hc, b]
  obtain ⟨e, a', w', hq, harr⟩ := h b [] cs hk
  rw [← henter] at harr
  cases e with
  | normal =>
    obtain ⟨hd, v, hr, hR⟩ := hq
    exact ⟨.returned v, w', _, hR, Steps.trans harr (.one step_end), rfl, rfl, rfl, hd, fn, hf, hr⟩
  | ret =>
    obtain ⟨hd, v, hr, hR⟩ := hq
    obtain ⟨todo, hs⟩ := harr
    exact ⟨.returned v, w', _, hR, hs, rfl, rfl, rfl, hd, fn, hf, hr⟩
  | panic chain =>
    obtain ⟨hd, hR⟩ := hq
    obtain ⟨todo, hs⟩ := harr
    exact ⟨.panicked chain, w', _, hR, hs, rfl, rfl, rfl, hd, fn, hf⟩
  | exit id => exact hq.elim
  | goto l => exact hq.elim
  | outgrown => exact ⟨.outgrown, w', b, hq, harr.resolve_left hk, rfl, rfl, trivial⟩
theorem callsN {f : FuncId} {fn : Func} {c : Code} {args : Array Value} {R : Ending → World → Prop} (hf : P.funcs[f]? = some fn) (hc : fn.body = some c) (h : wpN P c (bodyPost P fn R) { tmps := args ++ Array.replicate (fn.ntmps - args.size) undef, defers := [] } w) : Calls P f args w R := by
  intro cs
  obtain ⟨e, w', fr, hR, hs, hfn, hkd, hg⟩ := bodyN .normal (by decide) hf hc h cs
  refine ⟨e, w', fr, hR, hs, hfn, ?_⟩
  cases e with
  | returned v => exact ⟨hg.1, hg.2.1, hkd, hg.2.2⟩
  | panicked chain => exact hg
  | outgrown => trivial
/-- .. of a deferred call -/
theorem callsDN {f : FuncId} {fn : Func} {c : Code} {args : Array Value} {u : FrameMode} {R : Ending → World → Prop} (hf : P.funcs[f]? = some fn) (hc : fn.body = some c) (h : wpN P c (bodyPost P fn R) { tmps := args ++ Array.replicate (fn.ntmps - args.size) undef, defers := [] } w) : CallsD P f args u w fun e u' w' => u' = u ∧ R e w' := by
  intro c0 cs hu
  obtain ⟨e, w', fr, hR, hs, _, hkd, hg⟩ := bodyN .deferred (by decide) hf hc h (c0 :: cs)
  refine ⟨e, u, w', fr, ⟨rfl, hR⟩, ?_, hkd, hg⟩
  rw [show ({ c0 with mode := u } : Frame) = c0 from by subst hu; rfl]
  exact hs
end
end Go.Proofs.YtodjilljcjkacaaGreatDoor
/- Layer 17: a message laid in the log (keep), walked. -/
namespace Go.Proofs.YtodjilljcjkacaaGreatDoor
open Go.RowKit Go.MapKept

/-- keep: the log's Add, if the message is to be stored -/
def keepD (d : Dk) (fs : Fs) (g : Nat) (l : List UInt8) : Out := if (verdictD l).2.1 = cB 0 then addD d fs nmI g l else (.inl 1, d, fs)
def endB : Int ⊕ Int → Ending
  | .inl x => .returned (.bool (decide (x = 0)))
  | .inr op => .panicked [{ v := crashI op, recovered := false }]
def KPost (Z : Nat → Prop) (B D M L Q X : Nat) (O : Option Nat) (F : List Ent) (T : List (List UInt8)) (g : Nat) (v : Value) (most : Nat) (s : St) (va : Value) (an : List (List UInt8)) (sn kp : Nat) (w : World) (l : List UInt8) (r : Out) (e : Ending) (w' : World) : Prop :=
  ∃ F' v', e = endB r.1 ∧ fsOf F' = r.2.2 ∧ IB Z w' B D M L Q X O r.2.1 F' (if r.1 = .inl 0 then T ++ [l] else T) (if r.1 = .inl 0 then g + (record l).length else g) v' most s va an sn (if r.1 = .inl 0 then kp + 1 else kp) ∧ ICh (FI L D M Q X O F v va) (FI L D M Q X O F' v' va) w w'
theorem keepD_ok {d : Dk} {fs : Fs} (ok : FsOk d fs) (ho : d.ops + 8 ≤ 1152921504606846976) (g : Nat) (b : List UInt8) : FsOk (keepD d fs g b).2.1 (keepD d fs g b).2.2 ∧ (keepD d fs g b).2.1.ops ≤ d.ops + 3 := by
  unfold keepD
  split
  · exact addD_ok ok ho nmI g b
  · exact ⟨ok, by show d.ops ≤ d.ops + 3; omega⟩
section
variable {Z : Nat → Prop} {w : World} {B D M L Q X g sn kp most : Nat} {O : Option Nat} {d : Dk} {F : List Ent} {T : List (List UInt8)} {v va : Value} {s : St} {an : List (List UInt8)}
set_option maxRecDepth 100000 in
set_option maxHeartbeats 4000000 in
theorem mKeep (h : IB Z w B D M L Q X O d F T g v most s va an sn kp) (hv : Vers w) (ok : FsOk d (fsOf F)) (ho : d.ops + 8 ≤ 1152921504606846976) (A : Option Addr) (c : Nat) (l : List UInt8) (hl : Bs w A l.length c l) (hln : l.length ≤ 1000000)
    (hoff : 0 < l.length → ∀ b, A = some b → ¬ DFoot D M F b.block) (hg : g ≤ 1099511000000) (hn : T.length ≤ 1099511627770) (hBw : B ≤ w.heap.size) (hkp : kp ≤ 1099511627770) :
    Calls Tryz.prog 53 #[pI X, .slice A l.length c] w (KPost Z B D M L Q X O F T g v most s va an sn kp w l (keepD d (fsOf F) g l)) := by
  have HS := Lib.hid (stored_ A l.length c l w hv hl hln)
  have HL := Lib.hid hl
  have H := Lib.hid h
  have HA : Hid (∀ W, Below w.heap.size w W → Calls Tryz.prog 83 #[pL L, .slice A l.length c] W (KEnd (fun k => Z k ∨ k = X ∨ dS Q O k ∨ va.ownBlock = some k) B L D M F nmI T g v W l (record l).length (addD d (fsOf F) nmI g l))) := Lib.hid (fun W hb =>
    walAdd (h.lg.below hb) (h.dk.below hb) ok ho (by decide) A c l (hl.below hb) hoff hg hn (Nat.le_trans hBw hb.size) (fun k hk => by
      have := hb.size
      have hf := fun j hj => (h.foot_lt (k := j) hj).2
      rcases hk with hk | hk | hk | hk
      · have := (h.zl k hk).1; omega
      · have := hf k (.inl hk); omega
      · have := hf k (.inr (.inl hk)); omega
      · have := hf k (.inr (.inr (.inr hk))); omega))
  have HKP := Lib.hid hkp
  clear h hv ok ho hl hln hoff hg hn hBw hkp
  go_enter Tryz.func53, Tryz.ntmps53
  cases hst : decide ((verdictD l).2.1 = cB 0)
  · have hK : keepD d (fsOf F) g l = (.inl 1, d, fsOf F) := if_neg (by simpa using hst)
    go_wp2_with (fail)
    refine HS.out.mono ?_
    rintro e w1 ⟨rfl, hb1⟩
    have HB1 := Lib.hid hb1
    have HK := Lib.hid hK
    rw [hst]
    clear hb1 hK hst
    go_wp2_with (fail)
    go_ret
    rw [HK.out]
    exact ⟨F, v, rfl, rfl, H.out.below HB1.out, .of_below HB1.out⟩
  · have hK : keepD d (fsOf F) g l = addD d (fsOf F) nmI g l := if_pos (by simpa using hst)
    have HK := Lib.hid hK
    go_wp2_with (fail)
    refine HS.out.mono ?_
    rintro e w1 ⟨rfl, hb1⟩
    have HB1 := Lib.hid hb1
    rw [hst]
    have c1 := (H.out.below hb1).cell 1
    simp only [List.getElem?_toArray, List.getElem?_cons_zero, List.getElem?_cons_succ] at c1
    clear hb1 hK hst
    go_wp2_with (fail)
    refine (HA.out w1 HB1.out).mono ?_
    rintro e w2 ⟨F', v', he, h2, h3, h4, h5⟩
    have HI : Hid (IB Z w2 B D M L Q X O (addD d (fsOf F) nmI g l).2.1 F' (if (addD d (fsOf F) nmI g l).1 = .inl 0 then T ++ [l] else T) (if (addD d (fsOf F) nmI g l).1 = .inl 0 then g + (record l).length else g) v' most s va an sn kp) := Lib.hid ((H.out.below HB1.out).log h5 h2 h4)
    have HC : Hid (ICh (FI L D M Q X O F v va) (FI L D M Q X O F' v' va) w w2) := Lib.hid ((ICh.of_below HB1.out).trans (.of_wl h5))
    have H3 := Lib.hid h3
    clear h2 h3 h4 h5 c1
    generalize addD d (fsOf F) nmI g l = r at *
    obtain ⟨x | op, s2⟩ := r
    · obtain rfl : e = .returned (.int .i64 x) := he
      by_cases hx : x = 0
      · subst hx
        have c4 := HI.out.cell 4
        simp only [List.getElem?_toArray, List.getElem?_cons_zero, List.getElem?_cons_succ] at c4
        have f4 := HI.out.frozen 4
        have ew : IntKind.i64.wrap ((kp : Int) + 1) = ((kp + 1 : Nat) : Int) := by have := HKP.out; rw [IntKind.wrap_i64]; omega
        go_wp2_with (fail)
        go_ret
        rw [HK.out]
        have hcs : Ch (At1 X) w2 (w2.setCell ⟨X, 4, none⟩ (.int .i64 ((kp + 1 : Nat) : Int))) := (Ch.refl _ w2).set1 4 _
        refine ⟨F', v', rfl, H3.out, ?_, HC.out.trans (.wide hcs (fun k hk => .inl hk) (fun k hk => .inl hk) (fun k hk => .inl hk))⟩
        simp only [if_true]
        exact (by simpa using HI.out : IB _ _ _ _ _ _ _ _ _ _ _ _ _ _ _ _ _ _ _ _).setRow hcs (heap_set_row HI.out.row _)
      · have hxd : decide (x = 0) = false := by simpa using hx
        go_wp2_with (fail)
        go_ret
        rw [HK.out]
        have hxx : ¬ ((.inl x : Int ⊕ Int) = .inl 0) := fun e => hx (by injection e)
        have hi := HI.out
        simp only [if_neg hxx] at hi
        refine ⟨F', v', by simp [endB, hxd], H3.out, ?_, HC.out⟩
        simp only [if_neg hxx]
        exact hi
    · obtain rfl : e = .panicked [{ v := crashI op, recovered := false }] := he
      refine ⟨rfl, ?_⟩
      rw [HK.out]
      exact ⟨F', v', rfl, H3.out, HI.out, HC.out⟩
end
end Go.Proofs.YtodjilljcjkacaaGreatDoor
/- Layer 17: a message is laid and answered (Feed's closure), walked. -/
namespace Go.Proofs.YtodjilljcjkacaaGreatDoor
open Go.RowKit Go.MapKept

abbrev TPI : TypeId := 28
abbrev TCH : TypeId := 101
/-- what a message is answered with -/
def ansD (l : List UInt8) : Int ⊕ Int → List (List UInt8)
  | .inl x => if (replyD l (decide (x = 0))).2 = true then [(replyD l (decide (x = 0))).1] else []
  | .inr _ => []
def DPost (Z : Nat → Prop) (B D M L Q X : Nat) (O : Option Nat) (F : List Ent) (T : List (List UInt8)) (g : Nat) (v : Value) (most : Nat) (s : St) (va : Value) (an : List (List UInt8)) (sn kp : Nat) (C cap : Nat) (La : List (List UInt8)) (w : World) (l : List UInt8) (r : Out) (e : Ending) (w' : World) : Prop :=
  ∃ F' v', e = endU r.1 ∧ fsOf F' = r.2.2 ∧ IB Z w' B D M L Q X O r.2.1 F' (if r.1 = .inl 0 then T ++ [l] else T) (if r.1 = .inl 0 then g + (record l).length else g) v' most s va an sn (if r.1 = .inl 0 then kp + 1 else kp) ∧
    ICh (fun k => FI L D M Q X O F v va k ∨ k = C) (fun k => FI L D M Q X O F' v' va k ∨ k = C) w w' ∧ CH false w' C cap (La ++ ansD l r.1) (FI L D M Q X O F' v' va) Z
theorem ICh.or {A A' R : Nat → Prop} {w w' : World} (h : ICh A A' w w') : ICh (fun k => A k ∨ R k) (fun k => A' k ∨ R k) w w' :=
  .wide h.ch h.foot (fun _ hk => .inl hk) (fun _ hk => hk.elim .inr (fun h => .inl (.inr h)))
section
variable {Z : Nat → Prop} {w : World} {B D M L Q X g sn kp most : Nat} {O : Option Nat} {d : Dk} {F : List Ent} {T : List (List UInt8)} {v va : Value} {s : St} {an : List (List UInt8)}
set_option maxRecDepth 100000 in
set_option maxHeartbeats 4000000 in
theorem mDone (h : IB Z w B D M L Q X O d F T g v most s va an sn kp) (C cap : Nat) (La : List (List UInt8)) (hZC : Z C) (hc : CH false w C cap La (FI L D M Q X O F v va) Z) (hroom : La.length < cap) (BX BA : Nat) (hbx : w.heap[BX]? = some (.cells #[pI X] TPI)) (hba : w.heap[BA]? = some (.cells #[.chan (some C)] TCH)) (hBA : ¬ FI L D M Q X O F v va BA)
    (hG : ∀ W, Below B w W → Vers W ∧ Signs W ∧ Cds W) (ok : FsOk d (fsOf F)) (ho : d.ops + 8 ≤ 1152921504606846976) (A : Option Addr) (c : Nat) (l : List UInt8) (hl : Bs w A l.length c l) (hln : l.length ≤ 29000)
    (hoff : 0 < l.length → ∀ b, A = some b → ¬ FI L D M Q X O F v va b.block) (hg : g ≤ 1099511000000) (hn : T.length ≤ 1099511627770) (hBw : B ≤ w.heap.size) (hkp : kp ≤ 1099511627770) :
    Calls Tryz.prog 52 #[.slice A l.length c, .pointer (some ⟨BX, 0, none⟩), .pointer (some ⟨BA, 0, none⟩)] w (DPost Z B D M L Q X O F T g v most s va an sn kp C cap La w l (keepD d (fsOf F) g l)) := by
  have HK := Lib.hid (mKeep h (hG w (Below.refl _ _)).1 ok ho A c l hl (by omega) (fun h0 b hb hk => hoff h0 b hb (.inr (.inr (.inl (.inl (.inr hk)))))) hg hn hBw hkp)
  have c0 := cell_of_row w BX 0 _ _ _ hbx
  simp only [List.getElem?_toArray, List.getElem?_cons_zero] at c0
  have HF : Hid (∀ k, FI L D M Q X O F v va k → B ≤ k) := Lib.hid (fun k hk => (h.foot_lt hk).1)
  have HL := Lib.hid hl
  have HLN := Lib.hid hln
  have HOFF := Lib.hid hoff
  have HG := Lib.hid hG
  have HZC := Lib.hid hZC
  have HCH := Lib.hid hc
  have HR := Lib.hid hroom
  have HBA := Lib.hid hba
  have HBAF := Lib.hid hBA
  have HBW := Lib.hid hBw
  clear h hZC hc hroom hbx hba hBA hG ok ho hl hln hoff hg hn hBw hkp
  obtain ⟨r, hr⟩ : ∃ r, r = keepD d (fsOf F) g l := ⟨_, rfl⟩
  rw [← hr] at HK ⊢
  clear hr
  refine callsN Tryz.func52 rfl ?_
  simp only [Tryz.ntmps52, List.size_toArray, List.length_cons, List.length_nil, Nat.reduceAdd, Nat.reduceSub, Array.replicate_succ, Array.replicate_zero, List.push_toArray, List.append_toArray, List.nil_append, List.cons_append]
  refine wpN_seq ?_
  go_wp2_with (fail)
  refine HK.out.mono ?_
  rintro e w1 ⟨F', v', he, hf, hi, hic⟩
  have HI := Lib.hid hi
  have HIC := Lib.hid hic
  have HFE := Lib.hid hf
  have HB1 : Hid (Below B w w1) := Lib.hid (hic.ch.below HF.out HBW.out)
  have HCH1 := Lib.hid (HCH.out.ich hic)
  clear hi hic hf HK c0
  obtain ⟨x | op, s2⟩ := r
  · obtain rfl : e = .returned (.bool (decide (x = 0))) := he
    go_wp2_with (fail)
    refine wpN_seq ?_
    go_wp2_with (fail)
    have hg1 := HG.out w1 HB1.out
    refine (reply_n A l.length c l (decide (x = 0)) w1 hg1.1 hg1.2.1 hg1.2.2 (HL.out.ch HIC.out.ch HOFF.out) HLN.out).mono ?_
    rintro e w2 ⟨A2, m2, c2_, rfl, hb2, hn2, hw2⟩
    have HI2 := Lib.hid (HI.out.below hw2)
    have HIC2 := Lib.hid (HIC.out.trans (.of_below hw2))
    have HCH2 := Lib.hid (HCH1.out.below hw2)
    have HB2 := Lib.hid hb2
    have HN2 := Lib.hid hn2
    have HBA2 : Hid (w2.heap[BA]? = some (.cells #[.chan (some C)] TCH)) := Lib.hid (HIC2.out.ch.row HBA.out HBAF.out)
    obtain ⟨rd, hrd⟩ : ∃ rd, rd = replyD l (decide (x = 0)) := ⟨_, rfl⟩
    have HRD := Lib.hid hrd
    rw [← hrd] at HB2 ⊢
    have HFL : Hid (∀ k, FI L D M Q X O F' v' va k → k < w1.heap.size) := Lib.hid (fun k hk => (HI.out.foot_lt hk).2)
    have HZL : Hid (∀ k, Z k → k < w1.heap.size) := Lib.hid (fun k hk => (HI.out.zl k hk).1)
    clear hb2 hn2 hw2 hg1 hrd HI HIC HCH1
    obtain ⟨ra, rk⟩ := rd
    cases rk
    · go_wp2_with (fail)
      refine wpN_seq ?_
      go_wp2_with (fail)
      refine wpN_cond rfl ?_
      refine wpN_of ?_
      go_wp2_with (fail)
      go_end0
      have ha : ansD l (.inl x) = [] := by
        show (if (replyD l (decide (x = 0))).2 = true then [(replyD l (decide (x = 0))).1] else []) = _
        rw [← HRD.out]; rfl
      refine ⟨F', v', rfl, HFE.out, HI2.out, HIC2.out.or, ?_⟩
      rw [ha, List.append_nil]
      exact HCH2.out
    · go_wp2_with (fail)
      refine wpN_seq ?_
      go_wp2_with (fail)
      refine wpN_cond rfl ?_
      refine wpN_region ?_
      show opsN _ _ _ [0, 1, 2] _ _
      have c2 := cell_of_row w2 BA 0 _ _ _ HBA2.out
      simp only [List.getElem?_toArray, List.getElem?_cons_zero] at c2
      refine opsN_value (o := ⟨some 17, _, _, _, _, _⟩) (v := .chan (some C)) (w' := w2) rfl (by kernel_rfl) (by go_simp) ?_
      simp only [Act.put, List.setIfInBounds_toArray, List.set_cons_succ, List.set_cons_zero]
      refine opsN_value (o := ⟨some 18, _, _, _, _, _⟩) (v := .slice A2 m2 c2_) (w' := w2) rfl (by kernel_rfl) (by go_simp) ?_
      simp only [Act.put, List.setIfInBounds_toArray, List.set_cons_succ, List.set_cons_zero]
      have hml := HB2.out.len
      subst hml
      obtain ⟨vs, ss, rr, hcw, hvl, hch⟩ := HCH2.out.send HZC.out HB2.out (fun h0 b hb => ⟨fun hf => by have := HN2.out b hb; have := HFL.out _ hf; omega, fun hz => by have := HN2.out b hb; have := HZL.out _ hz; omega⟩)
      refine opsN_comm (o := ⟨none, _, _, _, _, _⟩) (cases := #[Go.Conc.scase C (.slice A2 ra.length c2_) (.tuple #[])]) (shape := .send) (w1 := w2) (w2 := w2.setChan C cap (vs.toArray.push (.slice A2 ra.length c2_)) false (ss + 1) rr false) rfl (by kernel_rfl) (by go_simp; rfl) (fun fr cs es h => Go.Conc.step_lone_send_room h hcw (by simp; have := HR.out; omega)) ?_
      refine opsN_nil ?_
      go_end0
      have ha : ansD l (.inl x) = [ra] := by
        show (if (replyD l (decide (x = 0))).2 = true then [(replyD l (decide (x = 0))).1] else []) = _
        rw [← HRD.out]; rfl
      have hcc := ch_chan w2 C cap (vs.toArray.push (.slice A2 ra.length c2_)) false (ss + 1) rr false
      refine ⟨F', v', rfl, HFE.out, HI2.out.zch hcc (fun k hk => by rw [show k = C from hk]; exact HZC.out), HIC2.out.or.trans (.wide hcc (R' := fun _ => False) (fun _ h => h.elim) (fun k hk => .inr hk) (fun k hk => .inl hk)), ?_⟩
      rw [ha]
      exact hch
  · obtain rfl : e = .panicked [{ v := crashI op, recovered := false }] := he
    refine ⟨rfl, F', v', rfl, HFE.out, HI.out, HIC.out.or, ?_⟩
    rw [show ansD l (.inr op) = [] from rfl, List.append_nil]
    exact HCH1.out
end
end Go.Proofs.YtodjilljcjkacaaGreatDoor
/- Layer 17: the answers are laid behind those that weren't taken (collect, deferred), walked. -/
namespace Go.Proofs.YtodjilljcjkacaaGreatDoor
open Go.RowKit Go.MapKept

def chLeft (w : World) (C : Nat) : Nat := match w.heap[C]? with
  | some (.chan _ buf _ _ _ _) => buf.size
  | _ => 0
theorem CH.left {cl : Bool} {w : World} {C cap : Nat} {L : List (List UInt8)} {T Z : Nat → Prop} (h : CH cl w C cap L T Z) : chLeft w C = L.length := by
  obtain ⟨_, vs, s, r, h1, h2, _⟩ := h
  simp [chLeft, h1, h2]
theorem CH.same {cl : Bool} {w w' : World} {C cap : Nat} {L : List (List UInt8)} {T S Z : Nat → Prop} (h : CH cl w C cap L T Z) (c : Ch S w w') (hS : ¬ S C) : chLeft w' C = chLeft w C := by
  obtain ⟨_, vs, s, r, h1, h2, _⟩ := h
  simp [chLeft, h1, c.row h1 hS]
def CoPost (Z : Nat → Prop) (B D M L Q X : Nat) (O : Option Nat) (d : Dk) (F : List Ent) (T : List (List UInt8)) (g : Nat) (v : Value) (most : Nat) (s : St) (va : Value) (an : List (List UInt8)) (sn kp : Nat) (C : Nat) (La : List (List UInt8)) (w : World) (e : Ending) (w' : World) : Prop :=
  ∃ va', e = .returned (.tuple #[]) ∧ IB Z w' B D M L Q X O d F T g v most s va' (an ++ La) (sn + La.length) kp ∧ ICh (fun k => FI L D M Q X O F v va k ∨ k = C) (fun k => FI L D M Q X O F v va' k ∨ k = C) w w'
section
variable {Z : Nat → Prop} {w : World} {B D M L Q X g sn kp most : Nat} {O : Option Nat} {d : Dk} {F : List Ent} {T : List (List UInt8)} {v va : Value} {s : St} {an : List (List UInt8)}
theorem ICh.chan {A A' : Nat → Prop} {w w1 w2 : World} {C : Nat} (h : ICh (fun k => A k ∨ k = C) (fun k => A' k ∨ k = C) w w1) (c : Ch (At1 C) w1 w2) : ICh (fun k => A k ∨ k = C) (fun k => A' k ∨ k = C) w w2 :=
  h.trans (.wide c (R' := fun _ => False) (fun _ h => h.elim) (fun _ hk => .inr hk) (fun _ hk => .inl hk))
set_option maxRecDepth 100000 in
set_option maxHeartbeats 4000000 in
theorem mCollect (h : IB Z w B D M L Q X O d F T g v most s va an sn kp) (C cap : Nat) (La : List (List UInt8)) (hZC : Z C) (hc : CH false w C cap La (FI L D M Q X O F v va) Z) (u : FrameMode) (hsn : sn + La.length ≤ 1099511627770) (han : an.length + La.length ≤ 1099511627770) (hBw : B ≤ w.heap.size) :
    CallsD Tryz.prog 51 #[pI X, .chan (some C)] u w fun e u' w' => u' = u ∧ CoPost Z B D M L Q X O d F T g v most s va an sn kp C La w e w' := by
  obtain ⟨buf, ss, rr, hcw, hch⟩ := hc.close hZC
  have q := Go.run_close_open (P := Tryz.prog) #[101] 0 hcw
  refine callsDN Tryz.func51 rfl ?_
  simp only [Tryz.ntmps51, List.size_toArray, List.length_cons, List.length_nil, Nat.reduceAdd, Nat.reduceSub, Array.replicate_succ, Array.replicate_zero, List.push_toArray, List.append_toArray, List.nil_append, List.cons_append]
  refine wpN_seqN (wpN_region ?_)
  show opsN _ _ _ [0, 1] _ _
  refine opsN_value (o := ⟨some 5, _, _, _, _, _⟩) (v := .chan (some C)) (w' := w) rfl (by kernel_rfl) (by go_simp) ?_
  simp only [Act.put, List.setIfInBounds_toArray, List.set_cons_succ, List.set_cons_zero]
  refine opsN_value (o := ⟨none, _, _, _, _, _⟩) (v := .tuple #[]) (w' := w.setChan C cap buf true ss rr false) rfl (by kernel_rfl) (by go_simp; rfl) ?_
  refine opsN_nil ?_
  have hcc := ch_chan w C cap buf true ss rr false
  have HI := Lib.hid (h.zch hcc (fun k hk => by rw [show k = C from hk]; exact hZC))
  have HIC : Hid (ICh (fun k => FI L D M Q X O F v va k ∨ k = C) (fun k => FI L D M Q X O F v va k ∨ k = C) w (w.setChan C cap buf true ss rr false)) := Lib.hid ((ICh.of_below (Below.refl _ w)).chan hcc)
  have HZC := Lib.hid hZC
  have HC := Lib.hid hch
  have HSN := Lib.hid hsn
  have HAN := Lib.hid han
  have HBW : Hid (B ≤ (w.setChan C cap buf true ss rr false).heap.size) := Lib.hid (Nat.le_trans hBw hcc.size)
  clear h hc q hcw hch hcc hZC hsn han hBw
  generalize w.setChan C cap buf true ss rr false = w1 at *
  show wpN _ _ _ _ _
  refine wpN_seq ?_
  go_wp2_with (fail)
  refine wpN_block ?_
  refine wpN_loop (fun a W => ∃ (k : Nat) (va' : Value) (x4 x7 x8 x9 x10 x11 x12 x13 x14 x15 x16 x17 x18 x19 x20 x21 x22 x23 x24 x25 x26 : Value), a = ⟨#[pI X, .chan (some C), undef, undef, x4, .chan (some C), .chan (some C), x7, x8, x9, x10, x11, x12, x13, x14, x15, x16, x17, x18, x19, x20, x21, x22, x23, x24, x25, x26], []⟩ ∧ k ≤ La.length ∧ IB Z W B D M L Q X O d F T g v most s va' (an ++ La.take k) (sn + k) kp ∧ CH true W C cap (La.drop k) (FI L D M Q X O F v va') Z ∧
    ICh (fun k => FI L D M Q X O F v va k ∨ k = C) (fun k => FI L D M Q X O F v va' k ∨ k = C) w W ∧ B ≤ W.heap.size) (fun _ W => chLeft W C) ?_ ?_
  · refine ⟨0, va, _, _, _, _, _, _, _, _, _, _, _, _, _, _, _, _, _, _, _, _, _, rfl, Nat.zero_le _, ?_, HC.out, HIC.out, HBW.out⟩
    simpa using HI.out
  · clear HI HC HIC HBW
    rintro _ W ⟨k, va', x4, x7, x8, x9, x10, x11, x12, x13, x14, x15, x16, x17, x18, x19, x20, x21, x22, x23, x24, x25, x26, rfl, hk, hi, hch, hic, hbw⟩
    by_cases hlt : k < La.length
    · have hdr : La.drop k = La[k] :: La.drop (k + 1) := List.drop_eq_getElem_cons hlt
      have htk : La.take (k + 1) = La.take k ++ [La[k]] := List.take_succ_eq_append_getElem hlt
      have hfl : ∀ j, FI L D M Q X O F v va' j → B ≤ j ∧ j < W.heap.size := fun j hj => hi.foot_lt hj
      rw [hdr] at hch
      obtain ⟨x, hx⟩ : ∃ x, x = La[k] := ⟨_, rfl⟩
      rw [← hx] at hch htk hdr
      clear hx
      have HL0 : Hid (chLeft W C = La.length - k) := Lib.hid (by rw [hch.left]; simp; omega)
      obtain ⟨bf, s1, r1, A, c, hcw, hb0, hbv, hB, hBT, hch1⟩ := hch.recv HZC.out
      have hcc := ch_chan W C cap (bf.extract 1 bf.size) true s1 (r1 + 1) false
      refine wpN_seqN (wpN_region ?_)
      show opsN _ _ _ [0, 1] _ _
      refine opsN_comm (o := ⟨some 7, _, _, _, _, _⟩) (cases := #[Go.Conc.rcase C (.slice none 0 0)]) (shape := .recv true) (v := .tuple #[.slice A x.length c, .bool true]) (w1 := W) (w2 := W.setChan C cap (bf.extract 1 bf.size) true s1 (r1 + 1) false) rfl (by kernel_rfl) (by go_simp; rfl) (fun fr cs es h => by
        have := Go.Conc.step_lone_recv_buf true h hcw hb0
        rw [hbv] at this
        exact this) ?_
      simp only [Act.put, List.setIfInBounds_toArray, List.set_cons_succ, List.set_cons_zero]
      have HI1 := Lib.hid (hi.zch hcc (fun k hk => by rw [show k = C from hk]; exact HZC.out))
      have HIC1 := Lib.hid (hic.chan hcc)
      have HBW1 : Hid (B ≤ (W.setChan C cap (bf.extract 1 bf.size) true s1 (r1 + 1) false).heap.size) := Lib.hid (Nat.le_trans hbw hcc.size)
      have HB1 := Lib.hid (hB.ch hcc (fun h0 b hb hs => (hBT h0 b hb).2 (by rw [show b.block = C from hs]; exact HZC.out)))
      have HFL1 : Hid (∀ j, FI L D M Q X O F v va' j → B ≤ j ∧ j < (W.setChan C cap (bf.extract 1 bf.size) true s1 (r1 + 1) false).heap.size) := Lib.hid (fun j hj => ⟨(hfl j hj).1, Nat.lt_of_lt_of_le (hfl j hj).2 hcc.size⟩)
      have HCH1 := Lib.hid hch1
      have HBT := Lib.hid hBT
      have HTK := Lib.hid htk
      have HDR := Lib.hid hdr
      have HLT := Lib.hid hlt
      have HZS : Hid (∀ j, Z j → j < (W.setChan C cap (bf.extract 1 bf.size) true s1 (r1 + 1) false).heap.size) := Lib.hid (fun j hj => (HI1.out.zl j hj).1)
      clear hi hch hic hbw hfl hcw hb0 hbv hB hBT hch1 hcc htk hdr hlt hk
      generalize W.setChan C cap (bf.extract 1 bf.size) true s1 (r1 + 1) false = W1 at *
      refine opsN_value (o := ⟨some 8, _, _, _, _, _⟩) (v := .bool true) (w' := W1) rfl (by kernel_rfl) (by go_simp) ?_
      simp only [Act.put, List.setIfInBounds_toArray, List.set_cons_succ, List.set_cons_zero]
      refine opsN_nil ?_
      show wpN _ _ _ _ _
      refine wpN_of ?_
      obtain ⟨Lk, hLk⟩ : ∃ Lk, Lk = an ++ La.take k := ⟨_, rfl⟩
      have HLN : Hid (Lk.length + 1 ≤ 1099511627776) := Lib.hid (by rw [hLk, List.length_append, List.length_take]; have := HAN.out; have := HLT.out; omega)
      obtain ⟨Ls, hLs⟩ : ∃ Ls, Lk ++ [x] = Ls := ⟨_, rfl⟩
      have HLS := Lib.hid hLs
      have HLK : Hid (Ls = an ++ La.take (k + 1)) := Lib.hid (by rw [← hLs, hLk, HTK.out, List.append_assoc])
      rw [← hLk] at HI1
      clear hLk hLs
      have hc2 := HI1.out.cell 2
      simp only [List.getElem?_toArray, List.getElem?_cons_zero, List.getElem?_cons_succ] at hc2
      have HA2 := Lib.hid ((Below.refl W1.heap.size W1).alloc (Nat.le_refl _) (.cells #[.slice A x.length c] 40))
      have HI2 := Lib.hid (HI1.out.below HA2.out)
      have HROW := Lib.hid (heap_alloc_new W1 (.cells #[.slice A x.length c] 40))
      have HXA := Lib.hid (HB1.out.below HA2.out)
      have HLT1 : Hid (0 < x.length → ∀ b, A = some b → ¬ va'.ownBlock = some b.block ∧ ¬ (Z b.block ∨ b.block = X ∨ dS Q O b.block ∨ WFoot L D M F v b.block)) := Lib.hid (fun h0 b hb => ⟨fun e => (HBT.out h0 b hb).1 (.inr (.inr (.inr e))), fun e => by
        rcases e with e | e | e | e
        · exact (HBT.out h0 b hb).2 e
        · exact (HBT.out h0 b hb).1 (.inl e)
        · exact (HBT.out h0 b hb).1 (.inr (.inl e))
        · exact (HBT.out h0 b hb).1 (.inr (.inr (.inl e)))⟩)
      have tok1 : Hid True := Lib.hid trivial
      have HTN : Hid (¬ (fun j => Z j ∨ j = X ∨ dS Q O j ∨ WFoot L D M F v j) (W1.alloc (.cells #[.slice A x.length c] 40)).heap.size) := Lib.hid (fun ht => by
        have hs := HA2.out.size
        rcases ht with e | e | e | e
        · have := HZS.out _ e; omega
        · have := (HFL1.out _ (.inl e)).2; omega
        · have := (HFL1.out _ (.inr (.inl e))).2; omega
        · have := (HFL1.out _ (.inr (.inr (.inl e)))).2; omega)
      have HBW2 : Hid (B ≤ (W1.alloc (.cells #[.slice A x.length c] 40)).heap.size) := Lib.hid (Nat.le_trans HBW1.out HA2.out.size)
      have ew : IntKind.i64.wrap (((sn + k : Nat) : Int) + 1) = ((sn + (k + 1) : Nat) : Int) := by have := HSN.out; have := HLT.out; rw [IntKind.wrap_i64]; omega
      go_wp2_with (at_builtin; have _t := tok1; go_loud ((refine wpList_rw rfl (.tmp 14) (.tmp 16) rfl B (fun j => Z j ∨ j = X ∨ dS Q O j ∨ WFoot L D M F v j) va' Lk x A c rfl HI2.out.an HXA.out HLT1.out HTN.out W1.heap.size rfl HROW.out HLN.out HBW2.out ?_; intro v2 w2 hw2 hgr2 hfr2; rw [HLS.out] at hw2; obtain ⟨A2, c2, rfl⟩ := hw2.form; obtain ⟨hi3, hr3, hc3⟩ := HI2.out.app hw2 (Ch.of_grown hgr2 (fun j hj => hj)) hfr2; have HI3 := Lib.hid hi3; have HC3 := Lib.hid hc3; have HFR := Lib.hid hfr2; have c22 := cell_of_row w2 X 2 _ _ _ hr3; have c23 := cell_of_row w2 X 3 _ _ _ hr3; have f22 : w2.frozen? ⟨X, 2, none⟩ = false := (by simp [World.frozen?, hr3]); have f23 : w2.frozen? ⟨X, 3, none⟩ = false := (by simp [World.frozen?, hr3]); simp only [List.getElem?_toArray, List.getElem?_cons_zero, List.getElem?_cons_succ] at c22 c23; clear tok1 hw2 hgr2 hfr2 hi3 hr3 hc3 _t)))
      have ew2 : wrap64 ((sn : Int) + (k : Int) + 1) = ((sn + (k + 1) : Nat) : Int) := by have := HSN.out; have := HLT.out; simp only [wrap64]; omega
      rw [ew2]
      have hcs : Ch (At1 X) (w2.setCell ⟨X, 2, none⟩ (.slice A2 Ls.length c2)) ((w2.setCell ⟨X, 2, none⟩ (.slice A2 Ls.length c2)).setCell ⟨X, 3, none⟩ (.int .i64 ((sn + (k + 1) : Nat) : Int))) := (Ch.refl _ _).set1 3 _
      have h3 : ICh (FI L D M Q X O F v va') (FI L D M Q X O F v (.slice A2 Ls.length c2)) (W1.alloc (.cells #[.slice A x.length c] 40)) (w2.setCell ⟨X, 2, none⟩ (.slice A2 Ls.length c2)) :=
        .wide HC3.out (R' := fun j => (Value.slice A2 Ls.length c2).ownBlock = some j) (fun j hj => by
          rcases HFR.out with e | e
          · exact .inl (.inr (by rw [← e]; exact hj))
          · rw [e] at hj; injection hj with hj; exact .inr (by omega)) (fun j hj => hj.elim .inl (fun e => .inr (.inr (.inr e)))) (fun j hj => by
          rcases hj with e | e | e | e
          · exact .inl (.inl e)
          · exact .inl (.inr (.inl e))
          · exact .inl (.inr (.inr (.inl e)))
          · exact .inr e)
      have h4 : ICh (FI L D M Q X O F v va') (FI L D M Q X O F v (.slice A2 Ls.length c2)) W1 ((w2.setCell ⟨X, 2, none⟩ (.slice A2 Ls.length c2)).setCell ⟨X, 3, none⟩ (.int .i64 ((sn + (k + 1) : Nat) : Int))) :=
        ((ICh.of_below HA2.out).trans h3).trans (.wide hcs (R' := fun _ => False) (fun _ h => h.elim) (fun j hj => .inl hj) (fun j hj => .inl hj))
      have hch5 := HCH1.out.ich h4
      refine ⟨⟨k + 1, HLT.out, .slice A2 Ls.length c2, ?_, hch5, HIC1.out.trans h4.or, by have h5 := h4.ch.size; have h6 := HBW1.out; simp at h5 ⊢; omega⟩, ?_⟩
      · rw [← HLK.out]
        exact HI3.out.setRow hcs (heap_set_row HI3.out.row _)
      · rw [hch5.left, HL0.out, List.length_drop]
        have := HLT.out; omega
    · obtain rfl : k = La.length := by omega
      rw [List.drop_length] at hch
      rw [List.take_length] at hi
      obtain ⟨s1, r1, hcw⟩ := hch.none
      refine wpN_seqN (wpN_region ?_)
      show opsN _ _ _ [0, 1] _ _
      refine opsN_comm (o := ⟨some 7, _, _, _, _, _⟩) (cases := #[Go.Conc.rcase C (.slice none 0 0)]) (shape := .recv true) (v := .tuple #[.slice none 0 0, .bool false]) (w1 := W) (w2 := W) rfl (by kernel_rfl) (by go_simp; rfl) (fun fr cs es h => Go.Conc.step_lone_recv_shut true h hcw) ?_
      simp only [Act.put, List.setIfInBounds_toArray, List.set_cons_succ, List.set_cons_zero]
      refine opsN_value (o := ⟨some 8, _, _, _, _, _⟩) (v := .bool false) (w' := W) rfl (by kernel_rfl) (by go_simp) ?_
      simp only [Act.put, List.setIfInBounds_toArray, List.set_cons_succ, List.set_cons_zero]
      refine opsN_nil ?_
      show wpN _ _ _ _ _
      refine wpN_of ?_
      have HI := Lib.hid hi
      have HIC := Lib.hid hic
      clear hi hic hch hcw hbw
      go_wp2_with (fail)
      go_end0
      exact ⟨va', rfl, HI.out, HIC.out⟩
end
end Go.Proofs.YtodjilljcjkacaaGreatDoor
/- Layer 17: bytes are fed: what comes of it, and lemmas for its walk. -/
namespace Go.Proofs.YtodjilljcjkacaaGreatDoor
open Go.RowKit Go.MapKept

/-- how the messages came out: whether the power went, the disk, its files, the log's records, its file's length, how many were kept, the answers -/
structure InR where
  r : Int ⊕ Int
  d : Dk
  fs : Fs
  T : List (List UInt8)
  g : Nat
  kp : Nat
  La : List (List UInt8)
def feedM (d : Dk) (fs : Fs) (T : List (List UInt8)) (g kp : Nat) (La : List (List UInt8)) : List (List UInt8) → InR
  | [] => ⟨.inl 0, d, fs, T, g, kp, La⟩
  | m :: r => match (keepD d fs g m).1 with
    | .inr op => ⟨.inr op, (keepD d fs g m).2.1, (keepD d fs g m).2.2, T, g, kp, La⟩
    | .inl x => feedM (keepD d fs g m).2.1 (keepD d fs g m).2.2 (if x = 0 then T ++ [m] else T) (if x = 0 then g + (record m).length else g) (if x = 0 then kp + 1 else kp) (La ++ ansD m (.inl x)) r
theorem ansD_len (m : List UInt8) (r : Int ⊕ Int) : (ansD m r).length ≤ 1 := by
  unfold ansD
  split
  · split <;> simp
  · simp
theorem RowsAt.sub {B : Nat} {S S' : Nat → Prop} {w : World} {v : Value} {L : List (List UInt8)} (h : RowsAt B S w v L) (hS : ∀ k, B ≤ k → k < w.heap.size → S' k → S k) : RowsAt B S' w v L := by
  obtain ⟨gs, hl, ho, hv, hg⟩ := h
  refine ⟨gs, hl, ho, fun k hk hs => ?_, fun i g x h1 h2 => ?_⟩
  · have := World.ownsRow.lt ho k hk
    exact hv k hk (hS k this.1 this.2 hs)
  · obtain ⟨a, b, c⟩ := hg i g x h1 h2
    exact ⟨a, fun hs => b (hS g a (Array.getElem?_eq_some_iff.1 c).1 hs), c⟩
theorem RowsAt.get {B : Nat} {S : Nat → Prop} {w : World} {A : Option Addr} {n c : Nat} {L : List (List UInt8)} (h : RowsAt B S w (.slice A n c) L) (hx : ∀ x ∈ L, x.length ≤ maxLen) {i : Nat} (hi : i < L.length) :
    ∃ b g, A = some ⟨b, 0, none⟩ ∧ w.cell? ⟨b, i, none⟩ = some (bv g L[i]) ∧ Bs w (some ⟨g, 0, none⟩) L[i].length L[i].length L[i] ∧ ¬ S g := by
  obtain ⟨gs, hl, ho, _, hg⟩ := h
  rcases ho.2 with ⟨e, h0⟩ | ⟨g, cap, cur, e, h1, h2, h3, h4, h5, h6⟩
  · injection e; omega
  · injection e with e1 e2 e3
    have hgl : i < gs.length := by rw [hl]; exact hi
    obtain ⟨_, hs, hr⟩ := hg i gs[i] L[i] (List.getElem?_eq_getElem hgl) (List.getElem?_eq_getElem hi)
    refine ⟨g, gs[i], e1, ?_, Bs.block hr rfl (hx _ (List.getElem_mem hi)), hs⟩
    rw [cell_of_row w g i cur _ _ h2]
    have e : (cur.toList.take (L.length * 1))[i]? = (List.zipWith bv gs L)[i]? := by rw [h6]
    rw [Nat.mul_one, List.getElem?_take, if_pos hi, List.getElem?_zipWith, List.getElem?_eq_getElem hgl, List.getElem?_eq_getElem hi] at e
    simpa using e
theorem ICh.dropC {A A' : Nat → Prop} {w w1 w' : World} {C : Nat} (h : ICh (fun k => A k ∨ k = C) (fun k => A' k ∨ k = C) w1 w') (hb : Below w.heap.size w w1) (hC : w.heap.size ≤ C) : ICh A A' w w' :=
  ⟨(Ch.of_below hb).trans h.ch (fun k hk hs => hs.resolve_right (fun e => by omega)), fun k hk => by
    rcases h.foot k (.inl hk) with (h1 | h1) | h1
    · exact .inl h1
    · exact .inr (by omega)
    · exact .inr (Nat.le_trans hb.size h1)⟩
section
variable {Z Z' : Nat → Prop} {w w' : World} {B D M L Q X g sn kp most : Nat} {O O' : Option Nat} {d : Dk} {F : List Ent} {T : List (List UInt8)} {v va : Value} {s : St} {an : List (List UInt8)}
theorem IB.less (h : IB Z w B D M L Q X O d F T g v most s va an sn kp) (hZ : ∀ k, Z' k → Z k) : IB Z' w B D M L Q X O d F T g v most s va an sn kp := h.addZ (Below.refl _ _) (fun k hk => .inl (hZ k hk))
theorem ICh.of_mv (m : Mv Q O O' w w') : ICh (FI L D M Q X O F v va) (FI L D M Q X O' F v va) w w' :=
  .wide m.1 (R' := dS Q O') (fun k hk => by
    rcases hk with hk | hk
    · exact .inl (.inl hk)
    · rcases Nat.lt_or_ge k w.heap.size with h1 | h1
      · exact .inl (.inr (m.2 k hk.symm h1).symm)
      · exact .inr h1) (fun k hk => .inr (.inl hk)) (fun k hk => by
    rcases hk with h1 | h1 | h1 | h1
    · exact .inl (.inl h1)
    · exact .inr h1
    · exact .inl (.inr (.inr (.inl h1)))
    · exact .inl (.inr (.inr (.inr h1))))
def endF : Int ⊕ Int → Ending
  | .inl _ => .returned (.int .i64 0)
  | .inr op => .panicked [{ v := crashI op, recovered := false }]
def FPost (Z : Nat → Prop) (B D M L Q X : Nat) (O : Option Nat) (F : List Ent) (v : Value) (most : Nat) (s : St) (va : Value) (an : List (List UInt8)) (sn : Nat) (w : World) (R : InR) (e : Ending) (w' : World) : Prop :=
  ∃ F' v' va' O', e = endF R.r ∧ fsOf F' = R.fs ∧ IB Z w' B D M L Q X O' R.d F' R.T R.g v' most s va' (an ++ R.La) (sn + R.La.length) R.kp ∧ ICh (FI L D M Q X O F v va) (FI L D M Q X O' F' v' va') w w'
theorem makeCh : ∃ i : TypeInfo, Tryz.prog.info? 40 = some i ∧ i.bytes = 24 := by
  obtain ⟨i, hi, hzz⟩ := Option.map_eq_some_iff.1 rowsInfo
  refine ⟨i, hi, ?_⟩
  simp only [Prod.mk.injEq] at hzz
  exact hzz.2.2
theorem make_chan (n : Nat) (hn : n ≤ 1000000000) (w : World) : (Instr.makeChan TCH (.int .i64 n)).run Tryz.prog w = .ok (.chan (some w.heap.size)) (w.alloc (.chan n #[] false 0 0 false)) := by
  obtain ⟨i, hi, hb⟩ := makeCh
  exact Go.Conc.run_makeChan Tryz.underlying101 hi .i64 n (by omega) (by rw [hb]; omega)
end
end Go.Proofs.YtodjilljcjkacaaGreatDoor
