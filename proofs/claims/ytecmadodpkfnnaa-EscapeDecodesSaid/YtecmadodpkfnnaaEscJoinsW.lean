/- EscapeJoins, walked. -/
import Derived.Test.YtecmadodpkfnnaaEscAlive
import Derived.Test.YtecmadodpkfnnaaEscMath2
namespace Go.Proofs.Ytecmadodpkfnnaa
open Go.RowKit Go.MapKept

theorem txt_size (l : List UInt8) : (txt l).size = l.length := by simp [ByteArray.size]
theorem txt_add (a b : List UInt8) : txt a ++ txt b = txt (a ++ b) := by
  apply ByteArray.ext; apply Array.toList_inj.1; simp [ByteArray.data_append]
theorem bapp_list (x y : ByteArray) : (x ++ y).data.toList = x.data.toList ++ y.data.toList := by simp [ByteArray.data_append]
abbrev dobj7 (s : Sgn) : Obj := .cells #[u8 s.a, u8 s.b, u8 s.c, u8 s.d, u8 s.e] 23

set_option maxHeartbeats 4000000 in
set_option maxRecDepth 100000 in
theorem escapeJoins_walk (x y : ByteArray) (s : Sgn) (w : World) (_h0 : x.size ≤ maxLen) (_h1 : y.size ≤ maxLen) : Calls Try.prog 7 #[.string x, .string y, s.v] w (True_ w) := by
  have hxl : x.size ≤ 9223372036854775807 := Nat.le_trans _h0 (by decide)
  have hyl : y.size ≤ 9223372036854775807 := Nat.le_trans _h1 (by decide)
  have HX := Lib.hid (Box5.new s w)
  have HB0 : Hid (Below w.heap.size w (w.alloc (dobj7 s))) := Lib.hid ((Below.refl _ _).alloc (Nat.le_refl _) _)
  clear _h0 _h1
  go_enter Try.func7, Try.ntmps7
  by_cases hx8 : (800 : Int) < (x.size : Int)
  · go_wp2_with (fail)
    refine (escAlive _).mono ?_
    rintro e w1 ⟨rfl, hb1⟩
    have HB1 : Hid (Below w.heap.size w w1) := Lib.hid (HB0.out.trans (hb1.mono HB0.out.size))
    clear hb1
    go_wp2_with (fail)
    go_ret
    exact ⟨rfl, HB1.out⟩
  by_cases hy8 : (800 : Int) < (y.size : Int)
  · have d1 : decide ((800 : Int) < (x.size : Int)) = false := by simpa using hx8
    clear hx8
    go_wp2_with (fail)
    refine (escAlive _).mono ?_
    rintro e w1 ⟨rfl, hb1⟩
    have HB1 : Hid (Below w.heap.size w w1) := Lib.hid (HB0.out.trans (hb1.mono HB0.out.size))
    clear hb1
    go_wp2_with (fail)
    go_ret
    exact ⟨rfl, HB1.out⟩
  have HN : Hid (¬ (9223372036854775807 < (x.size : Int) + (y.size : Int))) := Lib.hid (by omega)
  have hnadd : ¬ (9223372036854775807 < (x.size : Int) + (y.size : Int)) := HN.out
  have hxm : Hid (x.size ≤ 800) := Lib.hid (by omega)
  have hym : Hid (y.size ≤ 800) := Lib.hid (by omega)
  have hsm : Hid ((x ++ y).size ≤ 1000000) := Lib.hid (by rw [ByteArray.size_append]; omega)
  cases hg : s.good
  · have HG := Lib.hid hg
    clear hg
    go_wp2_with (fail)
    refine (escEncode_no x s HG.out _).mono ?_
    rintro e w1 ⟨rfl, hb1⟩
    obtain ⟨x0, x1, x2, x3, x4⟩ := (HX.out.below hb1).cells
    have HX1 := Lib.hid (HX.out.below hb1)
    have HB1 : Hid (Below w.heap.size w w1) := Lib.hid (HB0.out.trans (hb1.mono HB0.out.size))
    clear hb1
    go_wp2_with (fail)
    refine (escEncode_no y s HG.out w1).mono ?_
    rintro e w2 ⟨rfl, hb2⟩
    clear x0 x1 x2 x3 x4
    obtain ⟨x0, x1, x2, x3, x4⟩ := (HX1.out.below hb2).cells
    have HX2 := Lib.hid (HX1.out.below hb2)
    have HB2 : Hid (Below w.heap.size w w2) := Lib.hid (HB1.out.trans (hb2.mono HB1.out.size))
    clear hb2
    go_wp2_with (fail)
    refine (escEncode_no (x ++ y) s HG.out w2).mono ?_
    rintro e w3 ⟨rfl, hb3⟩
    clear x0 x1 x2 x3 x4
    obtain ⟨x0, x1, x2, x3, x4⟩ := (HX2.out.below hb3).cells
    have HX3 := Lib.hid (HX2.out.below hb3)
    have HB3 : Hid (Below w.heap.size w w3) := Lib.hid (HB2.out.trans (hb3.mono HB2.out.size))
    clear hb3
    go_wp2_with (fail)
    refine (escAlive _).mono ?_
    rintro e w4 ⟨rfl, hb4⟩
    clear x0 x1 x2 x3 x4
    have HX4 := Lib.hid (HX3.out.below hb4)
    obtain ⟨x0, x1, x2, x3, x4⟩ := HX4.out.cells
    have HB4 : Hid (Below w.heap.size w w4) := Lib.hid (HB3.out.trans (hb4.mono HB3.out.size))
    clear hb4
    have hee : (⟨#[]⟩ : ByteArray) ++ ⟨#[]⟩ = ⟨#[]⟩ := by decide
    go_wp2_with (fail)
    refine (escDecode_no x s HG.out w4).mono ?_
    rintro e w5 ⟨rfl, hb5⟩
    clear x0 x1 x2 x3 x4
    obtain ⟨x0, x1, x2, x3, x4⟩ := (HX4.out.below hb5).cells
    have HX5 := Lib.hid (HX4.out.below hb5)
    have HB5 : Hid (Below w.heap.size w w5) := Lib.hid (HB4.out.trans (hb5.mono HB4.out.size))
    clear hb5
    go_wp2_with (fail)
    refine (escDecode_no y s HG.out w5).mono ?_
    rintro e w6 ⟨rfl, hb6⟩
    clear x0 x1 x2 x3 x4
    obtain ⟨x0, x1, x2, x3, x4⟩ := (HX5.out.below hb6).cells
    have HX6 := Lib.hid (HX5.out.below hb6)
    have HB6 : Hid (Below w.heap.size w w6) := Lib.hid (HB5.out.trans (hb6.mono HB5.out.size))
    clear hb6
    go_wp2_with (fail)
    go_ret
    exact ⟨rfl, HB6.out⟩
  · have HG := Lib.hid hg
    clear hg
    have HEJ : Hid (encD s (x ++ y).data.toList = encD s x.data.toList ++ encD s y.data.toList) := Lib.hid (by rw [bapp_list, encD_append])
    have HLX : Hid ((encD s x.data.toList).length ≤ 4000) := Lib.hid (by have := (encD_len s x.data.toList).2; have h2 : x.data.toList.length = x.size := (by simp); have := hxm.out; omega)
    have HLY : Hid ((encD s y.data.toList).length ≤ 4000) := Lib.hid (by have := (encD_len s y.data.toList).2; have h2 : y.data.toList.length = y.size := (by simp); have := hym.out; omega)
    go_wp2_with (fail)
    refine (escEncode x (by have := hxm.out; omega) s HG.out _).mono ?_
    rintro e w1 ⟨rfl, hb1⟩
    obtain ⟨x0, x1, x2, x3, x4⟩ := (HX.out.below hb1).cells
    have HX1 := Lib.hid (HX.out.below hb1)
    have HB1 : Hid (Below w.heap.size w w1) := Lib.hid (HB0.out.trans (hb1.mono HB0.out.size))
    clear hb1
    go_wp2_with (fail)
    refine (escEncode y (by have := hym.out; omega) s HG.out w1).mono ?_
    rintro e w2 ⟨rfl, hb2⟩
    clear x0 x1 x2 x3 x4
    obtain ⟨x0, x1, x2, x3, x4⟩ := (HX1.out.below hb2).cells
    have HX2 := Lib.hid (HX1.out.below hb2)
    have HB2 : Hid (Below w.heap.size w w2) := Lib.hid (HB1.out.trans (hb2.mono HB1.out.size))
    clear hb2
    go_wp2_with (fail)
    refine (escEncode (x ++ y) hsm.out s HG.out w2).mono ?_
    rintro e w3 ⟨rfl, hb3⟩
    clear x0 x1 x2 x3 x4
    obtain ⟨x0, x1, x2, x3, x4⟩ := (HX2.out.below hb3).cells
    have HX3 := Lib.hid (HX2.out.below hb3)
    have HB3 : Hid (Below w.heap.size w w3) := Lib.hid (HB2.out.trans (hb3.mono HB2.out.size))
    clear hb3
    rw [HEJ.out]
    go_wp2_with (fail)
    refine (escAlive _).mono ?_
    rintro e w4 ⟨rfl, hb4⟩
    clear x0 x1 x2 x3 x4
    have HX4 := Lib.hid (HX3.out.below hb4)
    obtain ⟨x0, x1, x2, x3, x4⟩ := HX4.out.cells
    have HB4 : Hid (Below w.heap.size w w4) := Lib.hid (HB3.out.trans (hb4.mono HB3.out.size))
    clear hb4
    generalize encD s x.data.toList = ea at *
    generalize encD s y.data.toList = eb at *
    have hnadd2 : ¬ (9223372036854775807 < ((txt ea).size : Int) + ((txt eb).size : Int)) := by rw [txt_size, txt_size]; have := HLX.out; have := HLY.out; omega
    have hta := txt_add ea eb
    go_wp2_with (fail)
    clear hta hnadd2
    have HDX := decD_cases s x.data.toList
    have HDY := decD_cases s y.data.toList
    rcases HDX with ⟨a, ha, hal⟩ | ⟨e1, he1, _⟩
    · rcases HDY with ⟨b, hb, hbl⟩ | ⟨e2, he2, _⟩
      · have hxs : x.data.toList.length = x.size := by simp
        have hys : y.data.toList.length = y.size := by simp
        have HAL : Hid (a.length ≤ 800) := Lib.hid (by have := hxm.out; omega)
        have HBL : Hid (b.length ≤ 800) := Lib.hid (by have := hym.out; omega)
        have HJ : Hid (decD s (x ++ y).data.toList = .ok (a ++ b)) := Lib.hid (by rw [bapp_list]; exact decD_join ha hb)
        have HSZ : Hid (((x ++ y).data.toList.length : Int) = (x.size : Int) + (y.size : Int)) := Lib.hid (by rw [bapp_list, List.length_append, hxs, hys]; omega)
        clear hal hbl hxs hys
        refine (escDecode x (by have := hxm.out; omega) s HG.out w4).mono ?_
        rintro e w5 ⟨rfl, hb5⟩
        clear x0 x1 x2 x3 x4
        obtain ⟨x0, x1, x2, x3, x4⟩ := (HX4.out.below hb5).cells
        have HX5 := Lib.hid (HX4.out.below hb5)
        have HB5 : Hid (Below w.heap.size w w5) := Lib.hid (HB4.out.trans (hb5.mono HB4.out.size))
        clear hb5
        rw [ha]
        simp only [decText, decPos, decErr]
        go_wp2_with (fail)
        refine (escDecode y (by have := hym.out; omega) s HG.out w5).mono ?_
        rintro e w6 ⟨rfl, hb6⟩
        clear x0 x1 x2 x3 x4
        obtain ⟨x0, x1, x2, x3, x4⟩ := (HX5.out.below hb6).cells
        have HX6 := Lib.hid (HX5.out.below hb6)
        have HB6 : Hid (Below w.heap.size w w6) := Lib.hid (HB5.out.trans (hb6.mono HB5.out.size))
        clear hb6
        rw [hb]
        simp only [decText, decPos, decErr]
        go_wp2_with (fail)
        refine (escDecode (x ++ y) hsm.out s HG.out w6).mono ?_
        rintro e w7 ⟨rfl, hb7⟩
        clear x0 x1 x2 x3 x4
        obtain ⟨x0, x1, x2, x3, x4⟩ := (HX6.out.below hb7).cells
        have HX7 := Lib.hid (HX6.out.below hb7)
        have HB7 : Hid (Below w.heap.size w w7) := Lib.hid (HB6.out.trans (hb7.mono HB6.out.size))
        clear hb7
        rw [HJ.out]
        simp only [decText, decPos, decErr]
        rw [HSZ.out]
        have hnadd2 : ¬ (9223372036854775807 < ((txt a).size : Int) + ((txt b).size : Int)) := by rw [txt_size, txt_size]; have := HAL.out; have := HBL.out; omega
        have hta := txt_add a b
        go_wp2_with (fail)
        go_ret
        exact ⟨rfl, HB7.out⟩
      · skip
        refine (escDecode x (by have := hxm.out; omega) s HG.out w4).mono ?_
        rintro e w5 ⟨rfl, hb5⟩
        clear x0 x1 x2 x3 x4
        obtain ⟨x0, x1, x2, x3, x4⟩ := (HX4.out.below hb5).cells
        have HX5 := Lib.hid (HX4.out.below hb5)
        have HB5 : Hid (Below w.heap.size w w5) := Lib.hid (HB4.out.trans (hb5.mono HB4.out.size))
        clear hb5
        rw [ha]
        simp only [decText, decPos, decErr]
        go_wp2_with (fail)
        refine (escDecode y (by have := hym.out; omega) s HG.out w5).mono ?_
        rintro e w6 ⟨rfl, hb6⟩
        clear x0 x1 x2 x3 x4
        obtain ⟨x0, x1, x2, x3, x4⟩ := (HX5.out.below hb6).cells
        have HX6 := Lib.hid (HX5.out.below hb6)
        have HB6 : Hid (Below w.heap.size w w6) := Lib.hid (HB5.out.trans (hb6.mono HB5.out.size))
        clear hb6
        rw [he2]
        simp only [decText, decPos, decErr]
        go_wp2_with (fail)
        go_ret
        exact ⟨rfl, HB6.out⟩
    · skip
      refine (escDecode x (by have := hxm.out; omega) s HG.out w4).mono ?_
      rintro e w5 ⟨rfl, hb5⟩
      clear x0 x1 x2 x3 x4
      obtain ⟨x0, x1, x2, x3, x4⟩ := (HX4.out.below hb5).cells
      have HX5 := Lib.hid (HX4.out.below hb5)
      have HB5 : Hid (Below w.heap.size w w5) := Lib.hid (HB4.out.trans (hb5.mono HB4.out.size))
      clear hb5
      rw [he1]
      simp only [decText, decPos, decErr]
      go_wp2_with (fail)
      refine (escDecode y (by have := hym.out; omega) s HG.out w5).mono ?_
      rintro e w6 ⟨rfl, hb6⟩
      clear x0 x1 x2 x3 x4
      obtain ⟨x0, x1, x2, x3, x4⟩ := (HX5.out.below hb6).cells
      have HX6 := Lib.hid (HX5.out.below hb6)
      have HB6 : Hid (Below w.heap.size w w6) := Lib.hid (HB5.out.trans (hb6.mono HB5.out.size))
      clear hb6
      rcases HDY with ⟨b, hb, _⟩ | ⟨e2, he2, _⟩
      · rw [hb]
        simp only [decText, decPos, decErr]
        go_wp2_with (fail)
        go_ret
        exact ⟨rfl, HB6.out⟩
      · rw [he2]
        simp only [decText, decPos, decErr]
        go_wp2_with (fail)
        go_ret
        exact ⟨rfl, HB6.out⟩
end Go.Proofs.Ytecmadodpkfnnaa
