/- TraceNumbers, walked. -/
import Derived.Test.YtnoppnnpennddaaDoorTr8
import Derived.Test.YtnoppnnpennddaaDoorTr10
import Derived.Test.YtnoppnnpennddaaDoorTrN
namespace Go.Proofs.YtnoppnnpennddaaDoor
open Go.RowKit

theorem tmod_bd (n : Int) : -1000000000000000000 < n.tmod 1000000000000000000 ∧ n.tmod 1000000000000000000 < 1000000000000000000 :=
  ⟨Int.lt_tmod_of_pos n (by decide), Int.tmod_lt_of_pos n (by decide)⟩
theorem RetRd.no {w w' : World} {e : Ending} (h : RetRd none w e w') : e = .returned (.tuple #[evV 0 0 0 nilE, .int .i64 10]) ∧ Below w.heap.size w w' := by
  rcases h with ⟨_, h1, h2⟩ | ⟨_, _, _, _, _, _, _, h, _⟩
  · exact ⟨h1, h2⟩
  · cases h
abbrev tickB : List UInt8 := [116, 105, 99, 107]
theorem evT_arm (a b : Int) : evT 7 a b [] = ([97, 114, 109] ++ 32 :: (itoaT a ++ 32 :: itoaT b), 0) := by
  unfold evT
  rw [if_neg (by omega)]
  simp [rowF, wordsT]
theorem evT_tick (a : Int) : evT 4 a 0 [] = (tickB ++ 32 :: itoaT a, 0) := by
  unfold evT
  rw [if_neg (by omega)]
  simp [rowF, wordsT]
theorem ext5 (X : List UInt8) : (txt (tickB ++ 32 :: X)).extract 5 (txt (tickB ++ 32 :: X)).size = txt X := by
  apply ByteArray.ext
  apply Array.toList_inj.1
  rw [extL, List.take_of_length_le (by simp [ByteArray.size])]
  rfl
theorem size5 (X : List UInt8) : (txt (tickB ++ 32 :: X)).size = 5 + X.length := by
  simp [ByteArray.size]
  omega

set_option maxHeartbeats 8000000 in
set_option maxRecDepth 100000 in
theorem traceNumbers_walk (n keep : Int) (w : World) (hv : TRows w ∧ MaxLen w ∧ Pow w) (_h1 : (Lit.int .i64 n).wf = true) (_h2 : (Lit.int .i64 keep).wf = true) :
    Calls Tryd.prog 8 #[.int .i64 n, .int .i64 keep] w fun e w' => e = .returned (.bool true) ∧ Below w.heap.size w w' := by
  have HR := Lib.hid (fun W (hb : Below w.heap.size w W) => hv.1.below hb)
  have HM := Lib.hid (fun W (hb : Below w.heap.size w W) => hv.2.1.below hb)
  have HP := Lib.hid (fun W (hb : Below w.heap.size w W) => hv.2.2.below hb)
  have HA := Lib.hid (tmod_bd n)
  have HK := Lib.hid (tmod_bd keep)
  clear hv _h1 _h2
  obtain ⟨a, ha⟩ : ∃ a, a = n.tmod 1000000000000000000 := ⟨_, rfl⟩
  obtain ⟨b, hb⟩ : ∃ b, b = keep.tmod 1000000000000000000 := ⟨_, rfl⟩
  rw [← ha] at HA
  rw [← hb] at HK
  have HBA : Hid (Below w.heap.size w (w.alloc (.cells (evC 7 a b nilE) TE))) := Lib.hid ((Below.refl _ w).alloc (Nat.le_refl _) _)
  go_enter Tryd.func8, Tryd.ntmps8
  go_wp2_with (fail)
  rw [← ha, ← hb]
  clear ha hb
  generalize w.alloc (.cells (evC 7 a b nilE) TE) = w0 at *
  have hba := HA.out
  have hbk := HK.out
  refine (event_ 7 a b none 0 0 [] w0 (Bs.none_ _) (by omega) (by omega) (by omega) (by omega) (by omega) (HR.out _ HBA.out) (HP.out _ HBA.out)).mono ?_
  rw [evT_arm]
  rintro e w1 ⟨rfl, hb1⟩
  have HB1 := Lib.hid (HBA.out.trans (hb1.mono HBA.out.size))
  have HXA := Lib.hid (itoaT_len a (by omega) (by omega))
  have HXB := Lib.hid (itoaT_len b (by omega) (by omega))
  have HNA := Lib.hid (num_itoa a (by omega) (by omega))
  have HNB := Lib.hid (num_itoa b (by omega) (by omega))
  have HA32 := Lib.hid (itoa_no32 a)
  have HB32 := Lib.hid (itoa_no32 b)
  have HAP := Lib.hid (itoa_pos a)
  have HTK := Lib.hid (evT_tick a)
  obtain ⟨X, hX⟩ : ∃ X, X = itoaT a := ⟨_, rfl⟩
  obtain ⟨Y, hY⟩ : ∃ Y, Y = itoaT b := ⟨_, rfl⟩
  rw [← hX] at HXA HTK ⊢
  rw [← hY] at HXB ⊢
  have HNX : Hid (numT X = (a, true)) := Lib.hid (hX ▸ HNA.out)
  have HNY : Hid (numT Y = (b, true)) := Lib.hid (hY ▸ HNB.out)
  have HX32 : Hid ((32 : UInt8) ∉ X) := Lib.hid (hX ▸ HA32.out)
  have HY32 : Hid ((32 : UInt8) ∉ Y) := Lib.hid (hY ▸ HB32.out)
  have HXP : Hid (1 ≤ X.length) := Lib.hid (hX ▸ HAP.out)
  clear hX hY hb1 HNA HNB HA32 HB32 HAP
  obtain ⟨S, hS⟩ : ∃ S, S = [97, 114, 109] ++ 32 :: (X ++ 32 :: Y) := ⟨_, rfl⟩
  have HSL : Hid (S.length ≤ 100) := Lib.hid (by rw [hS]; have := HXA.out; have := HXB.out; simp; omega)
  have HSW : Hid (readW (wordsN S) = some (7, a, b, [])) := Lib.hid (by rw [hS, words3 _ _ _ (by decide) HX32.out HY32.out]; exact read_arm X Y a b HNX.out HNY.out)
  rw [← hS]
  clear hS hba hbk
  go_wp2_with (fail)
  refine (read_ (txt S) w1 (by rw [size_txt]; have := HSL.out; omega) (HM.out _ HB1.out) (HR.out _ HB1.out)).mono ?_
  rw [show (txt S).data.toList = S from rfl, HSW.out]
  rintro e w2 (⟨hne, _⟩ | ⟨k', n', p', l', A5, m5, c5, he, rfl, hB5, hb2⟩)
  · cases hne
  injection he with he
  simp only [Prod.mk.injEq] at he
  obtain ⟨rfl, rfl, rfl, rfl⟩ := he
  have HZ3 : Hid ((w2.alloc (.cells (evC 7 a b (.slice A5 m5 c5)) TE)).heap[w2.heap.size]? = some (.cells (evC 7 a b (.slice A5 m5 c5)) TE)) := Lib.hid (heap_alloc_new w2 _)
  have HB3 : Hid (Below w.heap.size w (w2.alloc (.cells (evC 7 a b (.slice A5 m5 c5)) TE))) := Lib.hid ((HB1.out.trans (hb2.mono HB1.out.size)).alloc (Nat.le_trans HB1.out.size hb2.size) _)
  clear hb2 hB5
  go_wp2_with (fail)
  obtain ⟨g, hg⟩ : ∃ g, g = w2.heap.size := ⟨_, rfl⟩
  rw [← hg] at HZ3 ⊢
  clear hg
  generalize w2.alloc (.cells (evC 7 a b (.slice A5 m5 c5)) TE) = w3 at *
  refine (alive19 w3 (HM.out _ HB3.out) (HR.out _ HB3.out)).mono ?_
  rintro e w4 ⟨rfl, hb4⟩
  have hlt := (Array.getElem?_eq_some_iff.1 HZ3.out).1
  have HZ4 := Lib.hid ((hb4.block _ hlt).trans HZ3.out)
  have HB4 := Lib.hid (HB3.out.trans (hb4.mono HB3.out.size))
  clear hb4 hlt
  have e0 : w4.cell? ⟨g, 0, none⟩ = some (.int .i64 7) := cell_of_row _ g 0 _ _ _ HZ4.out
  have e1 : w4.cell? ⟨g, 1, none⟩ = some (.int .i64 a) := cell_of_row _ g 1 _ _ _ HZ4.out
  have e2 : w4.cell? ⟨g, 2, none⟩ = some (.int .i64 b) := cell_of_row _ g 2 _ _ _ HZ4.out
  go_wp2_with (fail)
  clear e0 e1 e2
  have hba := HA.out
  refine (event_ 4 a 0 none 0 0 [] w4 (Bs.none_ _) (by omega) (by omega) (by omega) (by omega) (by omega) (HR.out _ HB4.out) (HP.out _ HB4.out)).mono ?_
  rw [HTK.out]
  rintro e w5 ⟨rfl, hb5⟩
  have HB5 := Lib.hid (HB4.out.trans (hb5.mono HB4.out.size))
  have HE5 := Lib.hid (ext5 X)
  have HS5 := Lib.hid (size5 X)
  have HR1 : Hid (readW (wordsN ([116, 105, 99, 107, 32, 48] ++ X)) = none) := Lib.hid (by
    rw [show [116, 105, 99, 107, 32, 48] ++ X = tickB ++ 32 :: (48 :: X) from rfl, words2 _ _ (by decide) (by intro h; rcases List.mem_cons.1 h with e | e; exact absurd e (by decide); exact HX32.out e)]
    exact read_tick1 _ (by rw [num_nought X HXP.out]))
  have HR2 : Hid (readW (wordsN ([116, 105, 99, 107, 32, 43] ++ X)) = none) := Lib.hid (by
    rw [show [116, 105, 99, 107, 32, 43] ++ X = tickB ++ 32 :: (43 :: X) from rfl, words2 _ _ (by decide) (by intro h; rcases List.mem_cons.1 h with e | e; exact absurd e (by decide); exact HX32.out e)]
    exact read_tick1 _ (by rw [num_plus X]))
  have HR3 : Hid (readW (wordsN ((tickB ++ 32 :: X) ++ [32] ++ X)) = none) := Lib.hid (by
    rw [show (tickB ++ 32 :: X) ++ [32] ++ X = tickB ++ 32 :: (X ++ 32 :: X) from by simp, words3 _ _ _ (by decide) HX32.out HX32.out]
    exact read_tick2 X X)
  have h6 : ¬ ((txt (tickB ++ 32 :: X)).size < 6) := by rw [HS5.out]; have := HXP.out; omega
  have h5 : 5 ≤ (txt (tickB ++ 32 :: X)).size := by rw [HS5.out]; omega
  have hle : (txt (tickB ++ 32 :: X)).size ≤ 30 := by rw [HS5.out]; have := HXA.out; omega
  have HLE := Lib.hid hle
  obtain ⟨t, ht⟩ : ∃ t, t = txt (tickB ++ 32 :: X) := ⟨_, rfl⟩
  have HT := Lib.hid ht
  rw [show str ((tickB ++ 32 :: X), (0 : Int)).1 = .string (txt (tickB ++ 32 :: X)) from rfl, ← ht]
  rw [← ht] at HE5 HS5 h6 h5 hle HLE
  have hsz : (t.extract 5 t.size).size ≤ 30 := by rw [HE5.out, size_txt]; have := HXA.out; omega
  have d6 : decide ((t.size : Int) < 6) = false := by rw [decide_eq_false_iff_not]; omega
  have s1 : ¬ (9223372036854775807 < 6 + (t.extract 5 t.size).size) := by omega
  have i5 : (5 : Int) ≤ (t.size : Int) := by omega
  clear hb5 ht hba
  have s2 : ¬ (9223372036854775807 < t.size + 1) := by omega
  have s3 : ¬ (9223372036854775807 < t.size + 1 + (t.extract 5 t.size).size) := by omega
  have Q1 : Hid ((⟨#[116, 105, 99, 107, 32, 48]⟩ : ByteArray) ++ t.extract 5 t.size = txt ([116, 105, 99, 107, 32, 48] ++ X)) := Lib.hid (by rw [HE5.out, show (⟨#[116, 105, 99, 107, 32, 48]⟩ : ByteArray) = txt [116, 105, 99, 107, 32, 48] from rfl, txt_appT])
  have Q2 : Hid ((⟨#[116, 105, 99, 107, 32, 43]⟩ : ByteArray) ++ t.extract 5 t.size = txt ([116, 105, 99, 107, 32, 43] ++ X)) := Lib.hid (by rw [HE5.out, show (⟨#[116, 105, 99, 107, 32, 43]⟩ : ByteArray) = txt [116, 105, 99, 107, 32, 43] from rfl, txt_appT])
  have Q3 : Hid (t ++ (⟨#[32]⟩ : ByteArray) ++ t.extract 5 t.size = txt ((tickB ++ 32 :: X) ++ [32] ++ X)) := Lib.hid (by rw [HE5.out, HT.out, show (⟨#[32]⟩ : ByteArray) = txt [32] from rfl, txt_appT, txt_appT])
  go_wp2_with (fail)
  rw [Q1.out]
  refine (read_ (txt ([116, 105, 99, 107, 32, 48] ++ X)) w5 (by rw [size_txt]; have := HXA.out; simp; omega) (HM.out _ HB5.out) (HR.out _ HB5.out)).mono ?_
  rw [show (txt ([116, 105, 99, 107, 32, 48] ++ X)).data.toList = [116, 105, 99, 107, 32, 48] ++ X from rfl, HR1.out]
  intro e w6 hret
  obtain ⟨rfl, hb6⟩ := hret.no
  clear hret
  have HB6 : Hid (Below w.heap.size w (w6.alloc (.cells (evC 0 0 0 nilE) TE))) := Lib.hid ((HB5.out.trans (hb6.mono HB5.out.size)).alloc (Nat.le_trans HB5.out.size hb6.size) _)
  clear hb6
  go_wp2_with (fail)
  generalize w6.alloc (.cells (evC 0 0 0 nilE) TE) = w7 at *
  rw [Q2.out]
  refine (read_ (txt ([116, 105, 99, 107, 32, 43] ++ X)) w7 (by rw [size_txt]; have := HXA.out; simp; omega) (HM.out _ HB6.out) (HR.out _ HB6.out)).mono ?_
  rw [show (txt ([116, 105, 99, 107, 32, 43] ++ X)).data.toList = [116, 105, 99, 107, 32, 43] ++ X from rfl, HR2.out]
  intro e w8 hret
  obtain ⟨rfl, hb8⟩ := hret.no
  clear hret
  have HB8 : Hid (Below w.heap.size w (w8.alloc (.cells (evC 0 0 0 nilE) TE))) := Lib.hid ((HB6.out.trans (hb8.mono HB6.out.size)).alloc (Nat.le_trans HB6.out.size hb8.size) _)
  clear hb8
  go_wp2_with (fail)
  generalize w8.alloc (.cells (evC 0 0 0 nilE) TE) = w9 at *
  rw [Q3.out]
  refine (read_ (txt ((tickB ++ 32 :: X) ++ [32] ++ X)) w9 (by rw [size_txt]; have := HXA.out; simp; omega) (HM.out _ HB8.out) (HR.out _ HB8.out)).mono ?_
  rw [show (txt ((tickB ++ 32 :: X) ++ [32] ++ X)).data.toList = (tickB ++ 32 :: X) ++ [32] ++ X from rfl, HR3.out]
  intro e wA hret
  obtain ⟨rfl, hbA⟩ := hret.no
  clear hret
  have HBF : Hid (Below w.heap.size w (wA.alloc (.cells (evC 0 0 0 nilE) TE))) := Lib.hid ((HB8.out.trans (hbA.mono HB8.out.size)).alloc (Nat.le_trans HB8.out.size hbA.size) _)
  clear hbA
  go_wp2_with (fail)
  go_ret
  exact ⟨rfl, HBF.out⟩
end Go.Proofs.YtnoppnnpennddaaDoor
