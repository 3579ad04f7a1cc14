/- Layer 19: an event's text, walked. -/
import Derived.Test.YtnoppnnpennddaaDoorTr4
import Derived.Test.YtnoppnnpennddaaDoorTr9
import Derived.Lib.ItoaLen
import Derived.Lib.AppendIntMem
namespace Go.Proofs.YtnoppnnpennddaaDoor
open Go.RowKit

/-- the library's table of powers lies there -/
def Pow (w : World) : Prop := Lib.TabIs Tryd.prog w "internal/strconv.uint64pow10" .u64 Lib.pow10Tab
theorem gPow : Tryd.prog.globalNamed "internal/strconv.uint64pow10" = some 2 := by kernel_rfl
theorem Pow.below {w w' : World} (h : Pow w) (hb : Below w.heap.size w w') : Pow w' := by
  unfold Pow Lib.TabIs World.var? at h ⊢
  rw [gPow] at h ⊢
  simp only [Option.bind_some] at h ⊢
  cases hh : w.heap[2]? with
  | none => rw [hh] at h; cases h
  | some o =>
    rw [hb.block _ (Array.getElem?_eq_some_iff.1 hh).1]
    exact h
abbrev itoaT (n : Int) : List UInt8 := Lib.itoa n
theorem itoaT_len (n : Int) (h0 : -9223372036854775808 ≤ n) (h1 : n ≤ 9223372036854775807) : (itoaT n).length ≤ 21 := Lib.itoa_length_le n h0 h1
theorem text_ (n : Int) (h0 : -9223372036854775808 ≤ n) (h1 : n ≤ 9223372036854775807) (w : World) (hp : Pow w) : Calls Tryd.prog 26 #[.int .i64 n] w fun e w' => e = .returned (str (itoaT n)) ∧ Below w.heap.size w w' := by
  have HP := Lib.hid hp
  have H0 := Lib.hid h0
  have H1 := Lib.hid h1
  clear hp h0 h1
  go_enter Tryd.func26, Tryd.ntmps26
  go_wp2_with (fail)
  refine (Tryd.strconv_Itoa n H0.out H1.out w HP.out).mono ?_
  rintro e w1 ⟨rfl, k, os, rfl⟩
  have HB : Hid (Below w.heap.size w (Go.Sort.grow (w.drewN k) os)) := Lib.hid (Lib.below_grow _ w (Nat.le_refl _) k os)
  generalize Go.Sort.grow (w.drewN k) os = w1 at *
  go_wp2_with (fail)
  go_ret
  exact ⟨rfl, HB.out⟩
/-- the words of a row, as they stand in the text -/
def wordsT : Nat → List UInt8
  | 0 => [105, 110]
  | 1 => [111, 117, 116]
  | 2 => [100, 114, 111, 112, 32, 105, 110]
  | 3 => [100, 114, 111, 112, 32, 111, 117, 116]
  | 4 => [116, 105, 99, 107]
  | 5 => [114, 111, 111, 109]
  | 6 => [102, 97, 105, 108, 115, 121, 110, 99]
  | 7 => [97, 114, 109]
  | 8 => [112, 111, 119, 101, 114]
  | _ => []
/-- an event's text, or why there is none -/
def evT (k n kp : Int) (l : List UInt8) : List UInt8 × Int :=
  if k < 0 ∨ 9 ≤ k then ([], 17)
  else if ((rowF k.toNat).1 = false ∧ l ≠ []) ∨ ((rowF k.toNat).2.1 = false ∧ n ≠ 0) ∨ ((rowF k.toNat).2.2 = false ∧ kp ≠ 0) then ([], 10)
  else (wordsT k.toNat ++ (if (rowF k.toNat).1 = true then 32 :: hexD l else []) ++ (if (rowF k.toNat).2.1 = true then 32 :: itoaT n else []) ++ (if (rowF k.toNat).2.2 = true then 32 :: itoaT kp else []), 0)
abbrev RetT (r : List UInt8 × Int) (w : World) (e : Ending) (w' : World) : Prop := e = .returned (.tuple #[str r.1, .int .i64 r.2]) ∧ Below w.heap.size w w'
theorem str_nil : str [] = .string ⟨#[]⟩ := rfl
theorem sp_app (X : List UInt8) : (⟨#[32]⟩ : ByteArray) ++ txt X = txt (32 :: X) := by
  rw [show (⟨#[32]⟩ : ByteArray) = txt [32] from rfl, txt_appT]
  rfl

set_option maxHeartbeats 8000000 in
set_option maxRecDepth 100000 in
theorem event_bad (k n kp : Int) (A : Option Addr) (m c : Nat) (l : List UInt8) (w : World) (hB : Bs w A m c l) (hm : m ≤ 100000000) (hn0 : -9223372036854775808 ≤ n) (hn1 : n ≤ 9223372036854775807) (hk0 : -9223372036854775808 ≤ kp) (hk1 : kp ≤ 9223372036854775807) (hr : TRows w) (hp : Pow w) (hk : k < 0 ∨ 9 ≤ k) :
    Calls Tryd.prog 11 #[evV k n kp (.slice A m c)] w (RetT (evT k n kp l) w) := by
  have HLE := Lib.hid hB.len
  have hbA : Below w.heap.size w (w.alloc (.cells (evC k n kp (.slice A m c)) TE)) := (Below.refl _ w).alloc (Nat.le_refl _) _
  have HZ : Hid ((w.alloc (.cells (evC k n kp (.slice A m c)) TE)).heap[w.heap.size]? = some (.cells (evC k n kp (.slice A m c)) TE)) := Lib.hid (heap_alloc_new w _)
  have HBS := Lib.hid (hB.below hbA)
  have HR := Lib.hid (hr.below hbA)
  have HP := Lib.hid (hp.below hbA)
  have HB := Lib.hid hbA
  have HM := Lib.hid hm
  have HN := Lib.hid (And.intro hn0 hn1)
  have HK := Lib.hid (And.intro hk0 hk1)
  clear hB hr hp hbA hm hn0 hn1 hk0 hk1
  have HE : Hid (evT k n kp l = ([], 17)) := Lib.hid (if_pos hk)
  rcases hk with hk | hk
  · have d1 : decide (k < 0) = true := by rw [decide_eq_true_iff]; exact hk
    clear hk
    go_enter Tryd.func11, Tryd.ntmps11
    go_wp2_with (fail)
    go_ret2
    exact ⟨by rw [HE.out]; rfl, HB.out⟩
  · have d1 : decide (k < 0) = false := by rw [decide_eq_false_iff_not]; omega
    have d2 : decide (9 ≤ k) = true := by rw [decide_eq_true_iff]; exact hk
    have hk0 : ¬ k < 0 := by omega
    clear d1 d2
    go_enter Tryd.func11, Tryd.ntmps11
    go_wp2_with (fail)
    go_ret2
    exact ⟨by rw [HE.out]; rfl, HB.out⟩

set_option maxHeartbeats 8000000 in
set_option maxRecDepth 100000 in
theorem event_k0 (k n kp : Int) (A : Option Addr) (m c : Nat) (l : List UInt8) (w : World) (hB : Bs w A m c l) (hm : m ≤ 100000000) (hn0 : -9223372036854775808 ≤ n) (hn1 : n ≤ 9223372036854775807) (hk0 : -9223372036854775808 ≤ kp) (hk1 : kp ≤ 9223372036854775807) (hr : TRows w) (hp : Pow w) (hk : k = 0) :
    Calls Tryd.prog 11 #[evV k n kp (.slice A m c)] w (RetT (evT k n kp l) w) := by
  have HLE := Lib.hid hB.len
  have hbA : Below w.heap.size w (w.alloc (.cells (evC k n kp (.slice A m c)) TE)) := (Below.refl _ w).alloc (Nat.le_refl _) _
  have HZ : Hid ((w.alloc (.cells (evC k n kp (.slice A m c)) TE)).heap[w.heap.size]? = some (.cells (evC k n kp (.slice A m c)) TE)) := Lib.hid (heap_alloc_new w _)
  have HBS := Lib.hid (hB.below hbA)
  have HR := Lib.hid (hr.below hbA)
  have HP := Lib.hid (hp.below hbA)
  have HB := Lib.hid hbA
  have HM := Lib.hid hm
  have HN := Lib.hid (And.intro hn0 hn1)
  have HK := Lib.hid (And.intro hk0 hk1)
  clear hB hr hp hbA hm hn0 hn1 hk0 hk1
  subst hk
  obtain ⟨tr, fr, hrow⟩ := HR.out
  have r0 : (w.alloc (.cells (evC 0 n kp (.slice A m c)) TE)).cell? ⟨0, 0, none⟩ = some (.string ⟨#[105, 110]⟩) := cell_of_row _ _ 0 _ _ _ hrow
  have r1 : (w.alloc (.cells (evC 0 n kp (.slice A m c)) TE)).cell? ⟨0, 1, none⟩ = some (.bool true) := cell_of_row _ _ 1 _ _ _ hrow
  have r2 : (w.alloc (.cells (evC 0 n kp (.slice A m c)) TE)).cell? ⟨0, 2, none⟩ = some (.bool false) := cell_of_row _ _ 2 _ _ _ hrow
  have r3 : (w.alloc (.cells (evC 0 n kp (.slice A m c)) TE)).cell? ⟨0, 3, none⟩ = some (.bool false) := cell_of_row _ _ 3 _ _ _ hrow
  have HE : Hid (evT 0 n kp l = if (true = false ∧ l ≠ []) ∨ (false = false ∧ n ≠ 0) ∨ (false = false ∧ kp ≠ 0) then ([], 10) else ([105, 110] ++ (if true = true then 32 :: hexD l else []) ++ (if false = true then 32 :: itoaT n else []) ++ (if false = true then 32 :: itoaT kp else []), 0)) := Lib.hid (by unfold evT; rw [if_neg (by omega)]; rfl)
  clear hrow
  by_cases hc_n : n = 0
  case neg =>
    have HF : Hid (evT 0 n kp l = ([], 10)) := Lib.hid (by rw [HE.out, if_pos (.inr (.inl ⟨rfl, hc_n⟩))])
    have g1 : ((n : Int) == 0) = false := by rw [beq_eq_false_iff_ne]; exact hc_n
    have g2 : ((n : Int) != 0) = true := by rw [bne, g1]; rfl
    go_enter Tryd.func11, Tryd.ntmps11
    go_wp2_with (fail)
    go_ret2
    exact ⟨by rw [HF.out]; rfl, by first | exact HB.out | exact HB.out.alloc HB.out.size _⟩
  skip
  subst hc_n
  by_cases hc_kp : kp = 0
  case neg =>
    have HF : Hid (evT 0 0 kp l = ([], 10)) := Lib.hid (by rw [HE.out, if_pos (.inr (.inr ⟨rfl, hc_kp⟩))])
    have g1 : ((kp : Int) == 0) = false := by rw [beq_eq_false_iff_ne]; exact hc_kp
    have g2 : ((kp : Int) != 0) = true := by rw [bne, g1]; rfl
    go_enter Tryd.func11, Tryd.ntmps11
    go_wp2_with (fail)
    go_ret2
    exact ⟨by rw [HF.out]; rfl, by first | exact HB.out | exact HB.out.alloc HB.out.size _⟩
  skip
  subst hc_kp
  have HF : Hid (evT 0 0 0 l = ([105, 110] ++ 32 :: hexD l, 0)) := Lib.hid (by rw [HE.out, if_neg (by simp)]; simp)
  clear HE
  have HZ2 : Hid (((w.alloc (.cells (evC 0 0 0 (.slice A m c)) TE)).alloc (.cells #[.string ⟨#[105, 110]⟩, .bool true, .bool false, .bool false] 58)).heap[w.heap.size]? = some (.cells (evC 0 0 0 (.slice A m c)) TE)) := Lib.hid (heap_keep HZ.out _)
  have HX2 : Hid (((w.alloc (.cells (evC 0 0 0 (.slice A m c)) TE)).alloc (.cells #[.string ⟨#[105, 110]⟩, .bool true, .bool false, .bool false] 58)).heap[(w.alloc (.cells (evC 0 0 0 (.slice A m c)) TE)).heap.size]? = some (.cells #[.string ⟨#[105, 110]⟩, .bool true, .bool false, .bool false] 58)) := Lib.hid (heap_alloc_new _ _)
  rw [World.size_alloc] at HX2
  have HB2 : Hid (Below w.heap.size w ((w.alloc (.cells (evC 0 0 0 (.slice A m c)) TE)).alloc (.cells #[.string ⟨#[105, 110]⟩, .bool true, .bool false, .bool false] 58))) := Lib.hid (HB.out.alloc HB.out.size _)
  have HBS2 := Lib.hid (HBS.out.alloc (.cells #[.string ⟨#[105, 110]⟩, .bool true, .bool false, .bool false] 58))
  have HP2 := Lib.hid (HP.out.below ((Below.refl _ _).alloc (Nat.le_refl _) (.cells #[.string ⟨#[105, 110]⟩, .bool true, .bool false, .bool false] 58)))
  go_enter Tryd.func11, Tryd.ntmps11
  go_wp2_with (fail)
  clear r0 r1 r2 r3
  obtain ⟨g0, hg0⟩ : ∃ g, g = w.heap.size := ⟨_, rfl⟩
  have HG := Lib.hid hg0
  obtain ⟨g1, hg1⟩ : ∃ g, g = w.heap.size + 1 := ⟨_, rfl⟩
  have lt01 : g0 < g1 := by omega
  rw [← hg1] at HX2 ⊢
  rw [← hg0] at HZ2 ⊢
  clear hg0 hg1
  generalize ((w.alloc (.cells (evC 0 0 0 (.slice A m c)) TE)).alloc (.cells #[.string ⟨#[105, 110]⟩, .bool true, .bool false, .bool false] 58)) = w2 at *
  refine (hex_ A m c l w2 HBS2.out HM.out).mono ?_
  rintro e w3 ⟨rfl, hb3⟩
  have hxl3 : (hexD l).length ≤ 200000001 := by have := hexD_len l; have := HLE.out; have := HM.out; omega
  replace HB2 := Lib.hid (HB2.out.trans (hb3.mono HB2.out.size))
  replace HP2 := Lib.hid (HP2.out.below hb3)
  have hl0 := (Array.getElem?_eq_some_iff.1 HZ2.out).1
  have hl1 := (Array.getElem?_eq_some_iff.1 HX2.out).1
  replace HZ2 := Lib.hid ((hb3.block _ hl0).trans HZ2.out)
  replace HX2 := Lib.hid ((hb3.block _ hl1).trans HX2.out)
  clear hb3 hl0 hl1
  obtain ⟨X3, hX3⟩ : ∃ X, X = hexD l := ⟨_, rfl⟩
  rw [← hX3] at HF hxl3 ⊢
  clear hX3
  have a1 : w3.cell? ⟨g0, 1, none⟩ = some (.int .i64 0) := cell_of_row _ g0 1 _ _ _ HZ2.out
  have a2 : w3.cell? ⟨g0, 2, none⟩ = some (.int .i64 0) := cell_of_row _ g0 2 _ _ _ HZ2.out
  have a3 : w3.cell? ⟨g0, 3, none⟩ = some (.slice A m c) := cell_of_row _ g0 3 _ _ _ HZ2.out
  have b1 : w3.cell? ⟨g1, 1, none⟩ = some (.bool true) := cell_of_row _ g1 1 _ _ _ HX2.out
  have b2 : w3.cell? ⟨g1, 2, none⟩ = some (.bool false) := cell_of_row _ g1 2 _ _ _ HX2.out
  have b3 : w3.cell? ⟨g1, 3, none⟩ = some (.bool false) := cell_of_row _ g1 3 _ _ _ HX2.out
  have s3 : ¬ (9223372036854775807 < 1 + X3.length) := by omega
  have st3 : ¬ ((9223372036854775807 : Int) < 1 + (X3.length : Int)) := by omega
  go_wp2_with (fail)
  clear a1 a2 a3 b1 b2 b3
  go_ret2
  refine ⟨?_, HB2.out⟩
  rw [HF.out]
  show Ending.returned (Value.tuple #[Value.string ((⟨#[105, 110]⟩ : ByteArray) ++ ((⟨#[32]⟩ : ByteArray) ++ txt X3)), .int .i64 0]) = _
  rw [sp_app X3, show (⟨#[105, 110]⟩ : ByteArray) = txt [105, 110] from rfl, txt_appT]

set_option maxHeartbeats 8000000 in
set_option maxRecDepth 100000 in
theorem event_k1 (k n kp : Int) (A : Option Addr) (m c : Nat) (l : List UInt8) (w : World) (hB : Bs w A m c l) (hm : m ≤ 100000000) (hn0 : -9223372036854775808 ≤ n) (hn1 : n ≤ 9223372036854775807) (hk0 : -9223372036854775808 ≤ kp) (hk1 : kp ≤ 9223372036854775807) (hr : TRows w) (hp : Pow w) (hk : k = 1) :
    Calls Tryd.prog 11 #[evV k n kp (.slice A m c)] w (RetT (evT k n kp l) w) := by
  have HLE := Lib.hid hB.len
  have hbA : Below w.heap.size w (w.alloc (.cells (evC k n kp (.slice A m c)) TE)) := (Below.refl _ w).alloc (Nat.le_refl _) _
  have HZ : Hid ((w.alloc (.cells (evC k n kp (.slice A m c)) TE)).heap[w.heap.size]? = some (.cells (evC k n kp (.slice A m c)) TE)) := Lib.hid (heap_alloc_new w _)
  have HBS := Lib.hid (hB.below hbA)
  have HR := Lib.hid (hr.below hbA)
  have HP := Lib.hid (hp.below hbA)
  have HB := Lib.hid hbA
  have HM := Lib.hid hm
  have HN := Lib.hid (And.intro hn0 hn1)
  have HK := Lib.hid (And.intro hk0 hk1)
  clear hB hr hp hbA hm hn0 hn1 hk0 hk1
  subst hk
  obtain ⟨tr, fr, hrow⟩ := HR.out
  have r0 : (w.alloc (.cells (evC 1 n kp (.slice A m c)) TE)).cell? ⟨0, 4, none⟩ = some (.string ⟨#[111, 117, 116]⟩) := cell_of_row _ _ 4 _ _ _ hrow
  have r1 : (w.alloc (.cells (evC 1 n kp (.slice A m c)) TE)).cell? ⟨0, 5, none⟩ = some (.bool true) := cell_of_row _ _ 5 _ _ _ hrow
  have r2 : (w.alloc (.cells (evC 1 n kp (.slice A m c)) TE)).cell? ⟨0, 6, none⟩ = some (.bool false) := cell_of_row _ _ 6 _ _ _ hrow
  have r3 : (w.alloc (.cells (evC 1 n kp (.slice A m c)) TE)).cell? ⟨0, 7, none⟩ = some (.bool false) := cell_of_row _ _ 7 _ _ _ hrow
  have HE : Hid (evT 1 n kp l = if (true = false ∧ l ≠ []) ∨ (false = false ∧ n ≠ 0) ∨ (false = false ∧ kp ≠ 0) then ([], 10) else ([111, 117, 116] ++ (if true = true then 32 :: hexD l else []) ++ (if false = true then 32 :: itoaT n else []) ++ (if false = true then 32 :: itoaT kp else []), 0)) := Lib.hid (by unfold evT; rw [if_neg (by omega)]; rfl)
  clear hrow
  by_cases hc_n : n = 0
  case neg =>
    have HF : Hid (evT 1 n kp l = ([], 10)) := Lib.hid (by rw [HE.out, if_pos (.inr (.inl ⟨rfl, hc_n⟩))])
    have g1 : ((n : Int) == 0) = false := by rw [beq_eq_false_iff_ne]; exact hc_n
    have g2 : ((n : Int) != 0) = true := by rw [bne, g1]; rfl
    go_enter Tryd.func11, Tryd.ntmps11
    go_wp2_with (fail)
    go_ret2
    exact ⟨by rw [HF.out]; rfl, by first | exact HB.out | exact HB.out.alloc HB.out.size _⟩
  skip
  subst hc_n
  by_cases hc_kp : kp = 0
  case neg =>
    have HF : Hid (evT 1 0 kp l = ([], 10)) := Lib.hid (by rw [HE.out, if_pos (.inr (.inr ⟨rfl, hc_kp⟩))])
    have g1 : ((kp : Int) == 0) = false := by rw [beq_eq_false_iff_ne]; exact hc_kp
    have g2 : ((kp : Int) != 0) = true := by rw [bne, g1]; rfl
    go_enter Tryd.func11, Tryd.ntmps11
    go_wp2_with (fail)
    go_ret2
    exact ⟨by rw [HF.out]; rfl, by first | exact HB.out | exact HB.out.alloc HB.out.size _⟩
  skip
  subst hc_kp
  have HF : Hid (evT 1 0 0 l = ([111, 117, 116] ++ 32 :: hexD l, 0)) := Lib.hid (by rw [HE.out, if_neg (by simp)]; simp)
  clear HE
  have HZ2 : Hid (((w.alloc (.cells (evC 1 0 0 (.slice A m c)) TE)).alloc (.cells #[.string ⟨#[111, 117, 116]⟩, .bool true, .bool false, .bool false] 58)).heap[w.heap.size]? = some (.cells (evC 1 0 0 (.slice A m c)) TE)) := Lib.hid (heap_keep HZ.out _)
  have HX2 : Hid (((w.alloc (.cells (evC 1 0 0 (.slice A m c)) TE)).alloc (.cells #[.string ⟨#[111, 117, 116]⟩, .bool true, .bool false, .bool false] 58)).heap[(w.alloc (.cells (evC 1 0 0 (.slice A m c)) TE)).heap.size]? = some (.cells #[.string ⟨#[111, 117, 116]⟩, .bool true, .bool false, .bool false] 58)) := Lib.hid (heap_alloc_new _ _)
  rw [World.size_alloc] at HX2
  have HB2 : Hid (Below w.heap.size w ((w.alloc (.cells (evC 1 0 0 (.slice A m c)) TE)).alloc (.cells #[.string ⟨#[111, 117, 116]⟩, .bool true, .bool false, .bool false] 58))) := Lib.hid (HB.out.alloc HB.out.size _)
  have HBS2 := Lib.hid (HBS.out.alloc (.cells #[.string ⟨#[111, 117, 116]⟩, .bool true, .bool false, .bool false] 58))
  have HP2 := Lib.hid (HP.out.below ((Below.refl _ _).alloc (Nat.le_refl _) (.cells #[.string ⟨#[111, 117, 116]⟩, .bool true, .bool false, .bool false] 58)))
  go_enter Tryd.func11, Tryd.ntmps11
  go_wp2_with (fail)
  clear r0 r1 r2 r3
  obtain ⟨g0, hg0⟩ : ∃ g, g = w.heap.size := ⟨_, rfl⟩
  have HG := Lib.hid hg0
  obtain ⟨g1, hg1⟩ : ∃ g, g = w.heap.size + 1 := ⟨_, rfl⟩
  have lt01 : g0 < g1 := by omega
  rw [← hg1] at HX2 ⊢
  rw [← hg0] at HZ2 ⊢
  clear hg0 hg1
  generalize ((w.alloc (.cells (evC 1 0 0 (.slice A m c)) TE)).alloc (.cells #[.string ⟨#[111, 117, 116]⟩, .bool true, .bool false, .bool false] 58)) = w2 at *
  refine (hex_ A m c l w2 HBS2.out HM.out).mono ?_
  rintro e w3 ⟨rfl, hb3⟩
  have hxl3 : (hexD l).length ≤ 200000001 := by have := hexD_len l; have := HLE.out; have := HM.out; omega
  replace HB2 := Lib.hid (HB2.out.trans (hb3.mono HB2.out.size))
  replace HP2 := Lib.hid (HP2.out.below hb3)
  have hl0 := (Array.getElem?_eq_some_iff.1 HZ2.out).1
  have hl1 := (Array.getElem?_eq_some_iff.1 HX2.out).1
  replace HZ2 := Lib.hid ((hb3.block _ hl0).trans HZ2.out)
  replace HX2 := Lib.hid ((hb3.block _ hl1).trans HX2.out)
  clear hb3 hl0 hl1
  obtain ⟨X3, hX3⟩ : ∃ X, X = hexD l := ⟨_, rfl⟩
  rw [← hX3] at HF hxl3 ⊢
  clear hX3
  have a1 : w3.cell? ⟨g0, 1, none⟩ = some (.int .i64 0) := cell_of_row _ g0 1 _ _ _ HZ2.out
  have a2 : w3.cell? ⟨g0, 2, none⟩ = some (.int .i64 0) := cell_of_row _ g0 2 _ _ _ HZ2.out
  have a3 : w3.cell? ⟨g0, 3, none⟩ = some (.slice A m c) := cell_of_row _ g0 3 _ _ _ HZ2.out
  have b1 : w3.cell? ⟨g1, 1, none⟩ = some (.bool true) := cell_of_row _ g1 1 _ _ _ HX2.out
  have b2 : w3.cell? ⟨g1, 2, none⟩ = some (.bool false) := cell_of_row _ g1 2 _ _ _ HX2.out
  have b3 : w3.cell? ⟨g1, 3, none⟩ = some (.bool false) := cell_of_row _ g1 3 _ _ _ HX2.out
  have s3 : ¬ (9223372036854775807 < 1 + X3.length) := by omega
  have st3 : ¬ ((9223372036854775807 : Int) < 1 + (X3.length : Int)) := by omega
  go_wp2_with (fail)
  clear a1 a2 a3 b1 b2 b3
  go_ret2
  refine ⟨?_, HB2.out⟩
  rw [HF.out]
  show Ending.returned (Value.tuple #[Value.string ((⟨#[111, 117, 116]⟩ : ByteArray) ++ ((⟨#[32]⟩ : ByteArray) ++ txt X3)), .int .i64 0]) = _
  rw [sp_app X3, show (⟨#[111, 117, 116]⟩ : ByteArray) = txt [111, 117, 116] from rfl, txt_appT]

set_option maxHeartbeats 8000000 in
set_option maxRecDepth 100000 in
theorem event_k2 (k n kp : Int) (A : Option Addr) (m c : Nat) (l : List UInt8) (w : World) (hB : Bs w A m c l) (hm : m ≤ 100000000) (hn0 : -9223372036854775808 ≤ n) (hn1 : n ≤ 9223372036854775807) (hk0 : -9223372036854775808 ≤ kp) (hk1 : kp ≤ 9223372036854775807) (hr : TRows w) (hp : Pow w) (hk : k = 2) :
    Calls Tryd.prog 11 #[evV k n kp (.slice A m c)] w (RetT (evT k n kp l) w) := by
  have HLE := Lib.hid hB.len
  have hbA : Below w.heap.size w (w.alloc (.cells (evC k n kp (.slice A m c)) TE)) := (Below.refl _ w).alloc (Nat.le_refl _) _
  have HZ : Hid ((w.alloc (.cells (evC k n kp (.slice A m c)) TE)).heap[w.heap.size]? = some (.cells (evC k n kp (.slice A m c)) TE)) := Lib.hid (heap_alloc_new w _)
  have HBS := Lib.hid (hB.below hbA)
  have HR := Lib.hid (hr.below hbA)
  have HP := Lib.hid (hp.below hbA)
  have HB := Lib.hid hbA
  have HM := Lib.hid hm
  have HN := Lib.hid (And.intro hn0 hn1)
  have HK := Lib.hid (And.intro hk0 hk1)
  clear hB hr hp hbA hm hn0 hn1 hk0 hk1
  subst hk
  obtain ⟨tr, fr, hrow⟩ := HR.out
  have r0 : (w.alloc (.cells (evC 2 n kp (.slice A m c)) TE)).cell? ⟨0, 8, none⟩ = some (.string ⟨#[100, 114, 111, 112, 32, 105, 110]⟩) := cell_of_row _ _ 8 _ _ _ hrow
  have r1 : (w.alloc (.cells (evC 2 n kp (.slice A m c)) TE)).cell? ⟨0, 9, none⟩ = some (.bool false) := cell_of_row _ _ 9 _ _ _ hrow
  have r2 : (w.alloc (.cells (evC 2 n kp (.slice A m c)) TE)).cell? ⟨0, 10, none⟩ = some (.bool false) := cell_of_row _ _ 10 _ _ _ hrow
  have r3 : (w.alloc (.cells (evC 2 n kp (.slice A m c)) TE)).cell? ⟨0, 11, none⟩ = some (.bool false) := cell_of_row _ _ 11 _ _ _ hrow
  have HE : Hid (evT 2 n kp l = if (false = false ∧ l ≠ []) ∨ (false = false ∧ n ≠ 0) ∨ (false = false ∧ kp ≠ 0) then ([], 10) else ([100, 114, 111, 112, 32, 105, 110] ++ (if false = true then 32 :: hexD l else []) ++ (if false = true then 32 :: itoaT n else []) ++ (if false = true then 32 :: itoaT kp else []), 0)) := Lib.hid (by unfold evT; rw [if_neg (by omega)]; rfl)
  clear hrow
  by_cases hc_m : m = 0
  case neg =>
    have HF : Hid (evT 2 n kp l = ([], 10)) := Lib.hid (by rw [HE.out, if_pos (.inl ⟨rfl, fun e => hc_m (by rw [← HLE.out, e]; rfl)⟩)])
    have g1 : (0 : Int) < (m : Int) := by omega
    have g2 : decide ((0 : Int) < (m : Int)) = true := by rw [decide_eq_true_iff]; omega
    go_enter Tryd.func11, Tryd.ntmps11
    go_wp2_with (fail)
    go_ret2
    exact ⟨by rw [HF.out]; rfl, by first | exact HB.out | exact HB.out.alloc HB.out.size _⟩
  skip
  have hm0 : m = 0 := hc_m
  subst hm0
  clear hc_m
  by_cases hc_n : n = 0
  case neg =>
    have HF : Hid (evT 2 n kp l = ([], 10)) := Lib.hid (by rw [HE.out, if_pos (.inr (.inl ⟨rfl, hc_n⟩))])
    have g1 : ((n : Int) == 0) = false := by rw [beq_eq_false_iff_ne]; exact hc_n
    have g2 : ((n : Int) != 0) = true := by rw [bne, g1]; rfl
    go_enter Tryd.func11, Tryd.ntmps11
    go_wp2_with (fail)
    go_ret2
    exact ⟨by rw [HF.out]; rfl, by first | exact HB.out | exact HB.out.alloc HB.out.size _⟩
  skip
  subst hc_n
  by_cases hc_kp : kp = 0
  case neg =>
    have HF : Hid (evT 2 0 kp l = ([], 10)) := Lib.hid (by rw [HE.out, if_pos (.inr (.inr ⟨rfl, hc_kp⟩))])
    have g1 : ((kp : Int) == 0) = false := by rw [beq_eq_false_iff_ne]; exact hc_kp
    have g2 : ((kp : Int) != 0) = true := by rw [bne, g1]; rfl
    go_enter Tryd.func11, Tryd.ntmps11
    go_wp2_with (fail)
    go_ret2
    exact ⟨by rw [HF.out]; rfl, by first | exact HB.out | exact HB.out.alloc HB.out.size _⟩
  skip
  subst hc_kp
  have HF : Hid (evT 2 0 0 l = ([100, 114, 111, 112, 32, 105, 110], 0)) := Lib.hid (by rw [HE.out, if_neg (by simp [List.eq_nil_of_length_eq_zero HLE.out])]; simp)
  clear HE
  have HZ2 : Hid (((w.alloc (.cells (evC 2 0 0 (.slice A 0 c)) TE)).alloc (.cells #[.string ⟨#[100, 114, 111, 112, 32, 105, 110]⟩, .bool false, .bool false, .bool false] 58)).heap[w.heap.size]? = some (.cells (evC 2 0 0 (.slice A 0 c)) TE)) := Lib.hid (heap_keep HZ.out _)
  have HX2 : Hid (((w.alloc (.cells (evC 2 0 0 (.slice A 0 c)) TE)).alloc (.cells #[.string ⟨#[100, 114, 111, 112, 32, 105, 110]⟩, .bool false, .bool false, .bool false] 58)).heap[(w.alloc (.cells (evC 2 0 0 (.slice A 0 c)) TE)).heap.size]? = some (.cells #[.string ⟨#[100, 114, 111, 112, 32, 105, 110]⟩, .bool false, .bool false, .bool false] 58)) := Lib.hid (heap_alloc_new _ _)
  rw [World.size_alloc] at HX2
  have HB2 : Hid (Below w.heap.size w ((w.alloc (.cells (evC 2 0 0 (.slice A 0 c)) TE)).alloc (.cells #[.string ⟨#[100, 114, 111, 112, 32, 105, 110]⟩, .bool false, .bool false, .bool false] 58))) := Lib.hid (HB.out.alloc HB.out.size _)
  have HBS2 := Lib.hid (HBS.out.alloc (.cells #[.string ⟨#[100, 114, 111, 112, 32, 105, 110]⟩, .bool false, .bool false, .bool false] 58))
  have HP2 := Lib.hid (HP.out.below ((Below.refl _ _).alloc (Nat.le_refl _) (.cells #[.string ⟨#[100, 114, 111, 112, 32, 105, 110]⟩, .bool false, .bool false, .bool false] 58)))
  go_enter Tryd.func11, Tryd.ntmps11
  go_wp2_with (fail)
  clear r0 r1 r2 r3
  go_ret2
  exact ⟨by rw [HF.out]; rfl, HB2.out⟩

set_option maxHeartbeats 8000000 in
set_option maxRecDepth 100000 in
theorem event_k3 (k n kp : Int) (A : Option Addr) (m c : Nat) (l : List UInt8) (w : World) (hB : Bs w A m c l) (hm : m ≤ 100000000) (hn0 : -9223372036854775808 ≤ n) (hn1 : n ≤ 9223372036854775807) (hk0 : -9223372036854775808 ≤ kp) (hk1 : kp ≤ 9223372036854775807) (hr : TRows w) (hp : Pow w) (hk : k = 3) :
    Calls Tryd.prog 11 #[evV k n kp (.slice A m c)] w (RetT (evT k n kp l) w) := by
  have HLE := Lib.hid hB.len
  have hbA : Below w.heap.size w (w.alloc (.cells (evC k n kp (.slice A m c)) TE)) := (Below.refl _ w).alloc (Nat.le_refl _) _
  have HZ : Hid ((w.alloc (.cells (evC k n kp (.slice A m c)) TE)).heap[w.heap.size]? = some (.cells (evC k n kp (.slice A m c)) TE)) := Lib.hid (heap_alloc_new w _)
  have HBS := Lib.hid (hB.below hbA)
  have HR := Lib.hid (hr.below hbA)
  have HP := Lib.hid (hp.below hbA)
  have HB := Lib.hid hbA
  have HM := Lib.hid hm
  have HN := Lib.hid (And.intro hn0 hn1)
  have HK := Lib.hid (And.intro hk0 hk1)
  clear hB hr hp hbA hm hn0 hn1 hk0 hk1
  subst hk
  obtain ⟨tr, fr, hrow⟩ := HR.out
  have r0 : (w.alloc (.cells (evC 3 n kp (.slice A m c)) TE)).cell? ⟨0, 12, none⟩ = some (.string ⟨#[100, 114, 111, 112, 32, 111, 117, 116]⟩) := cell_of_row _ _ 12 _ _ _ hrow
  have r1 : (w.alloc (.cells (evC 3 n kp (.slice A m c)) TE)).cell? ⟨0, 13, none⟩ = some (.bool false) := cell_of_row _ _ 13 _ _ _ hrow
  have r2 : (w.alloc (.cells (evC 3 n kp (.slice A m c)) TE)).cell? ⟨0, 14, none⟩ = some (.bool false) := cell_of_row _ _ 14 _ _ _ hrow
  have r3 : (w.alloc (.cells (evC 3 n kp (.slice A m c)) TE)).cell? ⟨0, 15, none⟩ = some (.bool false) := cell_of_row _ _ 15 _ _ _ hrow
  have HE : Hid (evT 3 n kp l = if (false = false ∧ l ≠ []) ∨ (false = false ∧ n ≠ 0) ∨ (false = false ∧ kp ≠ 0) then ([], 10) else ([100, 114, 111, 112, 32, 111, 117, 116] ++ (if false = true then 32 :: hexD l else []) ++ (if false = true then 32 :: itoaT n else []) ++ (if false = true then 32 :: itoaT kp else []), 0)) := Lib.hid (by unfold evT; rw [if_neg (by omega)]; rfl)
  clear hrow
  by_cases hc_m : m = 0
  case neg =>
    have HF : Hid (evT 3 n kp l = ([], 10)) := Lib.hid (by rw [HE.out, if_pos (.inl ⟨rfl, fun e => hc_m (by rw [← HLE.out, e]; rfl)⟩)])
    have g1 : (0 : Int) < (m : Int) := by omega
    have g2 : decide ((0 : Int) < (m : Int)) = true := by rw [decide_eq_true_iff]; omega
    go_enter Tryd.func11, Tryd.ntmps11
    go_wp2_with (fail)
    go_ret2
    exact ⟨by rw [HF.out]; rfl, by first | exact HB.out | exact HB.out.alloc HB.out.size _⟩
  skip
  have hm0 : m = 0 := hc_m
  subst hm0
  clear hc_m
  by_cases hc_n : n = 0
  case neg =>
    have HF : Hid (evT 3 n kp l = ([], 10)) := Lib.hid (by rw [HE.out, if_pos (.inr (.inl ⟨rfl, hc_n⟩))])
    have g1 : ((n : Int) == 0) = false := by rw [beq_eq_false_iff_ne]; exact hc_n
    have g2 : ((n : Int) != 0) = true := by rw [bne, g1]; rfl
    go_enter Tryd.func11, Tryd.ntmps11
    go_wp2_with (fail)
    go_ret2
    exact ⟨by rw [HF.out]; rfl, by first | exact HB.out | exact HB.out.alloc HB.out.size _⟩
  skip
  subst hc_n
  by_cases hc_kp : kp = 0
  case neg =>
    have HF : Hid (evT 3 0 kp l = ([], 10)) := Lib.hid (by rw [HE.out, if_pos (.inr (.inr ⟨rfl, hc_kp⟩))])
    have g1 : ((kp : Int) == 0) = false := by rw [beq_eq_false_iff_ne]; exact hc_kp
    have g2 : ((kp : Int) != 0) = true := by rw [bne, g1]; rfl
    go_enter Tryd.func11, Tryd.ntmps11
    go_wp2_with (fail)
    go_ret2
    exact ⟨by rw [HF.out]; rfl, by first | exact HB.out | exact HB.out.alloc HB.out.size _⟩
  skip
  subst hc_kp
  have HF : Hid (evT 3 0 0 l = ([100, 114, 111, 112, 32, 111, 117, 116], 0)) := Lib.hid (by rw [HE.out, if_neg (by simp [List.eq_nil_of_length_eq_zero HLE.out])]; simp)
  clear HE
  have HZ2 : Hid (((w.alloc (.cells (evC 3 0 0 (.slice A 0 c)) TE)).alloc (.cells #[.string ⟨#[100, 114, 111, 112, 32, 111, 117, 116]⟩, .bool false, .bool false, .bool false] 58)).heap[w.heap.size]? = some (.cells (evC 3 0 0 (.slice A 0 c)) TE)) := Lib.hid (heap_keep HZ.out _)
  have HX2 : Hid (((w.alloc (.cells (evC 3 0 0 (.slice A 0 c)) TE)).alloc (.cells #[.string ⟨#[100, 114, 111, 112, 32, 111, 117, 116]⟩, .bool false, .bool false, .bool false] 58)).heap[(w.alloc (.cells (evC 3 0 0 (.slice A 0 c)) TE)).heap.size]? = some (.cells #[.string ⟨#[100, 114, 111, 112, 32, 111, 117, 116]⟩, .bool false, .bool false, .bool false] 58)) := Lib.hid (heap_alloc_new _ _)
  rw [World.size_alloc] at HX2
  have HB2 : Hid (Below w.heap.size w ((w.alloc (.cells (evC 3 0 0 (.slice A 0 c)) TE)).alloc (.cells #[.string ⟨#[100, 114, 111, 112, 32, 111, 117, 116]⟩, .bool false, .bool false, .bool false] 58))) := Lib.hid (HB.out.alloc HB.out.size _)
  have HBS2 := Lib.hid (HBS.out.alloc (.cells #[.string ⟨#[100, 114, 111, 112, 32, 111, 117, 116]⟩, .bool false, .bool false, .bool false] 58))
  have HP2 := Lib.hid (HP.out.below ((Below.refl _ _).alloc (Nat.le_refl _) (.cells #[.string ⟨#[100, 114, 111, 112, 32, 111, 117, 116]⟩, .bool false, .bool false, .bool false] 58)))
  go_enter Tryd.func11, Tryd.ntmps11
  go_wp2_with (fail)
  clear r0 r1 r2 r3
  go_ret2
  exact ⟨by rw [HF.out]; rfl, HB2.out⟩

set_option maxHeartbeats 8000000 in
set_option maxRecDepth 100000 in
theorem event_k4 (k n kp : Int) (A : Option Addr) (m c : Nat) (l : List UInt8) (w : World) (hB : Bs w A m c l) (hm : m ≤ 100000000) (hn0 : -9223372036854775808 ≤ n) (hn1 : n ≤ 9223372036854775807) (hk0 : -9223372036854775808 ≤ kp) (hk1 : kp ≤ 9223372036854775807) (hr : TRows w) (hp : Pow w) (hk : k = 4) :
    Calls Tryd.prog 11 #[evV k n kp (.slice A m c)] w (RetT (evT k n kp l) w) := by
  have HLE := Lib.hid hB.len
  have hbA : Below w.heap.size w (w.alloc (.cells (evC k n kp (.slice A m c)) TE)) := (Below.refl _ w).alloc (Nat.le_refl _) _
  have HZ : Hid ((w.alloc (.cells (evC k n kp (.slice A m c)) TE)).heap[w.heap.size]? = some (.cells (evC k n kp (.slice A m c)) TE)) := Lib.hid (heap_alloc_new w _)
  have HBS := Lib.hid (hB.below hbA)
  have HR := Lib.hid (hr.below hbA)
  have HP := Lib.hid (hp.below hbA)
  have HB := Lib.hid hbA
  have HM := Lib.hid hm
  have HN := Lib.hid (And.intro hn0 hn1)
  have HK := Lib.hid (And.intro hk0 hk1)
  clear hB hr hp hbA hm hn0 hn1 hk0 hk1
  subst hk
  obtain ⟨tr, fr, hrow⟩ := HR.out
  have r0 : (w.alloc (.cells (evC 4 n kp (.slice A m c)) TE)).cell? ⟨0, 16, none⟩ = some (.string ⟨#[116, 105, 99, 107]⟩) := cell_of_row _ _ 16 _ _ _ hrow
  have r1 : (w.alloc (.cells (evC 4 n kp (.slice A m c)) TE)).cell? ⟨0, 17, none⟩ = some (.bool false) := cell_of_row _ _ 17 _ _ _ hrow
  have r2 : (w.alloc (.cells (evC 4 n kp (.slice A m c)) TE)).cell? ⟨0, 18, none⟩ = some (.bool true) := cell_of_row _ _ 18 _ _ _ hrow
  have r3 : (w.alloc (.cells (evC 4 n kp (.slice A m c)) TE)).cell? ⟨0, 19, none⟩ = some (.bool false) := cell_of_row _ _ 19 _ _ _ hrow
  have HE : Hid (evT 4 n kp l = if (false = false ∧ l ≠ []) ∨ (true = false ∧ n ≠ 0) ∨ (false = false ∧ kp ≠ 0) then ([], 10) else ([116, 105, 99, 107] ++ (if false = true then 32 :: hexD l else []) ++ (if true = true then 32 :: itoaT n else []) ++ (if false = true then 32 :: itoaT kp else []), 0)) := Lib.hid (by unfold evT; rw [if_neg (by omega)]; rfl)
  clear hrow
  by_cases hc_m : m = 0
  case neg =>
    have HF : Hid (evT 4 n kp l = ([], 10)) := Lib.hid (by rw [HE.out, if_pos (.inl ⟨rfl, fun e => hc_m (by rw [← HLE.out, e]; rfl)⟩)])
    have g1 : (0 : Int) < (m : Int) := by omega
    have g2 : decide ((0 : Int) < (m : Int)) = true := by rw [decide_eq_true_iff]; omega
    go_enter Tryd.func11, Tryd.ntmps11
    go_wp2_with (fail)
    go_ret2
    exact ⟨by rw [HF.out]; rfl, by first | exact HB.out | exact HB.out.alloc HB.out.size _⟩
  skip
  have hm0 : m = 0 := hc_m
  subst hm0
  clear hc_m
  by_cases hc_kp : kp = 0
  case neg =>
    have HF : Hid (evT 4 n kp l = ([], 10)) := Lib.hid (by rw [HE.out, if_pos (.inr (.inr ⟨rfl, hc_kp⟩))])
    have g1 : ((kp : Int) == 0) = false := by rw [beq_eq_false_iff_ne]; exact hc_kp
    have g2 : ((kp : Int) != 0) = true := by rw [bne, g1]; rfl
    go_enter Tryd.func11, Tryd.ntmps11
    go_wp2_with (fail)
    go_ret2
    exact ⟨by rw [HF.out]; rfl, by first | exact HB.out | exact HB.out.alloc HB.out.size _⟩
  skip
  subst hc_kp
  have HF : Hid (evT 4 n 0 l = ([116, 105, 99, 107] ++ 32 :: itoaT n, 0)) := Lib.hid (by rw [HE.out, if_neg (by simp [List.eq_nil_of_length_eq_zero HLE.out])]; simp)
  clear HE
  have HZ2 : Hid (((w.alloc (.cells (evC 4 n 0 (.slice A 0 c)) TE)).alloc (.cells #[.string ⟨#[116, 105, 99, 107]⟩, .bool false, .bool true, .bool false] 58)).heap[w.heap.size]? = some (.cells (evC 4 n 0 (.slice A 0 c)) TE)) := Lib.hid (heap_keep HZ.out _)
  have HX2 : Hid (((w.alloc (.cells (evC 4 n 0 (.slice A 0 c)) TE)).alloc (.cells #[.string ⟨#[116, 105, 99, 107]⟩, .bool false, .bool true, .bool false] 58)).heap[(w.alloc (.cells (evC 4 n 0 (.slice A 0 c)) TE)).heap.size]? = some (.cells #[.string ⟨#[116, 105, 99, 107]⟩, .bool false, .bool true, .bool false] 58)) := Lib.hid (heap_alloc_new _ _)
  rw [World.size_alloc] at HX2
  have HB2 : Hid (Below w.heap.size w ((w.alloc (.cells (evC 4 n 0 (.slice A 0 c)) TE)).alloc (.cells #[.string ⟨#[116, 105, 99, 107]⟩, .bool false, .bool true, .bool false] 58))) := Lib.hid (HB.out.alloc HB.out.size _)
  have HBS2 := Lib.hid (HBS.out.alloc (.cells #[.string ⟨#[116, 105, 99, 107]⟩, .bool false, .bool true, .bool false] 58))
  have HP2 := Lib.hid (HP.out.below ((Below.refl _ _).alloc (Nat.le_refl _) (.cells #[.string ⟨#[116, 105, 99, 107]⟩, .bool false, .bool true, .bool false] 58)))
  go_enter Tryd.func11, Tryd.ntmps11
  go_wp2_with (fail)
  clear r0 r1 r2 r3
  obtain ⟨g0, hg0⟩ : ∃ g, g = w.heap.size := ⟨_, rfl⟩
  have HG := Lib.hid hg0
  obtain ⟨g1, hg1⟩ : ∃ g, g = w.heap.size + 1 := ⟨_, rfl⟩
  have lt01 : g0 < g1 := by omega
  rw [← hg1] at HX2 ⊢
  rw [← hg0] at HZ2 ⊢
  clear hg0 hg1
  generalize ((w.alloc (.cells (evC 4 n 0 (.slice A 0 c)) TE)).alloc (.cells #[.string ⟨#[116, 105, 99, 107]⟩, .bool false, .bool true, .bool false] 58)) = w2 at *
  refine (text_ n HN.out.1 HN.out.2 w2 HP2.out).mono ?_
  rintro e w3 ⟨rfl, hb3⟩
  have hxl3 : (itoaT n).length ≤ 200000001 := by have := itoaT_len n HN.out.1 HN.out.2; omega
  replace HB2 := Lib.hid (HB2.out.trans (hb3.mono HB2.out.size))
  replace HP2 := Lib.hid (HP2.out.below hb3)
  have hl0 := (Array.getElem?_eq_some_iff.1 HZ2.out).1
  have hl1 := (Array.getElem?_eq_some_iff.1 HX2.out).1
  replace HZ2 := Lib.hid ((hb3.block _ hl0).trans HZ2.out)
  replace HX2 := Lib.hid ((hb3.block _ hl1).trans HX2.out)
  clear hb3 hl0 hl1
  obtain ⟨X3, hX3⟩ : ∃ X, X = itoaT n := ⟨_, rfl⟩
  rw [← hX3] at HF hxl3 ⊢
  clear hX3
  have a1 : w3.cell? ⟨g0, 1, none⟩ = some (.int .i64 n) := cell_of_row _ g0 1 _ _ _ HZ2.out
  have a2 : w3.cell? ⟨g0, 2, none⟩ = some (.int .i64 0) := cell_of_row _ g0 2 _ _ _ HZ2.out
  have a3 : w3.cell? ⟨g0, 3, none⟩ = some (.slice A 0 c) := cell_of_row _ g0 3 _ _ _ HZ2.out
  have b1 : w3.cell? ⟨g1, 1, none⟩ = some (.bool false) := cell_of_row _ g1 1 _ _ _ HX2.out
  have b2 : w3.cell? ⟨g1, 2, none⟩ = some (.bool true) := cell_of_row _ g1 2 _ _ _ HX2.out
  have b3 : w3.cell? ⟨g1, 3, none⟩ = some (.bool false) := cell_of_row _ g1 3 _ _ _ HX2.out
  have s3 : ¬ (9223372036854775807 < 1 + X3.length) := by omega
  have st3 : ¬ ((9223372036854775807 : Int) < 1 + (X3.length : Int)) := by omega
  go_wp2_with (fail)
  clear a1 a2 a3 b1 b2 b3
  go_ret2
  refine ⟨?_, HB2.out⟩
  rw [HF.out]
  show Ending.returned (Value.tuple #[Value.string ((⟨#[116, 105, 99, 107]⟩ : ByteArray) ++ ((⟨#[32]⟩ : ByteArray) ++ txt X3)), .int .i64 0]) = _
  rw [sp_app X3, show (⟨#[116, 105, 99, 107]⟩ : ByteArray) = txt [116, 105, 99, 107] from rfl, txt_appT]

set_option maxHeartbeats 8000000 in
set_option maxRecDepth 100000 in
theorem event_k5 (k n kp : Int) (A : Option Addr) (m c : Nat) (l : List UInt8) (w : World) (hB : Bs w A m c l) (hm : m ≤ 100000000) (hn0 : -9223372036854775808 ≤ n) (hn1 : n ≤ 9223372036854775807) (hk0 : -9223372036854775808 ≤ kp) (hk1 : kp ≤ 9223372036854775807) (hr : TRows w) (hp : Pow w) (hk : k = 5) :
    Calls Tryd.prog 11 #[evV k n kp (.slice A m c)] w (RetT (evT k n kp l) w) := by
  have HLE := Lib.hid hB.len
  have hbA : Below w.heap.size w (w.alloc (.cells (evC k n kp (.slice A m c)) TE)) := (Below.refl _ w).alloc (Nat.le_refl _) _
  have HZ : Hid ((w.alloc (.cells (evC k n kp (.slice A m c)) TE)).heap[w.heap.size]? = some (.cells (evC k n kp (.slice A m c)) TE)) := Lib.hid (heap_alloc_new w _)
  have HBS := Lib.hid (hB.below hbA)
  have HR := Lib.hid (hr.below hbA)
  have HP := Lib.hid (hp.below hbA)
  have HB := Lib.hid hbA
  have HM := Lib.hid hm
  have HN := Lib.hid (And.intro hn0 hn1)
  have HK := Lib.hid (And.intro hk0 hk1)
  clear hB hr hp hbA hm hn0 hn1 hk0 hk1
  subst hk
  obtain ⟨tr, fr, hrow⟩ := HR.out
  have r0 : (w.alloc (.cells (evC 5 n kp (.slice A m c)) TE)).cell? ⟨0, 20, none⟩ = some (.string ⟨#[114, 111, 111, 109]⟩) := cell_of_row _ _ 20 _ _ _ hrow
  have r1 : (w.alloc (.cells (evC 5 n kp (.slice A m c)) TE)).cell? ⟨0, 21, none⟩ = some (.bool false) := cell_of_row _ _ 21 _ _ _ hrow
  have r2 : (w.alloc (.cells (evC 5 n kp (.slice A m c)) TE)).cell? ⟨0, 22, none⟩ = some (.bool true) := cell_of_row _ _ 22 _ _ _ hrow
  have r3 : (w.alloc (.cells (evC 5 n kp (.slice A m c)) TE)).cell? ⟨0, 23, none⟩ = some (.bool false) := cell_of_row _ _ 23 _ _ _ hrow
  have HE : Hid (evT 5 n kp l = if (false = false ∧ l ≠ []) ∨ (true = false ∧ n ≠ 0) ∨ (false = false ∧ kp ≠ 0) then ([], 10) else ([114, 111, 111, 109] ++ (if false = true then 32 :: hexD l else []) ++ (if true = true then 32 :: itoaT n else []) ++ (if false = true then 32 :: itoaT kp else []), 0)) := Lib.hid (by unfold evT; rw [if_neg (by omega)]; rfl)
  clear hrow
  by_cases hc_m : m = 0
  case neg =>
    have HF : Hid (evT 5 n kp l = ([], 10)) := Lib.hid (by rw [HE.out, if_pos (.inl ⟨rfl, fun e => hc_m (by rw [← HLE.out, e]; rfl)⟩)])
    have g1 : (0 : Int) < (m : Int) := by omega
    have g2 : decide ((0 : Int) < (m : Int)) = true := by rw [decide_eq_true_iff]; omega
    go_enter Tryd.func11, Tryd.ntmps11
    go_wp2_with (fail)
    go_ret2
    exact ⟨by rw [HF.out]; rfl, by first | exact HB.out | exact HB.out.alloc HB.out.size _⟩
  skip
  have hm0 : m = 0 := hc_m
  subst hm0
  clear hc_m
  by_cases hc_kp : kp = 0
  case neg =>
    have HF : Hid (evT 5 n kp l = ([], 10)) := Lib.hid (by rw [HE.out, if_pos (.inr (.inr ⟨rfl, hc_kp⟩))])
    have g1 : ((kp : Int) == 0) = false := by rw [beq_eq_false_iff_ne]; exact hc_kp
    have g2 : ((kp : Int) != 0) = true := by rw [bne, g1]; rfl
    go_enter Tryd.func11, Tryd.ntmps11
    go_wp2_with (fail)
    go_ret2
    exact ⟨by rw [HF.out]; rfl, by first | exact HB.out | exact HB.out.alloc HB.out.size _⟩
  skip
  subst hc_kp
  have HF : Hid (evT 5 n 0 l = ([114, 111, 111, 109] ++ 32 :: itoaT n, 0)) := Lib.hid (by rw [HE.out, if_neg (by simp [List.eq_nil_of_length_eq_zero HLE.out])]; simp)
  clear HE
  have HZ2 : Hid (((w.alloc (.cells (evC 5 n 0 (.slice A 0 c)) TE)).alloc (.cells #[.string ⟨#[114, 111, 111, 109]⟩, .bool false, .bool true, .bool false] 58)).heap[w.heap.size]? = some (.cells (evC 5 n 0 (.slice A 0 c)) TE)) := Lib.hid (heap_keep HZ.out _)
  have HX2 : Hid (((w.alloc (.cells (evC 5 n 0 (.slice A 0 c)) TE)).alloc (.cells #[.string ⟨#[114, 111, 111, 109]⟩, .bool false, .bool true, .bool false] 58)).heap[(w.alloc (.cells (evC 5 n 0 (.slice A 0 c)) TE)).heap.size]? = some (.cells #[.string ⟨#[114, 111, 111, 109]⟩, .bool false, .bool true, .bool false] 58)) := Lib.hid (heap_alloc_new _ _)
  rw [World.size_alloc] at HX2
  have HB2 : Hid (Below w.heap.size w ((w.alloc (.cells (evC 5 n 0 (.slice A 0 c)) TE)).alloc (.cells #[.string ⟨#[114, 111, 111, 109]⟩, .bool false, .bool true, .bool false] 58))) := Lib.hid (HB.out.alloc HB.out.size _)
  have HBS2 := Lib.hid (HBS.out.alloc (.cells #[.string ⟨#[114, 111, 111, 109]⟩, .bool false, .bool true, .bool false] 58))
  have HP2 := Lib.hid (HP.out.below ((Below.refl _ _).alloc (Nat.le_refl _) (.cells #[.string ⟨#[114, 111, 111, 109]⟩, .bool false, .bool true, .bool false] 58)))
  go_enter Tryd.func11, Tryd.ntmps11
  go_wp2_with (fail)
  clear r0 r1 r2 r3
  obtain ⟨g0, hg0⟩ : ∃ g, g = w.heap.size := ⟨_, rfl⟩
  have HG := Lib.hid hg0
  obtain ⟨g1, hg1⟩ : ∃ g, g = w.heap.size + 1 := ⟨_, rfl⟩
  have lt01 : g0 < g1 := by omega
  rw [← hg1] at HX2 ⊢
  rw [← hg0] at HZ2 ⊢
  clear hg0 hg1
  generalize ((w.alloc (.cells (evC 5 n 0 (.slice A 0 c)) TE)).alloc (.cells #[.string ⟨#[114, 111, 111, 109]⟩, .bool false, .bool true, .bool false] 58)) = w2 at *
  refine (text_ n HN.out.1 HN.out.2 w2 HP2.out).mono ?_
  rintro e w3 ⟨rfl, hb3⟩
  have hxl3 : (itoaT n).length ≤ 200000001 := by have := itoaT_len n HN.out.1 HN.out.2; omega
  replace HB2 := Lib.hid (HB2.out.trans (hb3.mono HB2.out.size))
  replace HP2 := Lib.hid (HP2.out.below hb3)
  have hl0 := (Array.getElem?_eq_some_iff.1 HZ2.out).1
  have hl1 := (Array.getElem?_eq_some_iff.1 HX2.out).1
  replace HZ2 := Lib.hid ((hb3.block _ hl0).trans HZ2.out)
  replace HX2 := Lib.hid ((hb3.block _ hl1).trans HX2.out)
  clear hb3 hl0 hl1
  obtain ⟨X3, hX3⟩ : ∃ X, X = itoaT n := ⟨_, rfl⟩
  rw [← hX3] at HF hxl3 ⊢
  clear hX3
  have a1 : w3.cell? ⟨g0, 1, none⟩ = some (.int .i64 n) := cell_of_row _ g0 1 _ _ _ HZ2.out
  have a2 : w3.cell? ⟨g0, 2, none⟩ = some (.int .i64 0) := cell_of_row _ g0 2 _ _ _ HZ2.out
  have a3 : w3.cell? ⟨g0, 3, none⟩ = some (.slice A 0 c) := cell_of_row _ g0 3 _ _ _ HZ2.out
  have b1 : w3.cell? ⟨g1, 1, none⟩ = some (.bool false) := cell_of_row _ g1 1 _ _ _ HX2.out
  have b2 : w3.cell? ⟨g1, 2, none⟩ = some (.bool true) := cell_of_row _ g1 2 _ _ _ HX2.out
  have b3 : w3.cell? ⟨g1, 3, none⟩ = some (.bool false) := cell_of_row _ g1 3 _ _ _ HX2.out
  have s3 : ¬ (9223372036854775807 < 1 + X3.length) := by omega
  have st3 : ¬ ((9223372036854775807 : Int) < 1 + (X3.length : Int)) := by omega
  go_wp2_with (fail)
  clear a1 a2 a3 b1 b2 b3
  go_ret2
  refine ⟨?_, HB2.out⟩
  rw [HF.out]
  show Ending.returned (Value.tuple #[Value.string ((⟨#[114, 111, 111, 109]⟩ : ByteArray) ++ ((⟨#[32]⟩ : ByteArray) ++ txt X3)), .int .i64 0]) = _
  rw [sp_app X3, show (⟨#[114, 111, 111, 109]⟩ : ByteArray) = txt [114, 111, 111, 109] from rfl, txt_appT]

set_option maxHeartbeats 8000000 in
set_option maxRecDepth 100000 in
theorem event_k6 (k n kp : Int) (A : Option Addr) (m c : Nat) (l : List UInt8) (w : World) (hB : Bs w A m c l) (hm : m ≤ 100000000) (hn0 : -9223372036854775808 ≤ n) (hn1 : n ≤ 9223372036854775807) (hk0 : -9223372036854775808 ≤ kp) (hk1 : kp ≤ 9223372036854775807) (hr : TRows w) (hp : Pow w) (hk : k = 6) :
    Calls Tryd.prog 11 #[evV k n kp (.slice A m c)] w (RetT (evT k n kp l) w) := by
  have HLE := Lib.hid hB.len
  have hbA : Below w.heap.size w (w.alloc (.cells (evC k n kp (.slice A m c)) TE)) := (Below.refl _ w).alloc (Nat.le_refl _) _
  have HZ : Hid ((w.alloc (.cells (evC k n kp (.slice A m c)) TE)).heap[w.heap.size]? = some (.cells (evC k n kp (.slice A m c)) TE)) := Lib.hid (heap_alloc_new w _)
  have HBS := Lib.hid (hB.below hbA)
  have HR := Lib.hid (hr.below hbA)
  have HP := Lib.hid (hp.below hbA)
  have HB := Lib.hid hbA
  have HM := Lib.hid hm
  have HN := Lib.hid (And.intro hn0 hn1)
  have HK := Lib.hid (And.intro hk0 hk1)
  clear hB hr hp hbA hm hn0 hn1 hk0 hk1
  subst hk
  obtain ⟨tr, fr, hrow⟩ := HR.out
  have r0 : (w.alloc (.cells (evC 6 n kp (.slice A m c)) TE)).cell? ⟨0, 24, none⟩ = some (.string ⟨#[102, 97, 105, 108, 115, 121, 110, 99]⟩) := cell_of_row _ _ 24 _ _ _ hrow
  have r1 : (w.alloc (.cells (evC 6 n kp (.slice A m c)) TE)).cell? ⟨0, 25, none⟩ = some (.bool false) := cell_of_row _ _ 25 _ _ _ hrow
  have r2 : (w.alloc (.cells (evC 6 n kp (.slice A m c)) TE)).cell? ⟨0, 26, none⟩ = some (.bool true) := cell_of_row _ _ 26 _ _ _ hrow
  have r3 : (w.alloc (.cells (evC 6 n kp (.slice A m c)) TE)).cell? ⟨0, 27, none⟩ = some (.bool false) := cell_of_row _ _ 27 _ _ _ hrow
  have HE : Hid (evT 6 n kp l = if (false = false ∧ l ≠ []) ∨ (true = false ∧ n ≠ 0) ∨ (false = false ∧ kp ≠ 0) then ([], 10) else ([102, 97, 105, 108, 115, 121, 110, 99] ++ (if false = true then 32 :: hexD l else []) ++ (if true = true then 32 :: itoaT n else []) ++ (if false = true then 32 :: itoaT kp else []), 0)) := Lib.hid (by unfold evT; rw [if_neg (by omega)]; rfl)
  clear hrow
  by_cases hc_m : m = 0
  case neg =>
    have HF : Hid (evT 6 n kp l = ([], 10)) := Lib.hid (by rw [HE.out, if_pos (.inl ⟨rfl, fun e => hc_m (by rw [← HLE.out, e]; rfl)⟩)])
    have g1 : (0 : Int) < (m : Int) := by omega
    have g2 : decide ((0 : Int) < (m : Int)) = true := by rw [decide_eq_true_iff]; omega
    go_enter Tryd.func11, Tryd.ntmps11
    go_wp2_with (fail)
    go_ret2
    exact ⟨by rw [HF.out]; rfl, by first | exact HB.out | exact HB.out.alloc HB.out.size _⟩
  skip
  have hm0 : m = 0 := hc_m
  subst hm0
  clear hc_m
  by_cases hc_kp : kp = 0
  case neg =>
    have HF : Hid (evT 6 n kp l = ([], 10)) := Lib.hid (by rw [HE.out, if_pos (.inr (.inr ⟨rfl, hc_kp⟩))])
    have g1 : ((kp : Int) == 0) = false := by rw [beq_eq_false_iff_ne]; exact hc_kp
    have g2 : ((kp : Int) != 0) = true := by rw [bne, g1]; rfl
    go_enter Tryd.func11, Tryd.ntmps11
    go_wp2_with (fail)
    go_ret2
    exact ⟨by rw [HF.out]; rfl, by first | exact HB.out | exact HB.out.alloc HB.out.size _⟩
  skip
  subst hc_kp
  have HF : Hid (evT 6 n 0 l = ([102, 97, 105, 108, 115, 121, 110, 99] ++ 32 :: itoaT n, 0)) := Lib.hid (by rw [HE.out, if_neg (by simp [List.eq_nil_of_length_eq_zero HLE.out])]; simp)
  clear HE
  have HZ2 : Hid (((w.alloc (.cells (evC 6 n 0 (.slice A 0 c)) TE)).alloc (.cells #[.string ⟨#[102, 97, 105, 108, 115, 121, 110, 99]⟩, .bool false, .bool true, .bool false] 58)).heap[w.heap.size]? = some (.cells (evC 6 n 0 (.slice A 0 c)) TE)) := Lib.hid (heap_keep HZ.out _)
  have HX2 : Hid (((w.alloc (.cells (evC 6 n 0 (.slice A 0 c)) TE)).alloc (.cells #[.string ⟨#[102, 97, 105, 108, 115, 121, 110, 99]⟩, .bool false, .bool true, .bool false] 58)).heap[(w.alloc (.cells (evC 6 n 0 (.slice A 0 c)) TE)).heap.size]? = some (.cells #[.string ⟨#[102, 97, 105, 108, 115, 121, 110, 99]⟩, .bool false, .bool true, .bool false] 58)) := Lib.hid (heap_alloc_new _ _)
  rw [World.size_alloc] at HX2
  have HB2 : Hid (Below w.heap.size w ((w.alloc (.cells (evC 6 n 0 (.slice A 0 c)) TE)).alloc (.cells #[.string ⟨#[102, 97, 105, 108, 115, 121, 110, 99]⟩, .bool false, .bool true, .bool false] 58))) := Lib.hid (HB.out.alloc HB.out.size _)
  have HBS2 := Lib.hid (HBS.out.alloc (.cells #[.string ⟨#[102, 97, 105, 108, 115, 121, 110, 99]⟩, .bool false, .bool true, .bool false] 58))
  have HP2 := Lib.hid (HP.out.below ((Below.refl _ _).alloc (Nat.le_refl _) (.cells #[.string ⟨#[102, 97, 105, 108, 115, 121, 110, 99]⟩, .bool false, .bool true, .bool false] 58)))
  go_enter Tryd.func11, Tryd.ntmps11
  go_wp2_with (fail)
  clear r0 r1 r2 r3
  obtain ⟨g0, hg0⟩ : ∃ g, g = w.heap.size := ⟨_, rfl⟩
  have HG := Lib.hid hg0
  obtain ⟨g1, hg1⟩ : ∃ g, g = w.heap.size + 1 := ⟨_, rfl⟩
  have lt01 : g0 < g1 := by omega
  rw [← hg1] at HX2 ⊢
  rw [← hg0] at HZ2 ⊢
  clear hg0 hg1
  generalize ((w.alloc (.cells (evC 6 n 0 (.slice A 0 c)) TE)).alloc (.cells #[.string ⟨#[102, 97, 105, 108, 115, 121, 110, 99]⟩, .bool false, .bool true, .bool false] 58)) = w2 at *
  refine (text_ n HN.out.1 HN.out.2 w2 HP2.out).mono ?_
  rintro e w3 ⟨rfl, hb3⟩
  have hxl3 : (itoaT n).length ≤ 200000001 := by have := itoaT_len n HN.out.1 HN.out.2; omega
  replace HB2 := Lib.hid (HB2.out.trans (hb3.mono HB2.out.size))
  replace HP2 := Lib.hid (HP2.out.below hb3)
  have hl0 := (Array.getElem?_eq_some_iff.1 HZ2.out).1
  have hl1 := (Array.getElem?_eq_some_iff.1 HX2.out).1
  replace HZ2 := Lib.hid ((hb3.block _ hl0).trans HZ2.out)
  replace HX2 := Lib.hid ((hb3.block _ hl1).trans HX2.out)
  clear hb3 hl0 hl1
  obtain ⟨X3, hX3⟩ : ∃ X, X = itoaT n := ⟨_, rfl⟩
  rw [← hX3] at HF hxl3 ⊢
  clear hX3
  have a1 : w3.cell? ⟨g0, 1, none⟩ = some (.int .i64 n) := cell_of_row _ g0 1 _ _ _ HZ2.out
  have a2 : w3.cell? ⟨g0, 2, none⟩ = some (.int .i64 0) := cell_of_row _ g0 2 _ _ _ HZ2.out
  have a3 : w3.cell? ⟨g0, 3, none⟩ = some (.slice A 0 c) := cell_of_row _ g0 3 _ _ _ HZ2.out
  have b1 : w3.cell? ⟨g1, 1, none⟩ = some (.bool false) := cell_of_row _ g1 1 _ _ _ HX2.out
  have b2 : w3.cell? ⟨g1, 2, none⟩ = some (.bool true) := cell_of_row _ g1 2 _ _ _ HX2.out
  have b3 : w3.cell? ⟨g1, 3, none⟩ = some (.bool false) := cell_of_row _ g1 3 _ _ _ HX2.out
  have s3 : ¬ (9223372036854775807 < 1 + X3.length) := by omega
  have st3 : ¬ ((9223372036854775807 : Int) < 1 + (X3.length : Int)) := by omega
  go_wp2_with (fail)
  clear a1 a2 a3 b1 b2 b3
  go_ret2
  refine ⟨?_, HB2.out⟩
  rw [HF.out]
  show Ending.returned (Value.tuple #[Value.string ((⟨#[102, 97, 105, 108, 115, 121, 110, 99]⟩ : ByteArray) ++ ((⟨#[32]⟩ : ByteArray) ++ txt X3)), .int .i64 0]) = _
  rw [sp_app X3, show (⟨#[102, 97, 105, 108, 115, 121, 110, 99]⟩ : ByteArray) = txt [102, 97, 105, 108, 115, 121, 110, 99] from rfl, txt_appT]

set_option maxHeartbeats 8000000 in
set_option maxRecDepth 100000 in
theorem event_k7 (k n kp : Int) (A : Option Addr) (m c : Nat) (l : List UInt8) (w : World) (hB : Bs w A m c l) (hm : m ≤ 100000000) (hn0 : -9223372036854775808 ≤ n) (hn1 : n ≤ 9223372036854775807) (hk0 : -9223372036854775808 ≤ kp) (hk1 : kp ≤ 9223372036854775807) (hr : TRows w) (hp : Pow w) (hk : k = 7) :
    Calls Tryd.prog 11 #[evV k n kp (.slice A m c)] w (RetT (evT k n kp l) w) := by
  have HLE := Lib.hid hB.len
  have hbA : Below w.heap.size w (w.alloc (.cells (evC k n kp (.slice A m c)) TE)) := (Below.refl _ w).alloc (Nat.le_refl _) _
  have HZ : Hid ((w.alloc (.cells (evC k n kp (.slice A m c)) TE)).heap[w.heap.size]? = some (.cells (evC k n kp (.slice A m c)) TE)) := Lib.hid (heap_alloc_new w _)
  have HBS := Lib.hid (hB.below hbA)
  have HR := Lib.hid (hr.below hbA)
  have HP := Lib.hid (hp.below hbA)
  have HB := Lib.hid hbA
  have HM := Lib.hid hm
  have HN := Lib.hid (And.intro hn0 hn1)
  have HK := Lib.hid (And.intro hk0 hk1)
  clear hB hr hp hbA hm hn0 hn1 hk0 hk1
  subst hk
  obtain ⟨tr, fr, hrow⟩ := HR.out
  have r0 : (w.alloc (.cells (evC 7 n kp (.slice A m c)) TE)).cell? ⟨0, 28, none⟩ = some (.string ⟨#[97, 114, 109]⟩) := cell_of_row _ _ 28 _ _ _ hrow
  have r1 : (w.alloc (.cells (evC 7 n kp (.slice A m c)) TE)).cell? ⟨0, 29, none⟩ = some (.bool false) := cell_of_row _ _ 29 _ _ _ hrow
  have r2 : (w.alloc (.cells (evC 7 n kp (.slice A m c)) TE)).cell? ⟨0, 30, none⟩ = some (.bool true) := cell_of_row _ _ 30 _ _ _ hrow
  have r3 : (w.alloc (.cells (evC 7 n kp (.slice A m c)) TE)).cell? ⟨0, 31, none⟩ = some (.bool true) := cell_of_row _ _ 31 _ _ _ hrow
  have HE : Hid (evT 7 n kp l = if (false = false ∧ l ≠ []) ∨ (true = false ∧ n ≠ 0) ∨ (true = false ∧ kp ≠ 0) then ([], 10) else ([97, 114, 109] ++ (if false = true then 32 :: hexD l else []) ++ (if true = true then 32 :: itoaT n else []) ++ (if true = true then 32 :: itoaT kp else []), 0)) := Lib.hid (by unfold evT; rw [if_neg (by omega)]; rfl)
  clear hrow
  by_cases hc_m : m = 0
  case neg =>
    have HF : Hid (evT 7 n kp l = ([], 10)) := Lib.hid (by rw [HE.out, if_pos (.inl ⟨rfl, fun e => hc_m (by rw [← HLE.out, e]; rfl)⟩)])
    have g1 : (0 : Int) < (m : Int) := by omega
    have g2 : decide ((0 : Int) < (m : Int)) = true := by rw [decide_eq_true_iff]; omega
    go_enter Tryd.func11, Tryd.ntmps11
    go_wp2_with (fail)
    go_ret2
    exact ⟨by rw [HF.out]; rfl, by first | exact HB.out | exact HB.out.alloc HB.out.size _⟩
  skip
  have hm0 : m = 0 := hc_m
  subst hm0
  clear hc_m
  have HF : Hid (evT 7 n kp l = ([97, 114, 109] ++ 32 :: itoaT n ++ 32 :: itoaT kp, 0)) := Lib.hid (by rw [HE.out, if_neg (by simp [List.eq_nil_of_length_eq_zero HLE.out])]; simp)
  clear HE
  have HZ2 : Hid (((w.alloc (.cells (evC 7 n kp (.slice A 0 c)) TE)).alloc (.cells #[.string ⟨#[97, 114, 109]⟩, .bool false, .bool true, .bool true] 58)).heap[w.heap.size]? = some (.cells (evC 7 n kp (.slice A 0 c)) TE)) := Lib.hid (heap_keep HZ.out _)
  have HX2 : Hid (((w.alloc (.cells (evC 7 n kp (.slice A 0 c)) TE)).alloc (.cells #[.string ⟨#[97, 114, 109]⟩, .bool false, .bool true, .bool true] 58)).heap[(w.alloc (.cells (evC 7 n kp (.slice A 0 c)) TE)).heap.size]? = some (.cells #[.string ⟨#[97, 114, 109]⟩, .bool false, .bool true, .bool true] 58)) := Lib.hid (heap_alloc_new _ _)
  rw [World.size_alloc] at HX2
  have HB2 : Hid (Below w.heap.size w ((w.alloc (.cells (evC 7 n kp (.slice A 0 c)) TE)).alloc (.cells #[.string ⟨#[97, 114, 109]⟩, .bool false, .bool true, .bool true] 58))) := Lib.hid (HB.out.alloc HB.out.size _)
  have HBS2 := Lib.hid (HBS.out.alloc (.cells #[.string ⟨#[97, 114, 109]⟩, .bool false, .bool true, .bool true] 58))
  have HP2 := Lib.hid (HP.out.below ((Below.refl _ _).alloc (Nat.le_refl _) (.cells #[.string ⟨#[97, 114, 109]⟩, .bool false, .bool true, .bool true] 58)))
  go_enter Tryd.func11, Tryd.ntmps11
  go_wp2_with (fail)
  clear r0 r1 r2 r3
  obtain ⟨g0, hg0⟩ : ∃ g, g = w.heap.size := ⟨_, rfl⟩
  have HG := Lib.hid hg0
  obtain ⟨g1, hg1⟩ : ∃ g, g = w.heap.size + 1 := ⟨_, rfl⟩
  have lt01 : g0 < g1 := by omega
  rw [← hg1] at HX2 ⊢
  rw [← hg0] at HZ2 ⊢
  clear hg0 hg1
  generalize ((w.alloc (.cells (evC 7 n kp (.slice A 0 c)) TE)).alloc (.cells #[.string ⟨#[97, 114, 109]⟩, .bool false, .bool true, .bool true] 58)) = w2 at *
  refine (text_ n HN.out.1 HN.out.2 w2 HP2.out).mono ?_
  rintro e w3 ⟨rfl, hb3⟩
  have hxl3 : (itoaT n).length ≤ 200000001 := by have := itoaT_len n HN.out.1 HN.out.2; omega
  replace HB2 := Lib.hid (HB2.out.trans (hb3.mono HB2.out.size))
  replace HP2 := Lib.hid (HP2.out.below hb3)
  have hl0 := (Array.getElem?_eq_some_iff.1 HZ2.out).1
  have hl1 := (Array.getElem?_eq_some_iff.1 HX2.out).1
  replace HZ2 := Lib.hid ((hb3.block _ hl0).trans HZ2.out)
  replace HX2 := Lib.hid ((hb3.block _ hl1).trans HX2.out)
  clear hb3 hl0 hl1
  obtain ⟨X3, hX3⟩ : ∃ X, X = itoaT n := ⟨_, rfl⟩
  rw [← hX3] at HF hxl3 ⊢
  clear hX3
  have a1 : w3.cell? ⟨g0, 1, none⟩ = some (.int .i64 n) := cell_of_row _ g0 1 _ _ _ HZ2.out
  have a2 : w3.cell? ⟨g0, 2, none⟩ = some (.int .i64 kp) := cell_of_row _ g0 2 _ _ _ HZ2.out
  have a3 : w3.cell? ⟨g0, 3, none⟩ = some (.slice A 0 c) := cell_of_row _ g0 3 _ _ _ HZ2.out
  have b1 : w3.cell? ⟨g1, 1, none⟩ = some (.bool false) := cell_of_row _ g1 1 _ _ _ HX2.out
  have b2 : w3.cell? ⟨g1, 2, none⟩ = some (.bool true) := cell_of_row _ g1 2 _ _ _ HX2.out
  have b3 : w3.cell? ⟨g1, 3, none⟩ = some (.bool true) := cell_of_row _ g1 3 _ _ _ HX2.out
  have s3 : ¬ (9223372036854775807 < 1 + X3.length) := by omega
  have st3 : ¬ ((9223372036854775807 : Int) < 1 + (X3.length : Int)) := by omega
  go_wp2_with (fail)
  clear a1 a2 a3 b1 b2 b3
  refine (text_ kp HK.out.1 HK.out.2 w3 HP2.out).mono ?_
  rintro e w4 ⟨rfl, hb4⟩
  have hxl4 : (itoaT kp).length ≤ 200000001 := by have := itoaT_len kp HK.out.1 HK.out.2; omega
  replace HB2 := Lib.hid (HB2.out.trans (hb4.mono HB2.out.size))
  replace HP2 := Lib.hid (HP2.out.below hb4)
  have hl0 := (Array.getElem?_eq_some_iff.1 HZ2.out).1
  have hl1 := (Array.getElem?_eq_some_iff.1 HX2.out).1
  replace HZ2 := Lib.hid ((hb4.block _ hl0).trans HZ2.out)
  replace HX2 := Lib.hid ((hb4.block _ hl1).trans HX2.out)
  clear hb4 hl0 hl1
  obtain ⟨X4, hX4⟩ : ∃ X, X = itoaT kp := ⟨_, rfl⟩
  rw [← hX4] at HF hxl4 ⊢
  clear hX4
  have a1 : w4.cell? ⟨g0, 1, none⟩ = some (.int .i64 n) := cell_of_row _ g0 1 _ _ _ HZ2.out
  have a2 : w4.cell? ⟨g0, 2, none⟩ = some (.int .i64 kp) := cell_of_row _ g0 2 _ _ _ HZ2.out
  have a3 : w4.cell? ⟨g0, 3, none⟩ = some (.slice A 0 c) := cell_of_row _ g0 3 _ _ _ HZ2.out
  have b1 : w4.cell? ⟨g1, 1, none⟩ = some (.bool false) := cell_of_row _ g1 1 _ _ _ HX2.out
  have b2 : w4.cell? ⟨g1, 2, none⟩ = some (.bool true) := cell_of_row _ g1 2 _ _ _ HX2.out
  have b3 : w4.cell? ⟨g1, 3, none⟩ = some (.bool true) := cell_of_row _ g1 3 _ _ _ HX2.out
  have s4 : ¬ (9223372036854775807 < 1 + X4.length) := by omega
  have st4 : ¬ ((9223372036854775807 : Int) < 1 + (X4.length : Int)) := by omega
  go_wp2_with (fail)
  clear a1 a2 a3 b1 b2 b3
  go_ret2
  refine ⟨?_, HB2.out⟩
  rw [HF.out]
  show Ending.returned (Value.tuple #[Value.string (((⟨#[97, 114, 109]⟩ : ByteArray) ++ ((⟨#[32]⟩ : ByteArray) ++ txt X3)) ++ ((⟨#[32]⟩ : ByteArray) ++ txt X4)), .int .i64 0]) = _
  rw [sp_app X3, sp_app X4, show (⟨#[97, 114, 109]⟩ : ByteArray) = txt [97, 114, 109] from rfl, txt_appT, txt_appT]

set_option maxHeartbeats 8000000 in
set_option maxRecDepth 100000 in
theorem event_k8 (k n kp : Int) (A : Option Addr) (m c : Nat) (l : List UInt8) (w : World) (hB : Bs w A m c l) (hm : m ≤ 100000000) (hn0 : -9223372036854775808 ≤ n) (hn1 : n ≤ 9223372036854775807) (hk0 : -9223372036854775808 ≤ kp) (hk1 : kp ≤ 9223372036854775807) (hr : TRows w) (hp : Pow w) (hk : k = 8) :
    Calls Tryd.prog 11 #[evV k n kp (.slice A m c)] w (RetT (evT k n kp l) w) := by
  have HLE := Lib.hid hB.len
  have hbA : Below w.heap.size w (w.alloc (.cells (evC k n kp (.slice A m c)) TE)) := (Below.refl _ w).alloc (Nat.le_refl _) _
  have HZ : Hid ((w.alloc (.cells (evC k n kp (.slice A m c)) TE)).heap[w.heap.size]? = some (.cells (evC k n kp (.slice A m c)) TE)) := Lib.hid (heap_alloc_new w _)
  have HBS := Lib.hid (hB.below hbA)
  have HR := Lib.hid (hr.below hbA)
  have HP := Lib.hid (hp.below hbA)
  have HB := Lib.hid hbA
  have HM := Lib.hid hm
  have HN := Lib.hid (And.intro hn0 hn1)
  have HK := Lib.hid (And.intro hk0 hk1)
  clear hB hr hp hbA hm hn0 hn1 hk0 hk1
  subst hk
  obtain ⟨tr, fr, hrow⟩ := HR.out
  have r0 : (w.alloc (.cells (evC 8 n kp (.slice A m c)) TE)).cell? ⟨0, 32, none⟩ = some (.string ⟨#[112, 111, 119, 101, 114]⟩) := cell_of_row _ _ 32 _ _ _ hrow
  have r1 : (w.alloc (.cells (evC 8 n kp (.slice A m c)) TE)).cell? ⟨0, 33, none⟩ = some (.bool false) := cell_of_row _ _ 33 _ _ _ hrow
  have r2 : (w.alloc (.cells (evC 8 n kp (.slice A m c)) TE)).cell? ⟨0, 34, none⟩ = some (.bool false) := cell_of_row _ _ 34 _ _ _ hrow
  have r3 : (w.alloc (.cells (evC 8 n kp (.slice A m c)) TE)).cell? ⟨0, 35, none⟩ = some (.bool true) := cell_of_row _ _ 35 _ _ _ hrow
  have HE : Hid (evT 8 n kp l = if (false = false ∧ l ≠ []) ∨ (false = false ∧ n ≠ 0) ∨ (true = false ∧ kp ≠ 0) then ([], 10) else ([112, 111, 119, 101, 114] ++ (if false = true then 32 :: hexD l else []) ++ (if false = true then 32 :: itoaT n else []) ++ (if true = true then 32 :: itoaT kp else []), 0)) := Lib.hid (by unfold evT; rw [if_neg (by omega)]; rfl)
  clear hrow
  by_cases hc_m : m = 0
  case neg =>
    have HF : Hid (evT 8 n kp l = ([], 10)) := Lib.hid (by rw [HE.out, if_pos (.inl ⟨rfl, fun e => hc_m (by rw [← HLE.out, e]; rfl)⟩)])
    have g1 : (0 : Int) < (m : Int) := by omega
    have g2 : decide ((0 : Int) < (m : Int)) = true := by rw [decide_eq_true_iff]; omega
    go_enter Tryd.func11, Tryd.ntmps11
    go_wp2_with (fail)
    go_ret2
    exact ⟨by rw [HF.out]; rfl, by first | exact HB.out | exact HB.out.alloc HB.out.size _⟩
  skip
  have hm0 : m = 0 := hc_m
  subst hm0
  clear hc_m
  by_cases hc_n : n = 0
  case neg =>
    have HF : Hid (evT 8 n kp l = ([], 10)) := Lib.hid (by rw [HE.out, if_pos (.inr (.inl ⟨rfl, hc_n⟩))])
    have g1 : ((n : Int) == 0) = false := by rw [beq_eq_false_iff_ne]; exact hc_n
    have g2 : ((n : Int) != 0) = true := by rw [bne, g1]; rfl
    go_enter Tryd.func11, Tryd.ntmps11
    go_wp2_with (fail)
    go_ret2
    exact ⟨by rw [HF.out]; rfl, by first | exact HB.out | exact HB.out.alloc HB.out.size _⟩
  skip
  subst hc_n
  have HF : Hid (evT 8 0 kp l = ([112, 111, 119, 101, 114] ++ 32 :: itoaT kp, 0)) := Lib.hid (by rw [HE.out, if_neg (by simp [List.eq_nil_of_length_eq_zero HLE.out])]; simp)
  clear HE
  have HZ2 : Hid (((w.alloc (.cells (evC 8 0 kp (.slice A 0 c)) TE)).alloc (.cells #[.string ⟨#[112, 111, 119, 101, 114]⟩, .bool false, .bool false, .bool true] 58)).heap[w.heap.size]? = some (.cells (evC 8 0 kp (.slice A 0 c)) TE)) := Lib.hid (heap_keep HZ.out _)
  have HX2 : Hid (((w.alloc (.cells (evC 8 0 kp (.slice A 0 c)) TE)).alloc (.cells #[.string ⟨#[112, 111, 119, 101, 114]⟩, .bool false, .bool false, .bool true] 58)).heap[(w.alloc (.cells (evC 8 0 kp (.slice A 0 c)) TE)).heap.size]? = some (.cells #[.string ⟨#[112, 111, 119, 101, 114]⟩, .bool false, .bool false, .bool true] 58)) := Lib.hid (heap_alloc_new _ _)
  rw [World.size_alloc] at HX2
  have HB2 : Hid (Below w.heap.size w ((w.alloc (.cells (evC 8 0 kp (.slice A 0 c)) TE)).alloc (.cells #[.string ⟨#[112, 111, 119, 101, 114]⟩, .bool false, .bool false, .bool true] 58))) := Lib.hid (HB.out.alloc HB.out.size _)
  have HBS2 := Lib.hid (HBS.out.alloc (.cells #[.string ⟨#[112, 111, 119, 101, 114]⟩, .bool false, .bool false, .bool true] 58))
  have HP2 := Lib.hid (HP.out.below ((Below.refl _ _).alloc (Nat.le_refl _) (.cells #[.string ⟨#[112, 111, 119, 101, 114]⟩, .bool false, .bool false, .bool true] 58)))
  go_enter Tryd.func11, Tryd.ntmps11
  go_wp2_with (fail)
  clear r0 r1 r2 r3
  obtain ⟨g0, hg0⟩ : ∃ g, g = w.heap.size := ⟨_, rfl⟩
  have HG := Lib.hid hg0
  obtain ⟨g1, hg1⟩ : ∃ g, g = w.heap.size + 1 := ⟨_, rfl⟩
  have lt01 : g0 < g1 := by omega
  rw [← hg1] at HX2 ⊢
  rw [← hg0] at HZ2 ⊢
  clear hg0 hg1
  generalize ((w.alloc (.cells (evC 8 0 kp (.slice A 0 c)) TE)).alloc (.cells #[.string ⟨#[112, 111, 119, 101, 114]⟩, .bool false, .bool false, .bool true] 58)) = w2 at *
  refine (text_ kp HK.out.1 HK.out.2 w2 HP2.out).mono ?_
  rintro e w3 ⟨rfl, hb3⟩
  have hxl3 : (itoaT kp).length ≤ 200000001 := by have := itoaT_len kp HK.out.1 HK.out.2; omega
  replace HB2 := Lib.hid (HB2.out.trans (hb3.mono HB2.out.size))
  replace HP2 := Lib.hid (HP2.out.below hb3)
  have hl0 := (Array.getElem?_eq_some_iff.1 HZ2.out).1
  have hl1 := (Array.getElem?_eq_some_iff.1 HX2.out).1
  replace HZ2 := Lib.hid ((hb3.block _ hl0).trans HZ2.out)
  replace HX2 := Lib.hid ((hb3.block _ hl1).trans HX2.out)
  clear hb3 hl0 hl1
  obtain ⟨X3, hX3⟩ : ∃ X, X = itoaT kp := ⟨_, rfl⟩
  rw [← hX3] at HF hxl3 ⊢
  clear hX3
  have a1 : w3.cell? ⟨g0, 1, none⟩ = some (.int .i64 0) := cell_of_row _ g0 1 _ _ _ HZ2.out
  have a2 : w3.cell? ⟨g0, 2, none⟩ = some (.int .i64 kp) := cell_of_row _ g0 2 _ _ _ HZ2.out
  have a3 : w3.cell? ⟨g0, 3, none⟩ = some (.slice A 0 c) := cell_of_row _ g0 3 _ _ _ HZ2.out
  have b1 : w3.cell? ⟨g1, 1, none⟩ = some (.bool false) := cell_of_row _ g1 1 _ _ _ HX2.out
  have b2 : w3.cell? ⟨g1, 2, none⟩ = some (.bool false) := cell_of_row _ g1 2 _ _ _ HX2.out
  have b3 : w3.cell? ⟨g1, 3, none⟩ = some (.bool true) := cell_of_row _ g1 3 _ _ _ HX2.out
  have s3 : ¬ (9223372036854775807 < 1 + X3.length) := by omega
  have st3 : ¬ ((9223372036854775807 : Int) < 1 + (X3.length : Int)) := by omega
  go_wp2_with (fail)
  clear a1 a2 a3 b1 b2 b3
  go_ret2
  refine ⟨?_, HB2.out⟩
  rw [HF.out]
  show Ending.returned (Value.tuple #[Value.string ((⟨#[112, 111, 119, 101, 114]⟩ : ByteArray) ++ ((⟨#[32]⟩ : ByteArray) ++ txt X3)), .int .i64 0]) = _
  rw [sp_app X3, show (⟨#[112, 111, 119, 101, 114]⟩ : ByteArray) = txt [112, 111, 119, 101, 114] from rfl, txt_appT]

theorem event_ (k n kp : Int) (A : Option Addr) (m c : Nat) (l : List UInt8) (w : World) (hB : Bs w A m c l) (hm : m ≤ 100000000) (hn0 : -9223372036854775808 ≤ n) (hn1 : n ≤ 9223372036854775807) (hk0 : -9223372036854775808 ≤ kp) (hk1 : kp ≤ 9223372036854775807) (hr : TRows w) (hp : Pow w) :
    Calls Tryd.prog 11 #[evV k n kp (.slice A m c)] w (RetT (evT k n kp l) w) := by
  by_cases hb : k < 0 ∨ 9 ≤ k
  · exact event_bad k n kp A m c l w hB hm hn0 hn1 hk0 hk1 hr hp hb
  have hk : k = 0 ∨ k = 1 ∨ k = 2 ∨ k = 3 ∨ k = 4 ∨ k = 5 ∨ k = 6 ∨ k = 7 ∨ k = 8 := by omega
  rcases hk with h | h | h | h | h | h | h | h | h
  · exact event_k0 k n kp A m c l w hB hm hn0 hn1 hk0 hk1 hr hp h
  · exact event_k1 k n kp A m c l w hB hm hn0 hn1 hk0 hk1 hr hp h
  · exact event_k2 k n kp A m c l w hB hm hn0 hn1 hk0 hk1 hr hp h
  · exact event_k3 k n kp A m c l w hB hm hn0 hn1 hk0 hk1 hr hp h
  · exact event_k4 k n kp A m c l w hB hm hn0 hn1 hk0 hk1 hr hp h
  · exact event_k5 k n kp A m c l w hB hm hn0 hn1 hk0 hk1 hr hp h
  · exact event_k6 k n kp A m c l w hB hm hn0 hn1 hk0 hk1 hr hp h
  · exact event_k7 k n kp A m c l w hB hm hn0 hn1 hk0 hk1 hr hp h
  · exact event_k8 k n kp A m c l w hB hm hn0 hn1 hk0 hk1 hr hp h
end Go.Proofs.YtnoppnnpennddaaDoor
