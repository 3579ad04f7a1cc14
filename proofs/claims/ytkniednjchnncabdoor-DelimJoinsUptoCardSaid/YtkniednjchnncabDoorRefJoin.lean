/- Layer 6: the answer's Join; a sign's text. -/
import Derived.Test.YtkniednjchnncabDoorRefCut
namespace Go.Proofs.YtkniednjchnncabDoor
open Go.RowKit

theorem jlen (c : UInt8) : ∀ T : List (List UInt8), (Lib.join T [c]).length = Lib.lens T + (T.length - 1)
  | [] => by simp [Lib.join_nil, Lib.lens]
  | x :: r => by rw [join_length_cut]; simp; omega
theorem jlen_take (c : UInt8) (T : List (List UInt8)) (k : Nat) : (Lib.join (T.take k) [c]).length ≤ (Lib.join T [c]).length := by
  rw [jlen, jlen]
  have := Lib.lens_take_le T k
  rw [List.length_take]
  omega
theorem join_snoc (c : UInt8) (x y : List UInt8) (r : List (List UInt8)) : Lib.join ((x :: r) ++ [y]) [c] = Lib.join (x :: r) [c] ++ c :: y := by
  rw [List.cons_append, Lib.join_cons, Lib.join_cons]
  simp [Lib.joinTail]
theorem take_getD (T : List (List UInt8)) (k : Nat) (hk : k < T.length) : T.take (k + 1) = T.take k ++ [T.getD k []] := by
  rw [List.take_add_one, List.getD_eq_getElem?_getD, List.getElem?_eq_getElem hk]
  rfl
theorem join_take_pos (c : UInt8) (T : List (List UInt8)) (k : Nat) (h0 : 0 < k) (hk : k < T.length) : Lib.join (T.take (k + 1)) [c] = Lib.join (T.take k) [c] ++ [c] ++ T.getD k [] := by
  rw [take_getD T k hk]
  cases h : T.take k with
  | nil => have := congrArg List.length h; rw [List.length_take, List.length_nil] at this; omega
  | cons x r => rw [join_snoc]; simp
theorem join_take_one (c : UInt8) (T : List (List UInt8)) (hk : 0 < T.length) : Lib.join (T.take (0 + 1)) [c] = T.getD 0 [] := by
  rw [take_getD T 0 hk]
  simp [Lib.join_one]
theorem txt_txt (a b : List UInt8) : txt a ++ txt b = txt (a ++ b) := txt_append a (txt b)

theorem sign_str (c : UInt8) (W : World) (g : Nat) (hg : g = W.heap.size) : (convert 29 9 (.slice (some ⟨g, 0, none⟩) 1 1)).run Tryd.prog (W.alloc (.cells #[u8 c] 5)) = .ok (.string (txt [c])) (W.alloc (.cells #[u8 c] 5)) :=
  (Bs.lit W [c] 5 #[u8 c] g hg rfl rfl (by simp [maxLen])).str (P := Tryd.prog) 29 5 9 Tryd.underlying29 Tryd.underlying5 Tryd.underlying9

set_option maxRecDepth 100000 in
theorem delimText (c : UInt8) (w : World) : Calls Tryd.prog 16 #[u8 c] w fun e w' => e = .returned (str [c]) ∧ w' = w.alloc (.cells #[u8 c] 5) := by
  have hcv := sign_str c w w.heap.size rfl
  go_enter Tryd.func16, Tryd.ntmps16
  go_wp2_with (fail)
  go_ret
  exact ⟨rfl, rfl⟩

set_option maxHeartbeats 1000000 in
set_option maxRecDepth 100000 in
theorem refJoin (c : UInt8) (A : Option Addr) (n cp : Nat) (T : List (List UInt8)) (w : World) (hS : Ss w A n cp T) (hl : (Lib.join T [c]).length ≤ 1099511627000) :
    Calls Tryd.prog 11 #[u8 c, .slice A n cp] w fun e w' => e = .returned (str (Lib.join T [c])) ∧ Below w.heap.size w w' := by
  have hmax := hS.nmax
  have HS := Lib.hid hS
  have HL := Lib.hid hl
  clear hS hl
  go_enter Tryd.func11, Tryd.ntmps11
  go_wp2_with (fail)
  go_loopw [5, 6] (fun v i wr => ∃ k : Nat, k ≤ n ∧ i = .int .i64 k ∧ v = str (Lib.join (T.take k) [c]) ∧ Below w.heap.size w wr) (fun _ i _ => n - (intOf i).toNat)
  case atStart => exact ⟨0, Nat.zero_le _, rfl, by rw [List.take_zero]; rfl, Below.refl _ _⟩
  case round =>
    obtain ⟨k, hk, rfl, rfl, hb⟩ := hrel
    have HB := Lib.hid hb
    clear hb
    by_cases hlt : k < n
    · obtain ⟨b, o, rfl, hbl, hc⟩ := (HS.out.below HB.out).read hlt
      have hLT : k < T.length := by rw [HS.out.len]; exact hlt
      have hj := Nat.le_trans (jlen_take c T (k + 1)) HL.out
      have e1 : (k : Int) < (n : Int) := by omega
      have HBL := Lib.hid hbl
      clear hbl
      by_cases h0 : k = 0
      · subst h0
        rw [join_take_one c T hLT] at hj
        have HJ := Lib.hid (join_take_one c T hLT)
        rw [show Lib.join (T.take 0) [c] = [] from rfl]
        rw [Nat.add_zero] at hc
        generalize T.getD 0 [] = y at *
        have HLT := Lib.hid hlt
        have ht : txt [] ++ txt y = txt y := txt_txt [] y
        have hle2 : ¬ (9223372036854775807 < y.length) := by omega
        clear hlt hLT
        go_wp2_with (fail)
        exact ⟨⟨0 + 1, HLT.out, by go_num, by rw [HJ.out], HB.out⟩, by have := HLT.out; simp [intOf]; omega⟩
      · have hp : (0 : Int) < (k : Int) := by omega
        have hJ := join_take_pos c T k (by omega) hLT
        rw [hJ] at hj
        have HJ := Lib.hid hJ
        generalize T.getD k [] = y at *
        generalize Lib.join (T.take k) [c] = x at *
        simp only [List.length_append, List.length_cons, List.length_nil] at hj
        have hcv := sign_str c wr wr.heap.size rfl
        have HLT := Lib.hid hlt
        have hc2 : (wr.alloc (.cells #[.int .u8 (c.toNat : Int)] 5)).cell? ⟨b, o + k, none⟩ = some (str y) := (((Below.refl wr.heap.size wr).alloc (Nat.le_refl _) _).cell (p := ⟨b, o + k, none⟩) HBL.out).trans hc
        have HT1 := Lib.hid (txt_txt x [c])
        have HT2 := Lib.hid (txt_txt (x ++ [c]) y)
        have hle2 : ¬ (9223372036854775807 < x.length + 1) := by omega
        have hle3 : ¬ (9223372036854775807 < x.length + 1 + y.length) := by omega
        clear hlt hLT hJ h0 hc
        go_wp2_with (fail)
        exact ⟨⟨k + 1, HLT.out, by go_num, by rw [HJ.out]; exact congrArg Value.string (by rw [HT1.out, HT2.out]), HB.out.alloc HB.out.size _⟩, by have := HLT.out; simp [intOf]; omega⟩
    · obtain rfl : k = n := by omega
      rw [List.take_of_length_le (by rw [HS.out.len]; exact Nat.le_refl _)]
      go_wp2_with (fail)
      go_ret
      exact ⟨rfl, HB.out⟩
end Go.Proofs.YtkniednjchnncabDoor
