/- Layer 13: Put, walked. -/
import Derived.Test.YthblbmbefhlbjaaEntry
namespace Go.Proofs.Ythblbmbefhlbjaa
open Go.RowKit

/-- what a call gives that answers bytes and an error, and leaves what was there -/
def RetE (err : Int) (l : List UInt8) (w : World) (e : Ending) (w' : World) : Prop :=
  ∃ A c, e = .returned (.tuple #[.slice A l.length c, .int .i64 err]) ∧ Bs w' A l.length c l ∧ Below w.heap.size w w'

theorem bcell {W w1 : World} (hb : Below W.heap.size W w1) : (∀ b o, b < W.heap.size → w1.cell? ⟨b, o, none⟩ = W.cell? ⟨b, o, none⟩) ∧ (∀ b o, b < W.heap.size → w1.frozen? ⟨b, o, none⟩ = W.frozen? ⟨b, o, none⟩) :=
  ⟨fun b o h => hb.cell (p := ⟨b, o, none⟩) h, fun b o h => hb.frozen (p := ⟨b, o, none⟩) h⟩

set_option maxRecDepth 100000 in
set_option maxHeartbeats 1000000 in
theorem entryPut_no (A : Option Addr) (n c : Nat) (w : World) (hn : okLen n = false) :
    Calls Try.prog 39 #[.slice A n c] w (RetE 9 [] w) := by
  have H := Lib.hid (okLen_no hn)
  clear hn
  go_enter Try.func39, Try.ntmps39
  go_wp2_with (fail)
  refine (rightLength_no n w (by have := H.out; omega)).mono ?_
  rintro e w' ⟨rfl, rfl⟩
  go_wp2
  go_ret2
  exact ⟨none, 0, rfl, Bs.none_ _, Below.refl _ _⟩

set_option maxRecDepth 100000 in
set_option maxHeartbeats 2000000 in
theorem entryPut_yes (A : Option Addr) (n c : Nat) (l : List UInt8) (w : World) (hB : Bs w A n c l) (hn : okLen n = true) :
    Calls Try.prog 39 #[.slice A n c] w (RetE 0 (record l) w) := by
  have HN := Lib.hid hn
  have HB := Lib.hid hB
  have HL := Lib.hid hB.len
  have h1 := (okLen_yes hn).1
  have h2 := (okLen_yes hn).2
  have tok1 : True := trivial
  have tok2 : True := trivial
  have tok3 : True := trivial
  have hmk : ∀ w : World, (Instr.makeSlice 27 (.int .i64 0) (.int .i64 (8 + (n : Int)))).run Try.prog w = .ok (.slice (some ⟨w.heap.size, 0, none⟩) 0 (8 + n)) (w.alloc (.cells (Array.replicate (8 + n) (.int .u8 0)) 5)) := by
    intro w
    have := run_mk (P := Try.prog) 27 5 Try.underlying27 byteInfo 0 (8 + n) (Nat.zero_le _) (by omega) w
    rwa [show ((8 + n : Nat) : Int) = 8 + (n : Int) from by omega] at this
  clear hn hB
  go_enter Try.func39, Try.ntmps39
  go_wp2_with (fail)
  refine (rightLength_yes n w (by omega) (by omega)).mono ?_
  rintro e w' ⟨rfl, rfl⟩
  go_wp2_with (fail)
  refine (entryHighest n w (by omega)).mono ?_
  rintro e w1 ⟨p, q, r, s, hbe, rfl, hb1⟩
  have HBE := Lib.hid hbe
  have HB1 := Lib.hid hb1
  have hz1 := hb1.size
  clear hbe hb1
  go_wp2_with (fail)
  have X2 := Lib.hid (Bs.lit w1 [p, q, r, s] 106 #[.int .u8 (p.toNat : Int), .int .u8 (q.toNat : Int), .int .u8 (r.toNat : Int), .int .u8 (s.toNat : Int)] w1.heap.size rfl rfl rfl (by simp [maxLen]))
  have B2 := Lib.hid (HB1.out.alloc hz1 (.cells #[.int .u8 (p.toNat : Int), .int .u8 (q.toNat : Int), .int .u8 (r.toNat : Int), .int .u8 (s.toNat : Int)] 106))
  generalize w1.alloc (.cells #[.int .u8 (p.toNat : Int), .int .u8 (q.toNat : Int), .int .u8 (r.toNat : Int), .int .u8 (s.toNat : Int)] 106) = w2 at *
  have hz2 := B2.out.size
  refine (entrySumOf _ _ _ _ _ _ _ l w2 X2.out (HB.out.below B2.out)).mono ?_
  rintro e w' ⟨rfl, rfl⟩
  have hs := Crc.sum_lt (s := 0) ([p, q, r, s] ++ l) (by omega)
  obtain ⟨x, hx⟩ : ∃ x, x = Crc.sum 0 ([p, q, r, s] ++ l) := ⟨_, rfl⟩
  rw [← hx] at hs ⊢
  have HX := Lib.hid hx
  clear hx
  go_wp2_with (fail)
  refine (entryHighest x w2 hs).mono ?_
  rintro e w3 ⟨p', q', r', s', hbe, rfl, hb3⟩
  have HBE2 := Lib.hid hbe
  have X3 := Lib.hid (X2.out.below hb3)
  have B3 := Lib.hid (B2.out.trans (hb3.mono hz2))
  have hz3 := B3.out.size
  clear hbe hb3
  go_wp2_with (fail)
  have X4 := Lib.hid (X3.out.alloc (.cells #[.int .u8 (p'.toNat : Int), .int .u8 (q'.toNat : Int), .int .u8 (r'.toNat : Int), .int .u8 (s'.toNat : Int)] 106))
  have Y4 := Lib.hid (Bs.lit w3 [p', q', r', s'] 106 #[.int .u8 (p'.toNat : Int), .int .u8 (q'.toNat : Int), .int .u8 (r'.toNat : Int), .int .u8 (s'.toNat : Int)] w3.heap.size rfl rfl rfl (by simp [maxLen]))
  have B4 := Lib.hid (B3.out.alloc hz3 (.cells #[.int .u8 (p'.toNat : Int), .int .u8 (q'.toNat : Int), .int .u8 (r'.toNat : Int), .int .u8 (s'.toNat : Int)] 106))
  have hz34 : w3.heap.size < (w3.alloc (.cells #[.int .u8 (p'.toNat : Int), .int .u8 (q'.toNat : Int), .int .u8 (r'.toNat : Int), .int .u8 (s'.toNat : Int)] 106)).heap.size := by simp
  generalize w3.alloc (.cells #[.int .u8 (p'.toNat : Int), .int .u8 (q'.toNat : Int), .int .u8 (r'.toNat : Int), .int .u8 (s'.toNat : Int)] 106) = w4 at *
  have hz4 := B4.out.size
  refine (entrySize_yes n w4 HN.out).mono ?_
  rintro e w' ⟨rfl, rfl⟩
  go_wp2_with (first
    | (at_builtin; have _t := tok1; go_loud ((refine wpList_app rfl (.tmp 23) (.tmp 24) 27 rfl w4.heap.size 5 Try.underlying27 byteInfo _ [] rfl (Own.made 5 w4 _ (8 + n) (Nat.le_refl _) (by simp only [maxLen]; omega) (by simp)) _ 4 4 [p, q, r, s] rfl (X4.out.alloc _) (by simp) (by simp) ?_; intro v5 w5 hown5 hb5 hg5; have b5 : Below w4.heap.size w4 w5 := ((Below.refl _ _).alloc (Nat.le_refl _) _).trans hb5; clear tok1 hb5 hg5 _t)))
    | (at_builtin; have _t := tok2; go_loud ((refine wpList_app rfl (.tmp 26) (.tmp 27) 27 rfl w4.heap.size 5 Try.underlying27 byteInfo _ ([] ++ [p, q, r, s]) rfl hown5 _ 4 4 [p', q', r', s'] rfl (Y4.out.below b5) (by simp) b5.size ?_; intro v6 w6 hown6 hb6 hg6; have b6 : Below w4.heap.size w4 w6 := b5.trans hb6; clear tok2 hb6 hg6 _t)))
    | (at_builtin; have _t := tok3; go_loud ((refine wpList_app rfl (.tmp 29) (.tmp 30) 27 rfl w4.heap.size 5 Try.underlying27 byteInfo _ ([] ++ [p, q, r, s] ++ [p', q', r', s']) rfl hown6 _ n c l rfl ((HB.out.below B4.out).below b6) (by simp; omega) b6.size ?_; intro v7 w7 hown7 hb7 hg7; have b7 : Below w4.heap.size w4 w7 := b6.trans hb7; clear tok3 hb7 hg7 _t))))
  go_ret2
  have e : [] ++ [p, q, r, s] ++ [p', q', r', s'] ++ l = record l := by
    unfold record
    rw [HL.out, HBE.out, ← HX.out, HBE2.out]
    rfl
  rw [e] at hown7
  obtain ⟨A8, c8, rfl, hB8, _⟩ := hown7.bs
  exact ⟨A8, c8, rfl, hB8, B4.out.trans (b7.mono hz4)⟩

theorem entryPut (A : Option Addr) (n c : Nat) (l : List UInt8) (w : World) (hB : Bs w A n c l) :
    Calls Try.prog 39 #[.slice A n c] w (RetE (if okLen l.length then 0 else 9) (if okLen l.length then record l else []) w) := by
  rw [hB.len]
  cases h : okLen n with
  | true => exact entryPut_yes A n c l w hB h
  | false => exact entryPut_no A n c w h
end Go.Proofs.Ythblbmbefhlbjaa
