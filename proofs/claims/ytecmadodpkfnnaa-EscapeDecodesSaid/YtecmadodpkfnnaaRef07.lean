/- Layer 7: the document's letter, Clean and Encode, walked. -/
import Derived.Test.YtecmadodpkfnnaaEscClean
import Derived.RegionTactic
import Derived.BigRegion
import Derived.Deep.RegionLaw
import Derived.Laws.Concat
namespace Go.Proofs.Ytecmadodpkfnnaa
open Go.RowKit Go.MapKept

def letD (s : Sgn) (c : UInt8) : UInt8 := (letterOf s c).getD 0

set_option maxHeartbeats 4000000 in
set_option maxRecDepth 100000 in
theorem refLetter (c : UInt8) (s : Sgn) (w : World) : Calls Try.prog 31 #[u8 c, s.v] w fun e w' => e = .returned (u8 (letD s c)) ∧ Below w.heap.size w w' := by
  have HX := Lib.hid (Box5.new s w)
  have HB0 : Hid (Below w.heap.size w (w.alloc (dobj7 s))) := Lib.hid ((Below.refl _ _).alloc (Nat.le_refl _) _)
  go_enter Try.func31, Try.ntmps31
  by_cases ha : c = s.a
  · have da : (((c.toNat : Nat) : Int) == (s.a.toNat : Int)) = true := by rw [ha]; simp
    have HC : Hid (letD s c = 70) := Lib.hid (by unfold letD letterOf; rw [if_pos ha]; rfl)
    clear ha
    go_wp2_with (fail)
    go_ret
    rw [HC.out]
    exact ⟨rfl, HB0.out⟩
  have da : (((c.toNat : Nat) : Int) == (s.a.toNat : Int)) = false := by rw [beq_eq_false_iff_ne]; intro e; exact ha (UInt8.toNat_inj.1 (by omega))
  by_cases hb : c = s.b
  · have db : (((c.toNat : Nat) : Int) == (s.b.toNat : Int)) = true := by rw [hb]; simp
    have HC : Hid (letD s c = 83) := Lib.hid (by unfold letD letterOf; rw [if_neg ha]; rw [if_pos hb]; rfl)
    clear hb
    go_wp2_with (fail)
    go_ret
    rw [HC.out]
    exact ⟨rfl, HB0.out⟩
  have db : (((c.toNat : Nat) : Int) == (s.b.toNat : Int)) = false := by rw [beq_eq_false_iff_ne]; intro e; exact hb (UInt8.toNat_inj.1 (by omega))
  by_cases he : c = s.e
  · have de : (((c.toNat : Nat) : Int) == (s.e.toNat : Int)) = true := by rw [he]; simp
    have HC : Hid (letD s c = 84) := Lib.hid (by unfold letD letterOf; rw [if_neg ha]; rw [if_neg hb]; rw [if_pos he]; rfl)
    clear he
    go_wp2_with (fail)
    go_ret
    rw [HC.out]
    exact ⟨rfl, HB0.out⟩
  have de : (((c.toNat : Nat) : Int) == (s.e.toNat : Int)) = false := by rw [beq_eq_false_iff_ne]; intro e; exact he (UInt8.toNat_inj.1 (by omega))
  by_cases hc : c = s.c
  · have dc : (((c.toNat : Nat) : Int) == (s.c.toNat : Int)) = true := by rw [hc]; simp
    have HC : Hid (letD s c = 82) := Lib.hid (by unfold letD letterOf; rw [if_neg ha]; rw [if_neg hb]; rw [if_neg he]; rw [if_pos hc]; rfl)
    clear hc
    go_wp2_with (fail)
    go_ret
    rw [HC.out]
    exact ⟨rfl, HB0.out⟩
  have dc : (((c.toNat : Nat) : Int) == (s.c.toNat : Int)) = false := by rw [beq_eq_false_iff_ne]; intro e; exact hc (UInt8.toNat_inj.1 (by omega))
  by_cases hd : c = s.d
  · have dd : (((c.toNat : Nat) : Int) == (s.d.toNat : Int)) = true := by rw [hd]; simp
    have HC : Hid (letD s c = 69) := Lib.hid (by unfold letD letterOf; rw [if_neg ha]; rw [if_neg hb]; rw [if_neg he]; rw [if_neg hc]; rw [if_pos hd]; rfl)
    clear hd
    go_wp2_with (fail)
    go_ret
    rw [HC.out]
    exact ⟨rfl, HB0.out⟩
  have dd : (((c.toNat : Nat) : Int) == (s.d.toNat : Int)) = false := by rw [beq_eq_false_iff_ne]; intro e; exact hd (UInt8.toNat_inj.1 (by omega))
  have HC : Hid (letD s c = 0) := Lib.hid (by unfold letD letterOf; rw [if_neg ha]; rw [if_neg hb]; rw [if_neg he]; rw [if_neg hc]; rw [if_neg hd]; rfl)
  clear ha hb he hc hd
  go_wp2_with (fail)
  go_ret
  rw [HC.out]
  exact ⟨rfl, HB0.out⟩
theorem letD_clean {s : Sgn} {c : UInt8} (h : cleanB s c = true) : letD s c = 0 ∧ c ≠ 11 ∧ c ≠ 13 ∧ c ≠ 28 := by
  unfold cleanB at h
  simp only [Bool.not_eq_true', Bool.or_eq_false_iff, beq_eq_false_iff_ne] at h
  obtain ⟨⟨⟨⟨⟨⟨⟨h1, h2⟩, h3⟩, h4⟩, h5⟩, h6⟩, h7⟩, h8⟩ := h
  unfold letD letterOf
  simp [h1, h2, h3, h4, h5, h6, h7, h8]
theorem letD_unclean {s : Sgn} {c : UInt8} (h : cleanB s c = false) (h11 : c ≠ 11) (h13 : c ≠ 13) (h28 : c ≠ 28) : letD s c ≠ 0 := by
  unfold letD letterOf
  by_cases h1 : c = s.a
  · simp [h1]
  by_cases h2 : c = s.b
  · rw [if_neg h1, if_pos h2]; decide
  by_cases h5 : c = s.e
  · rw [if_neg h1, if_neg h2, if_pos h5]; decide
  by_cases h3 : c = s.c
  · rw [if_neg h1, if_neg h2, if_neg h5, if_pos h3]; decide
  by_cases h4 : c = s.d
  · rw [if_neg h1, if_neg h2, if_neg h5, if_neg h3, if_pos h4]; decide
  · unfold cleanB at h
    simp [h1, h2, h3, h4, h5, h11, h13, h28] at h

set_option maxHeartbeats 4000000 in
set_option maxRecDepth 100000 in
theorem refClean (x : ByteArray) (hx : x.size ≤ 1000000) (s : Sgn) (w : World) : Calls Try.prog 13 #[.string x, s.v] w fun e w' => e = .returned (.bool (cleanD s x.data.toList)) ∧ Below w.heap.size w w' := by
  have HX := Lib.hid (Box5.new s w)
  have HB0 : Hid (Below w.heap.size w (w.alloc (dobj7 s))) := Lib.hid ((Below.refl _ _).alloc (Nat.le_refl _) _)
  go_enter Try.func13, Try.ntmps13
  go_wp2_with (fail)
  generalize (w.alloc (.cells #[u8 s.a, u8 s.b, u8 s.c, u8 s.d, u8 s.e] 23)) = w0 at *
  go_loopw [4, 5] (fun v i wr => ∃ k : Nat, k ≤ x.size ∧ i = .int .i64 k ∧ v = .bool false ∧ cleanD s (x.data.toList.take k) = true ∧ Box5 s w.heap.size wr ∧ Below w.heap.size w wr) (fun _ i _ => x.size - (intOf i).toNat)
  case atStart => exact ⟨0, Nat.zero_le _, rfl, rfl, rfl, HX.out, HB0.out⟩
  case round =>
    clear HX HB0
    obtain ⟨k, hk, rfl, rfl, hcl, hx, hb⟩ := hrel
    have HK := Lib.hid hcl
    have HX := Lib.hid hx
    have HB := Lib.hid hb
    clear hcl hx hb
    obtain ⟨x0, x1, x2, x3, x4⟩ := HX.out.cells
    by_cases hlt : k < x.size
    · skip
      have e1 : (k : Int) < (x.size : Int) := by omega
      have HCN : cleanB s x[k] = false → Hid (cleanD s x.data.toList = false) := fun h => Lib.hid (cleanD_not hlt h)
      have HCY : cleanB s x[k] = true → Hid (cleanD s (x.data.toList.take (k + 1)) = true) := fun h => Lib.hid (by rw [take_snocB x k hlt]; unfold cleanD at HK ⊢; rw [List.all_append, HK.out]; simp [h])
      have L : ∀ (k : Nat) (x : Value), (#[Value.int .u8 (s.a.toNat : Int), Value.int .u8 (s.b.toNat : Int), Value.int .u8 (s.c.toNat : Int), Value.int .u8 (s.d.toNat : Int), Value.int .u8 (s.e.toNat : Int)] : Array Value)[k]? = some x → ∀ n : Later wr, n.u.cell? ⟨w.heap.size, k, none⟩ = some x := fun k x hx n => by
        rw [cell_of_row _ _ _ _ _ _ (HX.out.below n.h)]; exact hx
      have L0 := L 0 _ rfl
      have L1 := L 1 _ rfl
      have L2 := L 2 _ rfl
      have L3 := L 3 _ rfl
      have L4 := L 4 _ rfl
      clear L x0 x1 x2 x3 x4
      by_cases h11 : x[k] = 11
      · have d11 : (((x[k].toNat : Nat) : Int) == 11) = true := by rw [h11]; rfl
        have HC := HCN (by simp [cleanB, h11])
        clear h11 HCN HCY
        by_cases hz : letD s x[k] = 0
        · have d0 : ((((letD s x[k]).toNat : Nat) : Int) != 0) = false := by rw [hz]; rfl
          clear hz
          go_wp2_with (fail)
          refine region_later (by kernel_rfl) (by kernel_rfl) ?_
          repeat (go_big_quiet_step ((first | (go_at_call 31; exact Calls.later (refLetter _ s _)))))
          refine wpQuiet_nil ?_
          intro nq
          have HXq := Lib.hid (HX.out.below nq.h)
          have HBq : Hid (Below w.heap.size w nq.u) := Lib.hid (HB.out.trans (nq.h.mono HB.out.size))
          clear L0 L1 L2 L3 L4
          generalize nq.u = w2 at *
          clear nq
          go_wp2_with (fail)
          go_ret
          rw [HC.out]
          exact ⟨rfl, HBq.out⟩
        · have d0 : ((((letD s x[k]).toNat : Nat) : Int) != 0) = true := by rw [bne_iff_ne]; intro e; exact hz (UInt8.toNat_inj.1 (by have : (0 : UInt8).toNat = 0 := rfl; omega))
          clear hz
          go_wp2_with (fail)
          refine region_later (by kernel_rfl) (by kernel_rfl) ?_
          repeat (go_big_quiet_step ((first | (go_at_call 31; exact Calls.later (refLetter _ s _)))))
          refine wpQuiet_nil ?_
          intro nq
          have HXq := Lib.hid (HX.out.below nq.h)
          have HBq : Hid (Below w.heap.size w nq.u) := Lib.hid (HB.out.trans (nq.h.mono HB.out.size))
          clear L0 L1 L2 L3 L4
          generalize nq.u = w2 at *
          clear nq
          go_wp2_with (fail)
          go_ret
          rw [HC.out]
          exact ⟨rfl, HBq.out⟩
      have d11 : (((x[k].toNat : Nat) : Int) == 11) = false := by rw [beq_eq_false_iff_ne]; intro e; exact h11 (UInt8.toNat_inj.1 (by have : (11 : UInt8).toNat = 11 := rfl; omega))
      by_cases hz : letD s x[k] = 0
      case neg =>
        have d0 : ((((letD s x[k]).toNat : Nat) : Int) != 0) = true := by rw [bne_iff_ne]; intro e; exact hz (UInt8.toNat_inj.1 (by have : (0 : UInt8).toNat = 0 := rfl; omega))
        have HC : Hid (cleanD s x.data.toList = false) := HCN (by
          cases hcb : cleanB s x[k]
          · rfl
          · exact absurd (letD_clean hcb).1 hz)
        clear hz h11 HCN HCY
        go_wp2_with (fail)
        refine region_later (by kernel_rfl) (by kernel_rfl) ?_
        repeat (go_big_quiet_step ((first | (go_at_call 31; exact Calls.later (refLetter _ s _)))))
        refine wpQuiet_nil ?_
        intro nq
        have HXq := Lib.hid (HX.out.below nq.h)
        have HBq : Hid (Below w.heap.size w nq.u) := Lib.hid (HB.out.trans (nq.h.mono HB.out.size))
        clear L0 L1 L2 L3 L4
        generalize nq.u = w2 at *
        clear nq
        go_wp2_with (fail)
        go_ret
        rw [HC.out]
        exact ⟨rfl, HBq.out⟩
      have d0 : ((((letD s x[k]).toNat : Nat) : Int) != 0) = false := by rw [hz]; rfl
      by_cases h13 : x[k] = 13
      · have d13 : (((x[k].toNat : Nat) : Int) == 13) = true := by rw [h13]; rfl
        have HC := HCN (by simp [cleanB, h13])
        clear hz h13 h11 HCN HCY
        go_wp2_with (fail)
        refine region_later (by kernel_rfl) (by kernel_rfl) ?_
        repeat (go_big_quiet_step ((first | (go_at_call 31; exact Calls.later (refLetter _ s _)))))
        refine wpQuiet_nil ?_
        intro nq
        have HXq := Lib.hid (HX.out.below nq.h)
        have HBq : Hid (Below w.heap.size w nq.u) := Lib.hid (HB.out.trans (nq.h.mono HB.out.size))
        clear L0 L1 L2 L3 L4
        generalize nq.u = w2 at *
        clear nq
        go_wp2_with (fail)
        go_ret
        rw [HC.out]
        exact ⟨rfl, HBq.out⟩
      have d13 : (((x[k].toNat : Nat) : Int) == 13) = false := by rw [beq_eq_false_iff_ne]; intro e; exact h13 (UInt8.toNat_inj.1 (by have : (13 : UInt8).toNat = 13 := rfl; omega))
      by_cases h28 : x[k] = 28
      · have d28 : (((x[k].toNat : Nat) : Int) == 28) = true := by rw [h28]; rfl
        have HC := HCN (by simp [cleanB, h28])
        clear hz h28 h13 h11 HCN HCY
        go_wp2_with (fail)
        refine region_later (by kernel_rfl) (by kernel_rfl) ?_
        repeat (go_big_quiet_step ((first | (go_at_call 31; exact Calls.later (refLetter _ s _)))))
        refine wpQuiet_nil ?_
        intro nq
        have HXq := Lib.hid (HX.out.below nq.h)
        have HBq : Hid (Below w.heap.size w nq.u) := Lib.hid (HB.out.trans (nq.h.mono HB.out.size))
        clear L0 L1 L2 L3 L4
        generalize nq.u = w2 at *
        clear nq
        go_wp2_with (fail)
        go_ret
        rw [HC.out]
        exact ⟨rfl, HBq.out⟩
      have d28 : (((x[k].toNat : Nat) : Int) == 28) = false := by rw [beq_eq_false_iff_ne]; intro e; exact h28 (UInt8.toNat_inj.1 (by have : (28 : UInt8).toNat = 28 := rfl; omega))
      have HC := HCY (by
        cases hcb : cleanB s x[k]
        · exact absurd hz (letD_unclean hcb h11 h13 h28)
        · rfl)
      clear hz h28 h13 h11 HCN HCY
      go_wp2_with (fail)
      refine region_later (by kernel_rfl) (by kernel_rfl) ?_
      repeat (go_big_quiet_step ((first | (go_at_call 31; exact Calls.later (refLetter _ s _)))))
      refine wpQuiet_nil ?_
      intro nq
      have HXq := Lib.hid (HX.out.below nq.h)
      have HBq : Hid (Below w.heap.size w nq.u) := Lib.hid (HB.out.trans (nq.h.mono HB.out.size))
      clear L0 L1 L2 L3 L4
      generalize nq.u = w2 at *
      clear nq
      go_wp2_with (fail)
      exact ⟨⟨k + 1, by omega, by go_num, rfl, HC.out, HXq.out, HBq.out⟩, by simp [intOf]; omega⟩
    · obtain rfl : k = x.size := by omega
      have HTK : Hid (x.data.toList.take x.size = x.data.toList) := Lib.hid (List.take_of_length_le (by simp))
      rw [HTK.out] at HK
      clear hlt
      go_wp2_with (fail)
      go_ret
      rw [HK.out]
      exact ⟨rfl, HB.out⟩
theorem encD_step (s : Sgn) (x : ByteArray) (k : Nat) (h : k < x.size) : encD s (x.data.toList.take (k + 1)) = encD s (x.data.toList.take k) ++ escOf s x[k] := by rw [take_snocB x k h, encD_snoc]
theorem escOf_letter {s : Sgn} (hg : s.good = true) {c : UInt8} (h : letD s c ≠ 0) : escOf s c = [s.d, letD s c, s.d] := by
  unfold letD at h ⊢
  cases hl : letterOf s c with
  | none => rw [hl] at h; exact absurd rfl h
  | some k =>
    have hm := letter_mem hl
    obtain ⟨⟨s0, s1, s2, s3, s4⟩, _⟩ := (Sgn.good_iff s).1 hg
    have hs : isSign c.toNat = true := by
      simp only [sgB, List.mem_cons, Prod.mk.injEq, List.not_mem_nil, or_false] at hm
      rcases hm with ⟨_, rfl⟩ | ⟨_, rfl⟩ | ⟨_, rfl⟩ | ⟨_, rfl⟩ | ⟨_, rfl⟩ <;> assumption
    obtain ⟨n1, n2, n3⟩ := sign_ne hs
    unfold escOf escGet
    rw [if_neg (by simp [n1, n2, n3]), hl]
    rfl
theorem escOf_none {s : Sgn} {c : UInt8} (h : letD s c = 0) (h1 : c ≠ 11) (h2 : c ≠ 13) (h3 : c ≠ 28) : escOf s c = [c] := by
  cases hb : cleanB s c
  · exact absurd h (letD_unclean hb h1 h2 h3)
  · exact escOf_clean s c hb
theorem txt_app (a b : List UInt8) : txt a ++ txt b = txt (a ++ b) := txt_add a b
theorem txt_ext (a : List UInt8) (x : ByteArray) (k : Nat) (h : k < x.size) : txt a ++ x.extract k (k + 1) = txt (a ++ [x[k]]) := by
  apply ByteArray.ext
  apply Array.toList_inj.1
  simp [ByteArray.data_append]
  rw [List.drop_eq_getElem_cons (by simpa using h)]
  rfl

set_option maxHeartbeats 4000000 in
set_option maxRecDepth 100000 in
theorem refEncode (x : ByteArray) (hx : x.size ≤ 1000000) (s : Sgn) (hg : s.good = true) (w : World) : Calls Try.prog 15 #[.string x, s.v] w fun e w' => e = .returned (strV (encD s x.data.toList)) ∧ Below w.heap.size w w' := by
  have HX := Lib.hid (Box5.new s w)
  have HG := Lib.hid hg
  clear hg
  have hcv := (Bs.lit (w.alloc (.cells #[u8 s.a, u8 s.b, u8 s.c, u8 s.d, u8 s.e] 23)) [s.d] 5 #[u8 s.d] (w.heap.size + 1) (by simp) rfl rfl (by simp [maxLen])).str (P := Try.prog) 35 5 9 Try.underlying35 Try.underlying5 Try.underlying9
  simp only [List.length_cons, List.length_nil] at hcv
  have HB0 : Hid (Below w.heap.size w ((w.alloc (dobj7 s)).alloc (.cells #[u8 s.d] 5))) := Lib.hid (((Below.refl _ _).alloc (Nat.le_refl _) _).alloc (by simp) _)
  have HX1 : Hid (Box5 s w.heap.size ((w.alloc (dobj7 s)).alloc (.cells #[u8 s.d] 5))) := Lib.hid (HX.out.below ((Below.refl _ _).alloc (Nat.le_refl _) _))
  go_enter Try.func15, Try.ntmps15
  go_wp2_with (fail)
  clear hcv
  go_loopw [6, 7] (fun v i wr => ∃ k : Nat, k ≤ x.size ∧ i = .int .i64 k ∧ v = strV (encD s (x.data.toList.take k)) ∧ Box5 s w.heap.size wr ∧ Below w.heap.size w wr) (fun _ i _ => x.size - (intOf i).toNat)
  case atStart => exact ⟨0, Nat.zero_le _, rfl, rfl, HX1.out, HB0.out⟩
  case round =>
    clear HX HB0 HX1
    obtain ⟨k, hk, rfl, rfl, hx, hb⟩ := hrel
    have HX := Lib.hid hx
    have HB := Lib.hid hb
    clear hx hb
    obtain ⟨x0, x1, x2, x3, x4⟩ := HX.out.cells
    have HLN : Hid ((encD s (x.data.toList.take k)).length ≤ 5000000) := Lib.hid (by
      have h1 := (encD_len s (x.data.toList.take k)).2
      have h2 : (x.data.toList.take k).length ≤ k := List.length_take_le _ _
      omega)
    by_cases hlt : k < x.size
    · skip
      have e1 : (k : Int) < (x.size : Int) := by omega
      have HST := Lib.hid (encD_step s x k hlt)
      have L : ∀ (k : Nat) (x : Value), (#[Value.int .u8 (s.a.toNat : Int), Value.int .u8 (s.b.toNat : Int), Value.int .u8 (s.c.toNat : Int), Value.int .u8 (s.d.toNat : Int), Value.int .u8 (s.e.toNat : Int)] : Array Value)[k]? = some x → ∀ n : Later wr, n.u.cell? ⟨w.heap.size, k, none⟩ = some x := fun k x hx n => by
        rw [cell_of_row _ _ _ _ _ _ (HX.out.below n.h)]; exact hx
      have L0 := L 0 _ rfl
      have L1 := L 1 _ rfl
      have L2 := L 2 _ rfl
      have L3 := L 3 _ rfl
      have L4 := L 4 _ rfl
      clear L x0 x1 x2 x3 x4
      generalize encD s (x.data.toList.take k) = ea at *
      go_wp2_with (fail)
      refine region_later (by kernel_rfl) (by kernel_rfl) ?_
      repeat (go_big_quiet_step ((first | (go_at_call 31; exact Calls.later (refLetter _ s _)))))
      refine wpQuiet_nil ?_
      intro nq
      have HXq := Lib.hid (HX.out.below nq.h)
      have HBq : Hid (Below w.heap.size w nq.u) := Lib.hid (HB.out.trans (nq.h.mono HB.out.size))
      clear L0 L1 L2 L3 L4
      generalize nq.u = w2 at *
      clear nq
      have hl0 : ¬ (9223372036854775807 < (ea.length : Int) + 1) := by have := HLN.out; omega
      obtain ⟨e1, he1⟩ : ∃ e1, e1 = ea ++ [s.d] := ⟨_, rfl⟩
      have t1 : txt ea ++ txt [s.d] = txt e1 := by rw [txt_app, he1]
      have HE1 : Hid (e1.length = ea.length + 1) := Lib.hid (by rw [he1]; simp)
      by_cases hz : letD s x[k] = 0
      case neg =>
        have d0 : ((((letD s x[k]).toNat : Nat) : Int) != 0) = true := by rw [bne_iff_ne]; intro e; exact hz (UInt8.toNat_inj.1 (by have : (0 : UInt8).toNat = 0 := rfl; omega))
        have HEO := Lib.hid (escOf_letter HG.out hz)
        obtain ⟨z, hzz⟩ : ∃ z, z = letD s x[k] := ⟨_, rfl⟩
        rw [← hzz] at HEO d0 ⊢
        have hcv := (Bs.lit w2 [z] 5 #[.int .u8 (z.toNat : Int)] w2.heap.size rfl rfl rfl (by simp [maxLen])).str (P := Try.prog) 35 5 9 Try.underlying35 Try.underlying5 Try.underlying9
        simp only [List.length_cons, List.length_nil] at hcv
        have hl1 : ¬ (9223372036854775807 < (e1.length : Int) + 1) := by have := HLN.out; have := HE1.out; omega
        obtain ⟨e2, he2⟩ : ∃ e2, e2 = e1 ++ [z] := ⟨_, rfl⟩
        have t2 : txt e1 ++ txt [z] = txt e2 := by rw [txt_app, he2]
        have hl2 : ¬ (9223372036854775807 < (e2.length : Int) + 1) := by rw [he2, List.length_append, List.length_singleton]; have := HLN.out; have := HE1.out; omega
        obtain ⟨e3, he3⟩ : ∃ e3, e3 = e2 ++ [s.d] := ⟨_, rfl⟩
        have t3 : txt e2 ++ txt [s.d] = txt e3 := by rw [txt_app, he3]
        have HE3 : Hid (encD s (x.data.toList.take (k + 1)) = e3) := Lib.hid (by rw [HST.out, HEO.out, he3, he2, he1]; simp)
        clear hz hzz he1 he2 he3
        go_wp2_with (fail)
        exact ⟨⟨k + 1, by omega, by go_num, by rw [HE3.out], HXq.out.below ((Below.refl _ _).alloc (Nat.le_refl _) _), HBq.out.alloc HBq.out.size _⟩, by simp [intOf]; omega⟩
      have d0 : ((((letD s x[k]).toNat : Nat) : Int) != 0) = false := by rw [hz]; rfl
      by_cases h11 : x[k] = 11
      · have d11 : (((x[k].toNat : Nat) : Int) == 11) = true := by rw [h11]; rfl
        have HEO : Hid (escOf s x[k] = [s.d, 88, 48, 66, s.d]) := Lib.hid (by rw [h11]; rfl)
        have hl1 : ¬ (9223372036854775807 < (e1.length : Int) + 3) := by have := HLN.out; have := HE1.out; omega
        obtain ⟨e2, he2⟩ : ∃ e2, e2 = e1 ++ [88, 48, 66] := ⟨_, rfl⟩
        have t2 : txt e1 ++ ⟨#[88, 48, 66]⟩ = txt e2 := by rw [he2]; exact txt_app e1 [88, 48, 66]
        have hl2 : ¬ (9223372036854775807 < (e2.length : Int) + 1) := by rw [he2, List.length_append]; have := HLN.out; have := HE1.out; simp only [List.length_cons, List.length_nil]; omega
        obtain ⟨e3, he3⟩ : ∃ e3, e3 = e2 ++ [s.d] := ⟨_, rfl⟩
        have t3 : txt e2 ++ txt [s.d] = txt e3 := by rw [txt_app, he3]
        have HE3 : Hid (encD s (x.data.toList.take (k + 1)) = e3) := Lib.hid (by rw [HST.out, HEO.out, he3, he2, he1]; simp)
        clear hz h11 he1 he2 he3
        go_wp2_with (fail)
        exact ⟨⟨k + 1, by omega, by go_num, by rw [HE3.out], HXq.out, HBq.out⟩, by simp [intOf]; omega⟩
      have d11 : (((x[k].toNat : Nat) : Int) == 11) = false := by rw [beq_eq_false_iff_ne]; intro e; exact h11 (UInt8.toNat_inj.1 (by have : (11 : UInt8).toNat = 11 := rfl; omega))
      by_cases h13 : x[k] = 13
      · have d13 : (((x[k].toNat : Nat) : Int) == 13) = true := by rw [h13]; rfl
        have HEO : Hid (escOf s x[k] = [s.d, 88, 48, 68, s.d]) := Lib.hid (by rw [h13]; rfl)
        have hl1 : ¬ (9223372036854775807 < (e1.length : Int) + 3) := by have := HLN.out; have := HE1.out; omega
        obtain ⟨e2, he2⟩ : ∃ e2, e2 = e1 ++ [88, 48, 68] := ⟨_, rfl⟩
        have t2 : txt e1 ++ ⟨#[88, 48, 68]⟩ = txt e2 := by rw [he2]; exact txt_app e1 [88, 48, 68]
        have hl2 : ¬ (9223372036854775807 < (e2.length : Int) + 1) := by rw [he2, List.length_append]; have := HLN.out; have := HE1.out; simp only [List.length_cons, List.length_nil]; omega
        obtain ⟨e3, he3⟩ : ∃ e3, e3 = e2 ++ [s.d] := ⟨_, rfl⟩
        have t3 : txt e2 ++ txt [s.d] = txt e3 := by rw [txt_app, he3]
        have HE3 : Hid (encD s (x.data.toList.take (k + 1)) = e3) := Lib.hid (by rw [HST.out, HEO.out, he3, he2, he1]; simp)
        clear hz h13 he1 he2 he3
        go_wp2_with (fail)
        exact ⟨⟨k + 1, by omega, by go_num, by rw [HE3.out], HXq.out, HBq.out⟩, by simp [intOf]; omega⟩
      have d13 : (((x[k].toNat : Nat) : Int) == 13) = false := by rw [beq_eq_false_iff_ne]; intro e; exact h13 (UInt8.toNat_inj.1 (by have : (13 : UInt8).toNat = 13 := rfl; omega))
      by_cases h28 : x[k] = 28
      · have d28 : (((x[k].toNat : Nat) : Int) == 28) = true := by rw [h28]; rfl
        have HEO : Hid (escOf s x[k] = [s.d, 88, 49, 67, s.d]) := Lib.hid (by rw [h28]; rfl)
        have hl1 : ¬ (9223372036854775807 < (e1.length : Int) + 3) := by have := HLN.out; have := HE1.out; omega
        obtain ⟨e2, he2⟩ : ∃ e2, e2 = e1 ++ [88, 49, 67] := ⟨_, rfl⟩
        have t2 : txt e1 ++ ⟨#[88, 49, 67]⟩ = txt e2 := by rw [he2]; exact txt_app e1 [88, 49, 67]
        have hl2 : ¬ (9223372036854775807 < (e2.length : Int) + 1) := by rw [he2, List.length_append]; have := HLN.out; have := HE1.out; simp only [List.length_cons, List.length_nil]; omega
        obtain ⟨e3, he3⟩ : ∃ e3, e3 = e2 ++ [s.d] := ⟨_, rfl⟩
        have t3 : txt e2 ++ txt [s.d] = txt e3 := by rw [txt_app, he3]
        have HE3 : Hid (encD s (x.data.toList.take (k + 1)) = e3) := Lib.hid (by rw [HST.out, HEO.out, he3, he2, he1]; simp)
        clear hz h28 he1 he2 he3
        go_wp2_with (fail)
        exact ⟨⟨k + 1, by omega, by go_num, by rw [HE3.out], HXq.out, HBq.out⟩, by simp [intOf]; omega⟩
      have d28 : (((x[k].toNat : Nat) : Int) == 28) = false := by rw [beq_eq_false_iff_ne]; intro e; exact h28 (UInt8.toNat_inj.1 (by have : (28 : UInt8).toNat = 28 := rfl; omega))
      have HEO := Lib.hid (escOf_none hz h11 h13 h28)
      obtain ⟨e3, he3⟩ : ∃ e3, e3 = ea ++ [x[k]] := ⟨_, rfl⟩
      have t3 : txt ea ++ x.extract k (k + 1) = txt e3 := by rw [txt_ext ea x k hlt, he3]
      have hsz : (x.extract k (k + 1)).size = 1 := by rw [ByteArray.size_extract]; omega
      have HE3 : Hid (encD s (x.data.toList.take (k + 1)) = e3) := Lib.hid (by rw [HST.out, HEO.out, he3])
      clear hz h11 h13 h28 he1 he3 t1
      go_wp2_with (fail)
      exact ⟨⟨k + 1, by omega, by go_num, by rw [HE3.out], HXq.out, HBq.out⟩, by simp [intOf]; omega⟩
    · obtain rfl : k = x.size := by omega
      have HTK : Hid (x.data.toList.take x.size = x.data.toList) := Lib.hid (List.take_of_length_le (by simp))
      rw [HTK.out]
      clear hlt
      go_wp2_with (fail)
      go_ret
      exact ⟨rfl, HB.out⟩
end Go.Proofs.Ytecmadodpkfnnaa
