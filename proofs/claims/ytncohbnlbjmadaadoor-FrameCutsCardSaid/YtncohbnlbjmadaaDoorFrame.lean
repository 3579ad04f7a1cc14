/- Layer 4: what frame's functions answer, over this seat's translation. -/
import Derived.Test.YtncohbnlbjmadaaDoorBase
namespace Go.Proofs.YtncohbnlbjmadaaDoor
open Go.RowKit

/-- the signs' cells -/
def Signs (w : World) : Prop :=
  w.cell? ⟨0, 0, none⟩ = some (.int .u8 11) ∧ w.cell? ⟨0, 1, none⟩ = some (.int .u8 28) ∧ w.cell? ⟨0, 2, none⟩ = some (.int .u8 13)
theorem Signs.below {w w' : World} (h : Signs w) (hb : Below w.heap.size w w') : Signs w' :=
  ⟨(hb.cell (World.block_lt_of_cell? w _ h.1)).trans h.1, (hb.cell (World.block_lt_of_cell? w _ h.2.1)).trans h.2.1, (hb.cell (World.block_lt_of_cell? w _ h.2.2)).trans h.2.2⟩
theorem Signs.alloc {w : World} (h : Signs w) (o : Obj) : Signs (w.alloc o) := h.below ((Below.refl _ _).alloc (Nat.le_refl _) o)

theorem Signs.drewN {w : World} (h : Signs w) (k : Nat) : Signs (w.drewN k) := h.below (drawN_below (Below.refl _ _) k)

/-- bytes that may be in a frame -/
def Good (l : List UInt8) : Prop := 11 ∉ l ∧ ∀ i, i < l.length → l[i]? = some 28 → ∃ d, l[i + 1]? = some d ∧ d ≠ 13
/-- the place i ends them -/
def badAt (l : List UInt8) (i : Nat) : Bool := l[i]? == some 28 && (decide (i + 1 = l.length) || l[i + 1]? == some 13)
def good (l : List UInt8) : Bool := !l.contains 11 && (List.range l.length).all fun i => !badAt l i

theorem u8_ne {x : UInt8} {k : Int} (y : UInt8) (hk : k = (y.toNat : Int)) (h : x ≠ y) : ((x.toNat : Int) == k) = false := by
  rw [beq_eq_false_iff_ne]
  intro e
  apply h
  apply UInt8.toNat_inj.1
  omega

theorem u8_bne {x : UInt8} {k : Int} (y : UInt8) (hk : k = (y.toNat : Int)) (h : x ≠ y) : ((x.toNat : Int) != k) = true := by
  rw [bne, u8_ne y hk h]
  rfl

theorem good_no_start {l : List UInt8} (h : good l = true) : 11 ∉ l := by
  unfold good at h
  simp at h
  exact h.1
theorem good_at {l : List UInt8} (h : good l = true) {i : Nat} (hi : i < l.length) : badAt l i = false := by
  unfold good at h
  simp only [Bool.and_eq_true, List.all_eq_true, Bool.not_eq_true'] at h
  exact h.2 i (List.mem_range.2 hi)
theorem good_of {l : List UInt8} (h1 : 11 ∉ l) (h2 : ∀ i, i < l.length → badAt l i = false) : good l = true := by
  unfold good
  simp only [Bool.and_eq_true, List.all_eq_true, Bool.not_eq_true']
  exact ⟨by simpa using h1, fun i hi => h2 i (List.mem_range.1 hi)⟩
theorem not_good_start {l : List UInt8} (h : 11 ∈ l) : good l = false := by
  unfold good
  simp [h]
theorem not_good_at {l : List UInt8} {i : Nat} (hi : i < l.length) (h : badAt l i = true) : good l = false := by
  cases hg : good l with
  | false => rfl
  | true => rw [good_at hg hi] at h; cases h

theorem indexByte_neg {l : List UInt8} {c : UInt8} (h : c ∉ l) : Lib.indexByte l c = -1 := by
  induction l with
  | nil => rfl
  | cons b l ih =>
    simp only [List.mem_cons, not_or] at h
    unfold Lib.indexByte
    rw [if_neg (by simpa using fun e => h.1 e.symm), ih h.2]
    rfl
theorem indexByte_pos {l : List UInt8} {c : UInt8} (h : c ∈ l) : 0 ≤ Lib.indexByte l c := by
  induction l with
  | nil => cases h
  | cons b l ih =>
    unfold Lib.indexByte
    by_cases e : b = c
    · rw [if_pos (by simpa using e)]; omega
    · rw [if_neg (by simpa using e)]
      have := ih ((List.mem_cons.1 h).resolve_left fun h' => e h'.symm)
      rw [if_neg (by simp; omega)]
      omega

set_option maxRecDepth 100000 in
/-- bytes.IndexByte -/
theorem indexByte_any (A : Option Addr) (n c : Nat) (l : List UInt8) (cv : UInt8) (k : Int) (hk : k = (cv.toNat : Int)) (w : World) (hB : Bs w A n c l) :
    Calls Tryd.prog 23 #[.slice A n c, .int .u8 k] w fun e w' => e = .returned (.int .i64 (Lib.indexByte l cv)) ∧ w = w' := by
  have hcv : k.toNat.toUInt8 = cv := by subst hk; simp
  have hrun : (Extern.BytealgIndexByte.indexByte #[.slice A n c, .int .u8 k]).run Tryd.prog w = .ok (.int .i64 (Lib.indexByte l cv)) w := by
    rcases Nat.eq_zero_or_pos n with h0 | h0
    · subst h0
      obtain rfl := hB.empty
      rcases A with _ | a
      · have h0 : ∀ (kk : Int) (cc : Nat) (w : World), (Extern.BytealgIndexByte.indexByte #[.slice none 0 cc, .int .u8 kk]).run Tryd.prog w = .ok (.int .i64 (-1)) w := fun _ _ _ => by kernel_rfl
        exact h0 k c w
      · have := Lib.run_indexByteAt (P := Tryd.prog) w a 0 c [] rfl (fun i hi => by omega) k
        rw [this]; rfl
    · obtain ⟨b, o, rfl, hc⟩ := hB.cells h0
      have := Lib.run_indexByteAt (P := Tryd.prog) w ⟨b, o, none⟩ n c (nums l) (by rw [nums_length, hB.1]) (fun i hi => by rw [Addr.add_lit]; exact hc i hi) k
      rw [this, bytesOf_nums, hcv]
  have Hrun := Lib.hid hrun
  clear hrun hcv hk
  go_enter Tryd.func23, Tryd.ntmps23
  go_wp2
  rw [run_callFunc_extern Tryd.func25 (by kernel_rfl) (by kernel_rfl) (by kernel_rfl) (e := Extern.BytealgIndexByte.indexByte) (by kernel_rfl), Hrun.out]
  simp only [Result.andThen]
  rw [Oper.upon_value]
  go_wp2
  go_ret
  exact ⟨rfl, rfl⟩

set_option maxRecDepth 100000 in
/-- frame.Good, the answer true -/
theorem frameGood_yes (A : Option Addr) (n c : Nat) (l : List UInt8) (w : World) (hS : Signs w) (hB : Bs w A n c l) (hg : good l = true) :
    Calls Tryd.prog 19 #[.slice A n c] w fun e w' => e = .returned (.bool true) ∧ ∃ q, w' = w.drewN q := by
  obtain ⟨s0, s1, s2⟩ := hS
  have hn := hB.nmax
  have hib := indexByte_any A n c l 11 11 rfl w hB
  rw [indexByte_neg (good_no_start hg)] at hib
  have Hib := Lib.hid hib; clear hib
  have HG := Lib.hid hg; clear hg
  have HB := Lib.hid hB; clear hB
  go_enter Tryd.func19, Tryd.ntmps19
  go_wp2_with (go_at_call 23; refine (Hib.out).mono ?_; rintro e w' ⟨rfl, rfl⟩)
  go_loopw [12, 3, 4] (fun i x y wr => ∃ k : Nat, k ≤ n ∧ i = .int .i64 k ∧ ∃ q, wr = w.drewN q) (fun i _ _ _ => n - (intOf i).toNat)
  case atStart => exact ⟨0, Nat.zero_le _, rfl, 0, rfl⟩
  case round =>
    obtain ⟨k, hk, rfl, q, rfl⟩ := hrel
    by_cases hlt : k < n
    · obtain ⟨b, o, rfl, hb, hc⟩ := HB.out.at_ (by omega)
      have hkl : k < l.length := by have := HB.out.len; omega
      have hbad := good_at HG.out hkl
      have hcell := hc k _ (List.getElem?_eq_getElem hkl)
      unfold badAt at hbad
      rw [List.getElem?_eq_getElem hkl] at hbad
      generalize l[k] = x at hcell hbad
      by_cases h28 : x = 28
      · subst h28
        have hkn : k + 1 ≠ l.length := by intro e; simp [e] at hbad
        have hk1 : k + 1 < l.length := by omega
        have hcell1 := hc (k + 1) _ (List.getElem?_eq_getElem hk1)
        rw [List.getElem?_eq_getElem hk1] at hbad
        generalize l[k + 1] = y at hcell1 hbad
        have hne := u8_ne (x := y) (k := 13) 13 rfl (by intro e; subst e; simp at hbad)
        have hk2 : ((k : Int) + 1 == n) = false := by rw [beq_eq_false_iff_ne]; have := HB.out.len; omega
        have hk3 : k + 1 < n := by have := HB.out.len; omega
        have hw1 : IntKind.i64.wrap ((k : Int) + 1) = (k : Int) + 1 := IntWalk.i64_in _ (by omega)
        have hw2 : ((k : Int) + 1).toNat = k + 1 := by omega
        have hw3 : (0 : Int) ≤ (k : Int) + 1 := by omega
        have hw4 : (k : Int) + 1 < (n : Int) := by omega
        clear hbad hkn hc
        go_wp2
        go_quiet (fail)
        clear hw1 hw2 hw3 hw4
        go_wp2
        go_roundw
        case rel => exact ⟨k + 1, by omega, by go_num, _, rfl⟩
        case measure => simp [intOf]; omega
      · have hx' := u8_ne (x := x) (k := 28) 28 rfl h28
        clear hbad hc
        go_wp2
        go_quiet (fail)
        go_wp2
        go_roundw
        case rel => exact ⟨k + 1, by omega, by go_num, _, rfl⟩
        case measure => simp [intOf]; omega
    · go_wp2
      go_ret
      exact ⟨rfl, _, rfl⟩

set_option maxRecDepth 100000 in
/-- frame.Good, the answer false -/
theorem frameGood_no (A : Option Addr) (n c : Nat) (l : List UInt8) (w : World) (hS : Signs w) (hB : Bs w A n c l) (hg : good l = false) :
    Calls Tryd.prog 19 #[.slice A n c] w fun e w' => e = .returned (.bool false) ∧ ∃ q, w' = w.drewN q := by
  obtain ⟨s0, s1, s2⟩ := hS
  have hn := hB.nmax
  have hib := indexByte_any A n c l 11 11 rfl w hB
  by_cases h11 : 11 ∈ l
  · have hp := indexByte_pos h11
    generalize Lib.indexByte l 11 = r at hib hp
    have Hib := Lib.hid hib; clear hib
    go_enter Tryd.func19, Tryd.ntmps19
    go_wp2_with (go_at_call 23; refine (Hib.out).mono ?_; rintro e w' ⟨rfl, rfl⟩)
    go_ret
    exact ⟨rfl, 0, rfl⟩
  · rw [indexByte_neg h11] at hib
    have Hib := Lib.hid hib; clear hib
    have hex : ∃ i, i < l.length ∧ badAt l i = true := by
      apply Classical.byContradiction
      intro hne
      rw [good_of h11 (fun i hi => by
        cases hb : badAt l i with
        | false => rfl
        | true => exact absurd ⟨i, hi, hb⟩ hne)] at hg
      cases hg
    obtain ⟨j, hj, hjb⟩ := hex
    have hjn : j < n := by have := hB.len; omega
    have HJ := Lib.hid hjb; clear hjb hg
    have HB := Lib.hid hB; clear hB
    go_enter Tryd.func19, Tryd.ntmps19
    go_wp2_with (go_at_call 23; refine (Hib.out).mono ?_; rintro e w' ⟨rfl, rfl⟩)
    go_loopw [12, 3, 4] (fun i x y wr => ∃ k : Nat, k ≤ j ∧ i = .int .i64 k ∧ ∃ q, wr = w.drewN q) (fun i _ _ _ => n - (intOf i).toNat)
    case atStart => exact ⟨0, Nat.zero_le _, rfl, 0, rfl⟩
    case round =>
      obtain ⟨k, hk, rfl, q, rfl⟩ := hrel
      have hlt : k < n := by omega
      obtain ⟨b, o, rfl, hb, hc⟩ := HB.out.at_ (by omega)
      have hkl : k < l.length := by have := HB.out.len; omega
      have hcell := hc k _ (List.getElem?_eq_getElem hkl)
      cases hbad : badAt l k with
      | false =>
        have hkj : k < j := by
          rcases Nat.lt_or_ge k j with h | h
          · exact h
          · obtain rfl : k = j := by omega
            rw [HJ.out] at hbad; cases hbad
        unfold badAt at hbad
        rw [List.getElem?_eq_getElem hkl] at hbad
        generalize l[k] = x at hcell hbad
        by_cases h28 : x = 28
        · subst h28
          have hkn : k + 1 ≠ l.length := by intro e; simp [e] at hbad
          have hk1 : k + 1 < l.length := by omega
          have hcell1 := hc (k + 1) _ (List.getElem?_eq_getElem hk1)
          rw [List.getElem?_eq_getElem hk1] at hbad
          generalize l[k + 1] = y at hcell1 hbad
          have hne := u8_ne (x := y) (k := 13) 13 rfl (by intro e; subst e; simp at hbad)
          have hk2 : ((k : Int) + 1 == n) = false := by rw [beq_eq_false_iff_ne]; have := HB.out.len; omega
          have hk3 : k + 1 < n := by have := HB.out.len; omega
          have hw1 : IntKind.i64.wrap ((k : Int) + 1) = (k : Int) + 1 := IntWalk.i64_in _ (by omega)
          have hw2 : ((k : Int) + 1).toNat = k + 1 := by omega
          have hw3 : (0 : Int) ≤ (k : Int) + 1 := by omega
          have hw4 : (k : Int) + 1 < (n : Int) := by omega
          clear hbad hkn hc
          go_wp2
          go_quiet (fail)
          clear hw1 hw2 hw3 hw4
          go_wp2
          go_roundw
          case rel => exact ⟨k + 1, by omega, by go_num, _, rfl⟩
          case measure => simp [intOf]; omega
        · have hx' := u8_ne (x := x) (k := 28) 28 rfl h28
          clear hbad hc
          go_wp2
          go_quiet (fail)
          go_wp2
          go_roundw
          case rel => exact ⟨k + 1, by omega, by go_num, _, rfl⟩
          case measure => simp [intOf]; omega
      | true =>
        unfold badAt at hbad
        rw [List.getElem?_eq_getElem hkl] at hbad
        simp only [Bool.and_eq_true, beq_iff_eq, Option.some.injEq, Bool.or_eq_true, decide_eq_true_eq] at hbad
        obtain ⟨h28, hend⟩ := hbad
        rw [h28] at hcell
        have hw1 : IntKind.i64.wrap ((k : Int) + 1) = (k : Int) + 1 := IntWalk.i64_in _ (by omega)
        have hw2 : ((k : Int) + 1).toNat = k + 1 := by omega
        have hw3 : (0 : Int) ≤ (k : Int) + 1 := by omega
        by_cases he : k + 1 = l.length
        · have hk2 : ((k : Int) + 1 == n) = true := by rw [beq_iff_eq]; have := HB.out.len; omega
          clear hend he hc h28
          go_wp2
          go_quiet (fail)
          clear hw1 hw2 hw3
          go_wp2
          go_ret
          exact ⟨rfl, q + nq, by rw [World.drewN_drewN]⟩
        · have h13 := hend.resolve_left he
          have hcell1 := hc (k + 1) _ h13
          have hk1 : k + 1 < l.length := by omega
          have hk2 : ((k : Int) + 1 == n) = false := by rw [beq_eq_false_iff_ne]; have := HB.out.len; omega
          have hk3 : k + 1 < n := by have := HB.out.len; omega
          have hw4 : (k : Int) + 1 < (n : Int) := by omega
          clear hend hc h28 he h13
          go_wp2
          go_quiet (fail)
          clear hw1 hw2 hw3 hw4
          go_wp2
          go_ret
          exact ⟨rfl, q + nq, by rw [World.drewN_drewN]⟩
end Go.Proofs.YtncohbnlbjmadaaDoor
