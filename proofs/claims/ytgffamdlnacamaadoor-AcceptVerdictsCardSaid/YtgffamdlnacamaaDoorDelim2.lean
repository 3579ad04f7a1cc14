/- Layer 6: whether signs may be, walked. -/
import Derived.Test.YtgffamdlnacamaaDoorDelim
namespace Go.Proofs.YtgffamdlnacamaaDoor
open Go.RowKit

/-- the first j signs may be -/
def goodTo (l : List UInt8) : Nat → Bool
  | 0 => true
  | j + 1 => goodTo l j && isSign (l.getD j 0).toNat && !((l.take j).contains (l.getD j 0))

theorem indexByte_has (l : List UInt8) (c : UInt8) : decide (0 ≤ Lib.indexByte l c) = l.contains c := by
  induction l with
  | nil => rfl
  | cons b l ih =>
    have hg := Lib.indexByte_ge l c
    unfold Lib.indexByte
    by_cases h : b = c
    · simp [h]
    · have h1 : (b == c) = false := by simpa using h
      have h2 : (c == b) = false := by simpa using fun e => h e.symm
      simp only [h1, List.contains_cons, h2, Bool.false_or, Bool.false_eq_true, if_false]
      rw [← ih]
      by_cases hm : Lib.indexByte l c = -1
      · simp [hm]
      · have h3 : (Lib.indexByte l c == -1) = false := by simpa using hm
        simp only [h3, Bool.false_eq_true, if_false]
        congr 1
        apply propext
        omega

def Sgn.good (s : Sgn) : Bool := goodTo s.l 5

theorem int5 (s : Sgn) (j : Nat) (hj : j < 5) (w : World) : (Instr.index 103 s.v (.int .i64 (j : Int))).run Tryd.prog w = .ok (.int .u8 ((s.l.getD j 0).toNat : Int)) w := by
  have h : j = 0 ∨ j = 1 ∨ j = 2 ∨ j = 3 ∨ j = 4 := by omega
  rcases h with rfl | rfl | rfl | rfl | rfl <;> simp [Instr.index, asIntOf, run_underlying Tryd.underlying103, go_sem, Sgn.l]

theorem len5 : Tryd.prog.arrayLen 103 = 5 := by kernel_rfl
theorem size5 (w : World) : (sizeOf (Tryd.prog.elem 103)).run Tryd.prog w = .ok 1 w := by
  rw [show Tryd.prog.elem 103 = 5 from by kernel_rfl]
  simp [go_sem]
theorem slice5 (G j : Nat) (hj : j ≤ 5) (w : World) : (Instr.sliceAt 103 (.pointer (some ⟨G, 0, none⟩)) none (some (.int .i64 (j : Int))) none).run Tryd.prog w = .ok (.slice (some ⟨G, 0, none⟩) j 5) w := by
  rw [run_sliceAt_array_h w 103 ⟨G, 0, none⟩ (by kernel_rfl) .i64 (j : Int) (by omega) (by rw [len5]; omega), size5]
  simp [slicedAt, len5, Result.andThen, Addr.add]
theorem goodTo_le {l : List UInt8} {j k : Nat} (h : goodTo l k = true) (hjk : j ≤ k) : goodTo l j = true := by
  induction k with
  | zero => obtain rfl : j = 0 := by omega
            rfl
  | succ k ih =>
    by_cases e : j = k + 1
    · subst e; exact h
    · simp only [goodTo, Bool.and_eq_true] at h
      exact ih h.1.1 (by omega)
theorem goodTo_no {l : List UInt8} {j : Nat} (h : goodTo l (j + 1) = false) (hj : j < 5) : goodTo l 5 = false := by
  cases h5 : goodTo l 5
  · rfl
  · rw [goodTo_le h5 (show j + 1 ≤ 5 by omega)] at h
    cases h
/-- are they the common ones? -/
def Sgn.plain (s : Sgn) : Bool := (s.a.toNat : Int) == 124 && (s.b.toNat : Int) == 94 && (s.c.toNat : Int) == 126 && (s.d.toNat : Int) == 92 && (s.e.toNat : Int) == 38
theorem Sgn.plain_good {s : Sgn} (h : s.plain = true) : s.good = true := by
  obtain ⟨a, b, c, d, e⟩ := s
  simp only [Sgn.plain, Bool.and_eq_true, beq_iff_eq] at h
  obtain rfl : a = 124 := UInt8.toNat_inj.1 (by show _ = 124; omega)
  obtain rfl : b = 94 := UInt8.toNat_inj.1 (by show _ = 94; omega)
  obtain rfl : c = 126 := UInt8.toNat_inj.1 (by show _ = 126; omega)
  obtain rfl : d = 92 := UInt8.toNat_inj.1 (by show _ = 92; omega)
  obtain rfl : e = 38 := UInt8.toNat_inj.1 (by show _ = 38; omega)
  decide
theorem delims_eq (s : Sgn) (w : World) : (binOp .eql 25 s.v (dlm 124 94 126 92 38)).run Tryd.prog w = .ok (.bool s.plain) w := by
  rw [run_eql_struct, run_equalIn_agg (ht := by kernel_rfl) (hp := by kernel_rfl)]
  simp [Op.eqFields, Program.fieldsOf, Tryd.underlying25, part, go_sem]
  by_cases h1 : (s.a.toNat : Int) = 124 <;> by_cases h2 : (s.b.toNat : Int) = 94 <;> by_cases h3 : (s.c.toNat : Int) = 126 <;> by_cases h4 : (s.d.toNat : Int) = 92 <;> by_cases h5 : (s.e.toNat : Int) = 38 <;> simp [Sgn.plain, h1, h2, h3, h4, h5]

set_option maxRecDepth 100000 in
theorem delimRight (s : Sgn) (w : World) : Calls Tryd.prog 36 #[s.v] w fun x w' => x = .returned (.bool s.good) ∧ Below w.heap.size w w' := by
  have heq := fun w => delims_eq s w
  have HGO := Lib.hid (show s.good = goodTo s.l 5 from rfl)
  have HPG := Lib.hid (@Sgn.plain_good s)
  go_enter Tryd.func36, Tryd.ntmps36
  go_wp2_with (fail)
  have hr := heap_alloc_new w (.cells #[.int .u8 (s.a.toNat : Int), .int .u8 (s.b.toNat : Int), .int .u8 (s.c.toNat : Int), .int .u8 (s.d.toNat : Int), .int .u8 (s.e.toNat : Int)] 25)
  have B1 : Hid (Below w.heap.size w (w.alloc (.cells #[.int .u8 (s.a.toNat : Int), .int .u8 (s.b.toNat : Int), .int .u8 (s.c.toNat : Int), .int .u8 (s.d.toNat : Int), .int .u8 (s.e.toNat : Int)] 25))) := Lib.hid ((Below.refl _ w).alloc (Nat.le_refl _) _)
  have hg : w.heap.size < (w.alloc (.cells #[.int .u8 (s.a.toNat : Int), .int .u8 (s.b.toNat : Int), .int .u8 (s.c.toNat : Int), .int .u8 (s.d.toNat : Int), .int .u8 (s.e.toNat : Int)] 25)).heap.size := by simp
  obtain ⟨G, hG⟩ : ∃ G, G = w.heap.size := ⟨_, rfl⟩
  generalize w.alloc (.cells #[.int .u8 (s.a.toNat : Int), .int .u8 (s.b.toNat : Int), .int .u8 (s.c.toNat : Int), .int .u8 (s.d.toNat : Int), .int .u8 (s.e.toNat : Int)] 25) = W1 at *
  rw [← hG] at hr hg B1 ⊢
  have HBL : Hid (Below w.heap.size w W1) := Lib.hid (by rw [← hG]; exact B1.out)
  clear hG B1
  have L : ∀ (k : Nat) (x : Value), (#[Value.int .u8 (s.a.toNat : Int), .int .u8 (s.b.toNat : Int), .int .u8 (s.c.toNat : Int), .int .u8 (s.d.toNat : Int), .int .u8 (s.e.toNat : Int)] : Array Value)[k]? = some x → ∀ n : Later W1, n.u.cell? ⟨G, k, none⟩ = some x := fun k x hx n => by
    rw [cell_of_row _ _ _ _ _ _ (by rw [n.h.block _ hg]; exact hr)]; exact hx
  have L0 := L 0 _ rfl
  have L1 := L 1 _ rfl
  have L2 := L 2 _ rfl
  have L3 := L 3 _ rfl
  have L4 := L 4 _ rfl
  clear L hr hg
  cases hp : s.plain
  all_goals rw [hp] at heq HPG
  all_goals
    refine region_later (by kernel_rfl) (by kernel_rfl) ?_
    repeat (go_big_quiet_step ((first
      | (go_at_call 62; exact Calls.later (delimPlain _)))))
    refine wpQuiet_nil ?_
    intro nq
    have l0 := L0 nq
    have l1 := L1 nq
    have l2 := L2 nq
    have l3 := L3 nq
    have l4 := L4 nq
    clear L0 L1 L2 L3 L4 heq
    have HB1 : Hid (Below w.heap.size w nq.u) := Lib.hid (HBL.out.trans (nq.h.mono HBL.out.size))
    clear HBL
    generalize nq.u = W2 at *
    clear nq
    go_wp2_with (fail)
  · clear l0 l1 l2 l3 l4
    refine (delimRow _ _ _ _ _ W2).mono ?_
    rintro e w3 ⟨rfl, hb3⟩
    have HB3 : Hid (Below w.heap.size w w3) := Lib.hid (HB1.out.trans (hb3.mono HB1.out.size))
    clear HB1 hb3
    go_wp2_with (fail)
    have hr := heap_alloc_new w3 (.cells #[.int .u8 (s.a.toNat : Int), .int .u8 (s.b.toNat : Int), .int .u8 (s.c.toNat : Int), .int .u8 (s.d.toNat : Int), .int .u8 (s.e.toNat : Int)] 103)
    have hg : w3.heap.size < (w3.alloc (.cells #[.int .u8 (s.a.toNat : Int), .int .u8 (s.b.toNat : Int), .int .u8 (s.c.toNat : Int), .int .u8 (s.d.toNat : Int), .int .u8 (s.e.toNat : Int)] 103)).heap.size := by simp
    have HB4 : Hid (Below w.heap.size w (w3.alloc (.cells #[.int .u8 (s.a.toNat : Int), .int .u8 (s.b.toNat : Int), .int .u8 (s.c.toNat : Int), .int .u8 (s.d.toNat : Int), .int .u8 (s.e.toNat : Int)] 103))) := Lib.hid (HB3.out.alloc HB3.out.size _)
    obtain ⟨G2, hG⟩ : ∃ G, G = w3.heap.size := ⟨_, rfl⟩
    clear HB3
    generalize w3.alloc (.cells #[.int .u8 (s.a.toNat : Int), .int .u8 (s.b.toNat : Int), .int .u8 (s.c.toNat : Int), .int .u8 (s.d.toNat : Int), .int .u8 (s.e.toNat : Int)] 103) = W4 at *
    rw [← hG] at hr hg ⊢
    clear hG
    have HBs : Hid (Bs W4 (some ⟨G2, 0, none⟩) 5 5 s.l) := Lib.hid (Bs.block hr rfl (by simp [maxLen]))
    clear hr hg
    go_loop [12] (fun k => ∃ j : Nat, j ≤ 5 ∧ k = .int .i64 j ∧ goodTo s.l j = true) (fun k => 5 - (intOf k).toNat)
    case atStart => exact ⟨0, Nat.zero_le _, rfl, rfl⟩
    case round =>
      obtain ⟨j, hj, rfl, hgo⟩ := hrel
      have HGJ := Lib.hid hgo
      clear hgo
      by_cases hlt : j < 5
      · have hix := int5 s j hlt
        have HTJ := Lib.hid (indexByte_has (s.l.take j) (s.l.getD j 0))
        have HNX := Lib.hid (show goodTo s.l (j + 1) = (goodTo s.l j && isSign (s.l.getD j 0).toNat && !((s.l.take j).contains (s.l.getD j 0))) from rfl)
        have hcv := (Bs.take HBs.out hj).str (P := Tryd.prog) 22 5 9 Tryd.underlying22 Tryd.underlying5 Tryd.underlying9
        rw [HGJ.out] at HNX
        have hx := (s.l.getD j 0).toNat_lt
        have HX : Hid (((s.l.getD j 0).toNat : Int).toNat.toUInt8 = s.l.getD j 0) := Lib.hid (by simp)
        generalize s.l.getD j 0 = x at *
        generalize (s.l.take j).contains x = h at *
        generalize s.l.take j = L at *
        go_wp2_with (fail)
        refine (delimSign x.toNat W4).mono ?_
        rintro e w5 ⟨rfl, rfl⟩
        generalize isSign x.toNat = i at *
        have hsl := fun w => slice5 G2 j hj w
        have HLT := Lib.hid hlt
        cases i
        · go_wp2_with (fail)
          go_ret
          exact ⟨by rw [HGO.out, goodTo_no (j := j) (by rw [HNX.out]; rfl) HLT.out]; rfl, HB4.out⟩
        · go_wp2_with (fail)
          refine (strIndexByte _ _ W4).mono ?_
          rintro e w6 ⟨rfl, rfl⟩
          rw [HX.out, show (txt L).data.toList = L from rfl]
          generalize Lib.indexByte L x = m at *
          cases h
          · have hm : ¬ (0 : Int) ≤ m := by simpa using HTJ.out
            go_wp2_with (fail)
            go_round
            case rel => exact ⟨j + 1, HLT.out, by go_num, HNX.out⟩
            case measure => have := HLT.out; simp [intOf]; omega
          · have hm : (0 : Int) ≤ m := by simpa using HTJ.out
            go_wp2_with (fail)
            go_ret
            exact ⟨by rw [HGO.out, goodTo_no (j := j) (by rw [HNX.out]; rfl) HLT.out]; rfl, HB4.out⟩
      · obtain rfl : j = 5 := by omega
        go_wp2_with (fail)
        go_ret
        exact ⟨by rw [HGO.out, HGJ.out]; rfl, HB4.out⟩
  · go_ret
    exact ⟨by rw [Sgn.plain_good hp]; rfl, HB1.out⟩
end Go.Proofs.YtgffamdlnacamaaDoor
