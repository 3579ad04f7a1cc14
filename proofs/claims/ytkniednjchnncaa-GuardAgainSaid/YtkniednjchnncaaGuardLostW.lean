/- GuardLost, walked. -/
import Derived.Test.YtkniednjchnncaaGuardMeets
import Derived.Test.YtkniednjchnncaaHeld
import Derived.Laws.StructEq
namespace Go.Proofs.Ytkniednjchnncaa
open Go.RowKit

theorem funcE_nil (w : World) : (binOp .eql 30 .nilFunc .nilFunc).run Try.prog w = .ok (.bool true) w := by
  first
  | rfl
  | simp [binOp, go_sem, run_underlying Try.underlying30]

set_option maxRecDepth 100000 in
theorem guardDo_nil (w : World) : Calls Try.prog 14 #[.nilFunc] w fun e w' => e = .returned (.tuple #[.int .i64 0, crash 0, .bool false]) ∧ Below w.heap.size w w' := by
  have hnn := funcE_nil
  go_enter Try.func14, Try.ntmps14
  go_wp2_with (fail)
  exact bodyPost_ret (v := .tuple #[.int .i64 0, crash 0, .bool false]) (by simp [results, Try.results14, go_sem]) rfl ⟨rfl, ((Below.refl _ w).alloc (Nat.le_refl _) _).alloc (by simp) _⟩

theorem guardRow_none (w : World) : Calls Try.prog 18 #[.slice none 0 0] w fun e w' => e = .returned (.tuple #[.int .i64 0, crash 0, .bool false]) ∧ Below w.heap.size w w' := by
  refine (guardRow none 0 0 w (by omega) (fun i W => i = 0 ∧ Below w.heap.size w W) (fun _ _ _ => False) ⟨rfl, Below.refl _ _⟩ (fun i W W' h hb => ⟨h.1, h.2.trans hb⟩) (fun _ _ _ _ h _ => h.elim) (fun i W h hi => absurd hi (by omega))).mono ?_
  rintro e w' (⟨rfl, _, hb⟩ | ⟨i, op, hi, _⟩)
  · exact ⟨rfl, hb⟩
  · omega

theorem guardRow_nils (F : Nat) (w : World) (hF : w.heap[F]? = some (.cells #[.nilFunc, .nilFunc] 1)) : Calls Try.prog 18 #[.slice (some ⟨F, 0, none⟩) 2 2] w fun e w' => e = .returned (.tuple #[.int .i64 2, crash 0, .bool false]) ∧ Below w.heap.size w w' := by
  have hl : F < w.heap.size := (Array.getElem?_eq_some_iff.1 hF).1
  refine (guardRow (some ⟨F, 0, none⟩) 2 2 w (by omega) (fun _ W => Below w.heap.size w W) (fun _ _ _ => False) (Below.refl _ _) (fun i W W' h hb => h.trans hb) (fun _ _ _ _ h _ => h.elim) (fun i W h hi => ?_)).mono ?_
  · have hr : W.heap[F]? = some (.cells #[.nilFunc, .nilFunc] 1) := by rw [h.block _ hl]; exact hF
    have hi' : i = 0 ∨ i = 1 := by omega
    refine ⟨F, 0, .nilFunc, rfl, ?_, .inl ⟨rfl, fun W h => h⟩⟩
    rw [cell_of_row W _ _ _ _ _ hr]
    rcases hi' with rfl | rfl <;> rfl
  · rintro e w' (⟨rfl, hb⟩ | ⟨i, op, _, _, h⟩)
    · exact ⟨rfl, hb⟩
    · exact h.elim

theorem okLost : FnOk 28 := fun args w => Go.MuLone.run_callFunc_enter Try.func28 (by kernel_rfl) rfl args w
set_option maxRecDepth 100000 in
theorem lostOne (G : Nat) (op : Int) (w1 : World) (h : w1.heap[G]? = some (.cells #[.int .i64 op] 3)) : Calls Try.prog 28 #[.pointer (some ⟨G, 0, none⟩)] w1 fun e w' => e = .panicked [{ v := crashI op, recovered := false }] ∧ w' = w1 := by
  have c := cell_of_row w1 G 0 _ _ _ h
  simp only [List.getElem?_toArray, List.getElem?_cons_zero] at c
  clear h
  go_enter Try.func28, Try.ntmps28
  go_wp2_with (fail)
  refine (guardLose op w1).mono ?_
  rintro e w2 ⟨rfl, rfl⟩
  exact ⟨rfl, rfl, rfl⟩

theorem crash_eq (a : Int) (w : World) : (binOp .eql 24 (crash a) (crash a)).run Try.prog w = .ok (.bool true) w := by
  rw [run_eql_struct, run_equalIn_agg (ht := by kernel_rfl) (hp := by kernel_rfl)]
  simp [Op.eqFields, Program.fieldsOf, Try.underlying24, part, go_sem]

set_option maxHeartbeats 1000000 in
set_option maxRecDepth 100000 in
theorem guardLost_walk (op : Int) (w : World) (_hw : (Lit.int .i64 op).wf = true) : Calls Try.prog 6 #[.int .i64 op] w (True_ w) := by
  have hmf : ∀ (fn : Fn) (first cap : Array Value) (w : World), (Instr.makeFunc fn first cap).run Try.prog w = .ok (.func fn first cap) w := fun _ _ _ _ => rfl
  go_enter Try.func6, Try.ntmps6
  go_wp2_with (fail)
  have HHc : Hid (Held w []) := Lib.hid trivial
  have HBc : Hid (Below w.heap.size w w) := Lib.hid (Below.refl _ _)
  have HHn : Hid (Held (w.alloc (.cells #[.int .i64 op] 3)) ((w.heap.size, .cells #[.int .i64 op] 3) :: [])) := Lib.hid (HHc.out.alloc (.cells #[.int .i64 op] 3))
  have HBn : Hid (Below w.heap.size w (w.alloc (.cells #[.int .i64 op] 3))) := Lib.hid (HBc.out.alloc HBc.out.size _)
  obtain ⟨G0, hG0⟩ : ∃ y, y = w.heap.size := ⟨_, rfl⟩
  have HBn' : Hid (Below w.heap.size w (w.alloc (.cells #[.int .i64 op] 3))) := Lib.hid HBn.out
  rw [← hG0] at HHn ⊢
  clear hG0 HHc HBc HBn
  generalize w.alloc (.cells #[.int .i64 op] 3) = w1 at *
  refine (guardMeets _ _ okLost w1 (fun _ => False) (fun t v W => t = 24 ∧ v = crash op ∧ Below w1.heap.size w1 W) ?_).mono ?_
  · intro w2 hb2
    refine (lostOne G0 op w2 (HHn.out.below hb2).1).mono ?_
    rintro e w3 ⟨rfl, rfl⟩
    exact ⟨fun _ _ _ => rfl, Nat.le_refl _, .inr ⟨_, _, rfl, rfl, rfl, hb2⟩⟩
  rintro e w2 ⟨w', hb', (⟨_, h⟩ | ⟨t, v, rfl, rfl, rfl, hb''⟩)⟩
  · exact h.elim
  have hb := hb''.trans hb'
  have HHc := Lib.hid (HHn.out.below hb)
  have HBc : Hid (Below w.heap.size w w2) := Lib.hid (HBn'.out.trans (hb.mono HBn'.out.size))
  clear hb hb' hb'' HHn HBn' w'
  have HHn := HHc
  have HBn := HBc
  clear HHc HBc
  go_wp2_with (fail)
  refine (guardLost_yes op w2).mono ?_
  rintro e w3 ⟨rfl, hb⟩
  have HHc := Lib.hid (HHn.out.below hb)
  have HBc : Hid (Below w.heap.size w w3) := Lib.hid (HBn.out.trans (hb.mono HBn.out.size))
  clear hb HHn HBn
  go_wp2_with (fail)
  have HHn : Hid (Held (w3.alloc (.cells #[.int .i64 op] 24)) ((w3.heap.size, .cells #[.int .i64 op] 24) :: ((G0, .cells #[.int .i64 op] 3) :: []))) := Lib.hid (HHc.out.alloc (.cells #[.int .i64 op] 24))
  have HBn : Hid (Below w.heap.size w (w3.alloc (.cells #[.int .i64 op] 24))) := Lib.hid (HBc.out.alloc HBc.out.size _)
  obtain ⟨G4, hG4⟩ : ∃ y, y = w3.heap.size := ⟨_, rfl⟩
  rw [← hG4] at HHn ⊢
  clear hG4 HHc HBc
  generalize w3.alloc (.cells #[.int .i64 op] 24) = w4 at *
  refine (guardLost_nil w4).mono ?_
  rintro e w5 ⟨rfl, hb⟩
  have HHc := Lib.hid (HHn.out.below hb)
  have HBc : Hid (Below w.heap.size w w5) := Lib.hid (HBn.out.trans (hb.mono HBn.out.size))
  clear hb HHn HBn
  go_wp2_with (fail)
  have HHn : Hid (Held (w5.alloc (.cells #[.int .i64 0] 24)) ((w5.heap.size, .cells #[.int .i64 0] 24) :: ((G4, .cells #[.int .i64 op] 24) :: ((G0, .cells #[.int .i64 op] 3) :: [])))) := Lib.hid (HHc.out.alloc (.cells #[.int .i64 0] 24))
  have HBn : Hid (Below w.heap.size w (w5.alloc (.cells #[.int .i64 0] 24))) := Lib.hid (HBc.out.alloc HBc.out.size _)
  obtain ⟨G6, hG6⟩ : ∃ y, y = w5.heap.size := ⟨_, rfl⟩
  rw [← hG6] at HHn ⊢
  clear hG6 HHc HBc
  generalize w5.alloc (.cells #[.int .i64 0] 24) = w6 at *
  refine (guardRun_nil w6).mono ?_
  rintro e w7 ⟨rfl, hb⟩
  have HHc := Lib.hid (HHn.out.below hb)
  have HBc : Hid (Below w.heap.size w w7) := Lib.hid (HBn.out.trans (hb.mono HBn.out.size))
  clear hb HHn HBn
  go_wp2_with (fail)
  have HHn : Hid (Held (w7.alloc (.cells #[.int .i64 0] 24)) ((w7.heap.size, .cells #[.int .i64 0] 24) :: ((G6, .cells #[.int .i64 0] 24) :: ((G4, .cells #[.int .i64 op] 24) :: ((G0, .cells #[.int .i64 op] 3) :: []))))) := Lib.hid (HHc.out.alloc (.cells #[.int .i64 0] 24))
  have HBn : Hid (Below w.heap.size w (w7.alloc (.cells #[.int .i64 0] 24))) := Lib.hid (HBc.out.alloc HBc.out.size _)
  obtain ⟨G8, hG8⟩ : ∃ y, y = w7.heap.size := ⟨_, rfl⟩
  rw [← hG8] at HHn ⊢
  clear hG8 HHc HBc
  generalize w7.alloc (.cells #[.int .i64 0] 24) = w8 at *
  refine (guardDo_nil w8).mono ?_
  rintro e w9 ⟨rfl, hb⟩
  have HHc := Lib.hid (HHn.out.below hb)
  have HBc : Hid (Below w.heap.size w w9) := Lib.hid (HBn.out.trans (hb.mono HBn.out.size))
  clear hb HHn HBn
  go_wp2_with (fail)
  have HHn : Hid (Held (w9.alloc (.cells #[.int .i64 0] 24)) ((w9.heap.size, .cells #[.int .i64 0] 24) :: ((G8, .cells #[.int .i64 0] 24) :: ((G6, .cells #[.int .i64 0] 24) :: ((G4, .cells #[.int .i64 op] 24) :: ((G0, .cells #[.int .i64 op] 3) :: [])))))) := Lib.hid (HHc.out.alloc (.cells #[.int .i64 0] 24))
  have HBn : Hid (Below w.heap.size w (w9.alloc (.cells #[.int .i64 0] 24))) := Lib.hid (HBc.out.alloc HBc.out.size _)
  obtain ⟨G11, hG11⟩ : ∃ y, y = w9.heap.size := ⟨_, rfl⟩
  rw [← hG11] at HHn ⊢
  clear hG11 HHc HBc
  generalize w9.alloc (.cells #[.int .i64 0] 24) = w10 at *
  refine (guardRow_none w10).mono ?_
  rintro e w11 ⟨rfl, hb⟩
  have HHc := Lib.hid (HHn.out.below hb)
  have HBc : Hid (Below w.heap.size w w11) := Lib.hid (HBn.out.trans (hb.mono HBn.out.size))
  clear hb HHn HBn
  go_wp2_with (fail)
  have hs : (w11.alloc (.cells #[.int .i64 0] 24)).heap.size = w11.heap.size + 1 := by simp
  have H2 := (HHc.out.alloc (.cells #[.int .i64 0] 24)).alloc (.cells #[.nilFunc, .nilFunc] 1)
  rw [hs] at H2
  have HHn : Hid (Held ((w11.alloc (.cells #[.int .i64 0] 24)).alloc (.cells #[.nilFunc, .nilFunc] 1)) ((w11.heap.size + 1, .cells #[.nilFunc, .nilFunc] 1) :: (w11.heap.size, .cells #[.int .i64 0] 24) :: ((G11, .cells #[.int .i64 0] 24) :: ((G8, .cells #[.int .i64 0] 24) :: ((G6, .cells #[.int .i64 0] 24) :: ((G4, .cells #[.int .i64 op] 24) :: ((G0, .cells #[.int .i64 op] 3) :: []))))))) := Lib.hid H2
  have HBn : Hid (Below w.heap.size w ((w11.alloc (.cells #[.int .i64 0] 24)).alloc (.cells #[.nilFunc, .nilFunc] 1))) := Lib.hid ((HBc.out.alloc HBc.out.size _).alloc (by have := HBc.out.size; omega) _)
  clear H2 hs
  obtain ⟨F, hF⟩ : ∃ y, y = w11.heap.size + 1 := ⟨_, rfl⟩
  rw [← hF] at HHn ⊢
  obtain ⟨G14, hG14⟩ : ∃ y, y = w11.heap.size := ⟨_, rfl⟩
  rw [← hG14] at HHn ⊢
  clear hF hG14 HHc HBc
  generalize (w11.alloc (.cells #[.int .i64 0] 24)).alloc (.cells #[.nilFunc, .nilFunc] 1) = w12 at *
  refine (guardRow_nils F w12 HHn.out.1).mono ?_
  rintro e w13 ⟨rfl, hb⟩
  have HHc := Lib.hid (HHn.out.below hb)
  have HBc : Hid (Below w.heap.size w w13) := Lib.hid (HBn.out.trans (hb.mono HBn.out.size))
  clear hb HHn HBn
  go_wp2_with (fail)
  have HHn : Hid (Held (w13.alloc (.cells #[.int .i64 0] 24)) ((w13.heap.size, .cells #[.int .i64 0] 24) :: ((F, .cells #[.nilFunc, .nilFunc] 1) :: (G14, .cells #[.int .i64 0] 24) :: ((G11, .cells #[.int .i64 0] 24) :: ((G8, .cells #[.int .i64 0] 24) :: ((G6, .cells #[.int .i64 0] 24) :: ((G4, .cells #[.int .i64 op] 24) :: ((G0, .cells #[.int .i64 op] 3) :: [])))))))) := Lib.hid (HHc.out.alloc (.cells #[.int .i64 0] 24))
  have HBn : Hid (Below w.heap.size w (w13.alloc (.cells #[.int .i64 0] 24))) := Lib.hid (HBc.out.alloc HBc.out.size _)
  obtain ⟨G17, hG17⟩ : ∃ y, y = w13.heap.size := ⟨_, rfl⟩
  rw [← hG17] at HHn ⊢
  clear hG17 HHc HBc
  generalize w13.alloc (.cells #[.int .i64 0] 24) = w14 at *
  refine (guardAlive w14).mono ?_
  rintro e w15 ⟨rfl, hb⟩
  have HHc := Lib.hid (HHn.out.below hb)
  have HBc : Hid (Below w.heap.size w w15) := Lib.hid (HBn.out.trans (hb.mono HBn.out.size))
  clear hb HHn HBn
  have hc17 := cell_of_row w15 G17 0 _ _ _ HHc.out.1
  have hc14 := cell_of_row w15 G14 0 _ _ _ HHc.out.2.2.1
  have hc11 := cell_of_row w15 G11 0 _ _ _ HHc.out.2.2.2.1
  have hc8 := cell_of_row w15 G8 0 _ _ _ HHc.out.2.2.2.2.1
  have hc4 := cell_of_row w15 G4 0 _ _ _ HHc.out.2.2.2.2.2.2.1
  have hc0 := cell_of_row w15 G0 0 _ _ _ HHc.out.2.2.2.2.2.2.2.1
  simp only [List.getElem?_toArray, List.getElem?_cons_zero] at hc17 hc14 hc11 hc8 hc4 hc0
  have heq := crash_eq 0
  go_wp2_with (fail)
  go_ret
  exact ⟨rfl, HBc.out⟩
end Go.Proofs.Ytkniednjchnncaa
