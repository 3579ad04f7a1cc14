/- GuardDeferred, walked. -/
import Derived.Test.YtikobhbknnlgbaaGuardDefer
import Derived.BigQuiet
namespace Go.Proofs.Ytikobhbknnlgbaa
open Go.RowKit

theorem u8_of_wf {y : Int} (h : (Lit.int .u8 y).wf = true) : ∃ x : UInt8, y = (x.toNat : Int) := by
  have h2 : IntKind.u8.min ≤ y ∧ y ≤ IntKind.u8.max := by simpa [Lit.wf] using h
  have h3 : 0 ≤ y ∧ y ≤ 255 := by simpa [IntKind.min, IntKind.max, IntKind.signed, IntKind.bits] using h2
  refine ⟨UInt8.ofNat y.toNat, ?_⟩
  rw [UInt8.toNat_ofNat']
  omega
theorem own_cellD {w : World} {base n : Nat} {e : TypeId} {v : Value} {xs : List Value} (h : w.ownsRow base e 1 v n xs) (hn : 0 < n) : ∃ g c, v = .slice (some ⟨g, 0, none⟩) n c ∧ n ≤ c ∧ c ≤ 9223372036854775807 ∧ ∀ j x, xs[j]? = some x → w.cell? ⟨g, j, none⟩ = some x := by
  rcases h.2 with ⟨rfl, h1⟩ | ⟨g, cap, cur, rfl, h1, h2, h3, h4, h5, h6⟩
  · omega
  · refine ⟨g, cap, rfl, h3, by simpa only [maxLen] using h4, fun j x hx => ?_⟩
    have hj := (List.getElem?_eq_some_iff.1 hx).1
    have := World.ownsRow.cellAt h j (by have := h.1; omega)
    rw [this]; simpa using hx
theorem own_atD {w : World} {base n g c : Nat} {e : TypeId} {xs : List Value} (h : w.ownsRow base e 1 (.slice (some ⟨g, 0, none⟩) n c) n xs) (hn : 0 < n) : ∀ j x, xs[j]? = some x → w.cell? ⟨g, j, none⟩ = some x := by
  obtain ⟨g', c', he, _, _, hc⟩ := own_cellD h hn
  injection he with h1 h2 h3
  injection h1 with h1
  injection h1 with h1
  subst h1
  exact hc
theorem boxD_get (B : Nat) : ∀ (k i : Nat), i < k → ((boxD B k).map (·.2))[i]? = some ((k : Int) - 1 - (i : Int))
  | 0, i, h => by omega
  | k + 1, 0, _ => by simp [boxD]
  | k + 1, i + 1, h => by
    have := boxD_get B k i (by omega)
    simp only [boxD, List.map_cons, List.getElem?_cons_succ, this, Option.some.injEq]
    omega
theorem okD1 : FnOk 32 := fun args w => Go.MuLone.run_callFunc_enter Try.func32 (by kernel_rfl) rfl args w
/-- what Run leaves: the numbers, the last one first, and the boxes -/
theorem runD (K O P k : Nat) (op : Int) (w : World) (hk : k ≤ 40) (hK : w.heap[K]? = some (.cells #[.int .i64 (k : Int)] 3)) (hO : w.heap[O]? = some (.cells #[.slice none 0 0] 49)) (hP : w.heap[P]? = some (.cells #[.int .i64 op] 3)) (hKO : K ≠ O) (hPO : P ≠ O) (B : Nat) (hB : B ≤ O) :
    Calls Try.prog 14 #[.func (.func 32) #[] #[.pointer (some ⟨K, 0, none⟩), .pointer (some ⟨O, 0, none⟩), .pointer (some ⟨P, 0, none⟩)]] w fun e w' => e = .returned (.tuple #[crash op, .bool true]) ∧ ∃ C T, OrdD C O ((boxD T k).map (·.2)) w' ∧ B ≤ C ∧ K < C ∧ P < C ∧
      w'.heap[K]? = some (.cells #[.int .i64 (k : Int)] 3) ∧ w'.heap[P]? = some (.cells #[.int .i64 op] 3) ∧ Below B w w' := by
  have lK := (Array.getElem?_eq_some_iff.1 hK).1
  have lO := (Array.getElem?_eq_some_iff.1 hO).1
  have lP := (Array.getElem?_eq_some_iff.1 hP).1
  refine (guardRunS 32 _ okD1 w (fun _ _ => False) (fun op' w1 w' => op' = op ∧ OrdD (w1.heap.size + k) O ((boxD w1.heap.size k).map (·.2)) w' ∧ Ch (SD w1.heap.size O) w1 w') (fun w1 hb1 => ?_)).mono ?_
  · refine (dfr1 K O P k op w1 hk ((hb1.block K lK).trans hK) ((hb1.block O lO).trans hO) ((hb1.block P lP).trans hP)).mono ?_
    rintro e w' ⟨rfl, ho, hc⟩
    exact ⟨fun b h1 h2 => hc.block b h2 (fun hs => by rcases hs with hs | hs <;> omega), hc.size, .inr ⟨op, rfl, rfl, ho, hc⟩⟩
  · rintro e w'' ⟨w1, w', hb1, hz, hc, hcase⟩
    rcases hcase with ⟨_, hf⟩ | ⟨op', rfl, rfl, ho, hc1⟩
    · exact hf.elim
    have hz1 := hb1.size
    obtain ⟨vo, h1, h2, h3, h4⟩ := ho
    refine ⟨rfl, w1.heap.size + k, w1.heap.size, ⟨vo, hc.row h1 (fun hs => by omega), own_ch h2 hc (fun j hj hs => by have := (World.ownsRow.lt h2 j hj).1; omega), h3, Nat.le_trans h4 hc.size⟩, by omega, by omega, by omega, ?_, ?_, ?_⟩
    · exact hc.row (hc1.row ((hb1.block K lK).trans hK) (fun hs => by rcases hs with hs | hs <;> omega)) (fun hs => by omega)
    · exact hc.row (hc1.row ((hb1.block P lP).trans hP) (fun hs => by rcases hs with hs | hs <;> omega)) (fun hs => by omega)
    · exact ((hb1.mono (by omega)).trans (hc1.below (fun j hj => by rcases hj with hj | hj <;> omega) (by omega))).trans (hc.below (fun j hj => by omega) (by have := hc1.size; omega))
/-- behind the append of one more number, and its store -/
theorem appD {w3 w5 w6 : World} {B C O K P k n : Nat} {op : Int} {vo v6 : Value} {xs : List Value} {ys : List Value} (bO : w3.heap[O]? = some (.cells #[vo] 49)) (own : w3.ownsRow C 3 1 vo n xs) (hOC : O < C) (rK : w3.heap[K]? = some (.cells #[.int .i64 (k : Int)] 3)) (rP : w3.heap[P]? = some (.cells #[.int .i64 op] 3)) (hKC : K < C) (hPC : P < C) (hKO : K ≠ O) (hPO : P ≠ O) (hBC : B ≤ C) (hBO : B ≤ O) (hC : C ≤ w3.heap.size)
    (hb : Below w3.heap.size w3 w5) (hQ : w5.heap[w3.heap.size]? = some (.cells #[.int .i64 op] 24)) (h6 : w6.ownsRow C 3 1 v6 (n + 1) ys) (hg : w5.grownBy w6 vo.ownBlock) :
    (w6.cell? ⟨O, 0, none⟩ = some vo ∧ w6.frozen? ⟨O, 0, none⟩ = false) ∧ ∀ u, (w6.setCell ⟨O, 0, none⟩ u).heap[O]? = some (.cells #[u] 49) ∧ (w6.setCell ⟨O, 0, none⟩ u).heap[K]? = some (.cells #[.int .i64 (k : Int)] 3) ∧ (w6.setCell ⟨O, 0, none⟩ u).heap[P]? = some (.cells #[.int .i64 op] 3) ∧ (w6.setCell ⟨O, 0, none⟩ u).heap[w3.heap.size]? = some (.cells #[.int .i64 op] 24) ∧ (w6.setCell ⟨O, 0, none⟩ u).ownsRow C 3 1 v6 (n + 1) ys ∧ Below B w3 (w6.setCell ⟨O, 0, none⟩ u) := by
  have c : Ch (fun j => vo.ownBlock = some j) w5 w6 := Ch.of_grown hg (fun j hj => hj)
  have hoff : ∀ j, vo.ownBlock = some j → C ≤ j ∧ j < w3.heap.size := fun j hj => World.ownsRow.lt own j hj
  have k5 : ∀ {b : Nat} {o : Obj}, w3.heap[b]? = some o → b < C → w6.heap[b]? = some o := fun {b o} h hlt => (c.block b (by have := (Array.getElem?_eq_some_iff.1 h).1; have := hb.size; omega) (fun e => by have := (hoff b e).1; omega)).trans ((hb.block b (Array.getElem?_eq_some_iff.1 h).1).trans h)
  have rO := k5 bO hOC
  have rQ : w6.heap[w3.heap.size]? = some (.cells #[.int .i64 op] 24) := c.row hQ (fun e => by have := (hoff _ e).2; omega)
  refine ⟨⟨cell_of_row _ O 0 _ _ _ rO, by simp [World.frozen?, rO]⟩, fun u => ?_⟩
  have cs : Ch (At1 O) w6 (w6.setCell ⟨O, 0, none⟩ u) := (Ch.refl _ w6).set1 0 _
  refine ⟨heap_setCell_same _ _ _ _ _ _ rO, cs.row (k5 rK hKC) (fun e => hKO e), cs.row (k5 rP hPC) (fun e => hPO e), cs.row rQ (fun e => by have h : w3.heap.size = O := e; omega), own_ch h6 cs (fun j hj hs => by have := (World.ownsRow.lt h6 j hj).1; have h : j = O := hs; omega), ?_⟩
  have b1 := (hb.mono (Nat.le_trans hBC hC))
  have b2 := b1.trans (c.below (fun j hj => Nat.le_trans hBC (hoff j hj).1) (by have := hb.size; omega))
  exact b2.trans (cs.below (fun j hj => by have h : j = O := hj; omega) (by have := hb.size; have := c.size; omega))
set_option maxHeartbeats 8000000 in
set_option maxRecDepth 100000 in
theorem guardDeferred_walk (n : UInt8) (op : Int) (w : World) (_wn : (Lit.int .i64 op).wf = true) : Calls Try.prog 8 #[.int .u8 (n.toNat : Int), .int .i64 op] w (True_ w) := by
  have hmf : ∀ (fn : Fn) (first cap : Array Value) (w : World), (Instr.makeFunc fn first cap).run Try.prog w = .ok (.func fn first cap) w := fun _ _ _ _ => rfl
  obtain ⟨k, hk⟩ : ∃ k, k = n.toNat % 40 := ⟨_, rfl⟩
  have HK : Hid (k ≤ 39) := Lib.hid (by omega)
  have hmod : (n.toNat : Int).tmod 40 = (k : Int) := by rw [Int.tmod_eq_emod_of_nonneg (by omega)]; omega
  have hw1 : wrap64 (k : Int) = (k : Int) := IntWalk.wrap64_in _ (by have := HK.out; omega)
  have hw2 : IntKind.i64.wrap (k : Int) = (k : Int) := IntWalk.i64_in _ (by have := HK.out; omega)
  have hw3 : IntKind.u8.wrap (k : Int) = (k : Int) := by have := HK.out; simp [IntKind.wrap, IntKind.bits, IntKind.signed]; omega
  go_enter Try.func8, Try.ntmps8
  go_wp2_with (fail)
  have hP0 := heap_alloc_new w (.cells #[.int .i64 op] 3)
  have hb0 : Below w.heap.size w (w.alloc (.cells #[.int .i64 op] 3)) := (Below.refl _ _).alloc (Nat.le_refl _) _
  generalize w.alloc (.cells #[.int .i64 op] 3) = w0 at *
  obtain ⟨P, hP⟩ : ∃ P, P = w.heap.size := ⟨_, rfl⟩
  rw [← hP] at hP0 ⊢
  have HPB := Lib.hid hP
  have lP0 := (Array.getElem?_eq_some_iff.1 hP0).1
  refine (guardAlive w0).mono ?_
  rintro e w1 ⟨rfl, hb1⟩
  have HP1 := Lib.hid ((hb1.block P lP0).trans hP0)
  have HB1 : Hid (Below w.heap.size w w1) := Lib.hid (hb0.trans (hb1.mono hb0.size))
  have HL1 : Hid (P < w1.heap.size) := Lib.hid (Array.getElem?_eq_some_iff.1 HP1.out).1
  clear hb1 hb0 hP0 lP0 hP hk
  go_wp2_with (fail)
  have hr := rows_two w1.heap (.cells #[.int .i64 (k : Int)] 3) (.cells #[.slice none 0 0] 49)
  have hb2 : Below w1.heap.size w1 ((w1.alloc (.cells #[.int .i64 (k : Int)] 3)).alloc (.cells #[.slice none 0 0] 49)) := ((Below.refl _ w1).alloc (Nat.le_refl _) _).alloc (by simp) _
  have HP2 := Lib.hid ((hb2.block P HL1.out).trans HP1.out)
  have HB2 : Hid (Below w.heap.size w ((w1.alloc (.cells #[.int .i64 (k : Int)] 3)).alloc (.cells #[.slice none 0 0] 49))) := Lib.hid (HB1.out.trans (hb2.mono HB1.out.size))
  have HK2 : Hid (((w1.alloc (.cells #[.int .i64 (k : Int)] 3)).alloc (.cells #[.slice none 0 0] 49)).heap[w1.heap.size]? = some (.cells #[.int .i64 (k : Int)] 3)) := Lib.hid hr.1
  have HO2 : Hid (((w1.alloc (.cells #[.int .i64 (k : Int)] 3)).alloc (.cells #[.slice none 0 0] 49)).heap[w1.heap.size + 1]? = some (.cells #[.slice none 0 0] 49)) := Lib.hid hr.2
  clear hr hb2 HP1
  generalize (w1.alloc (.cells #[.int .i64 (k : Int)] 3)).alloc (.cells #[.slice none 0 0] 49) = w2 at *
  have HBS : Hid (w.heap.size ≤ w1.heap.size) := Lib.hid HB1.out.size
  obtain ⟨K, hKe⟩ : ∃ K, K = w1.heap.size := ⟨_, rfl⟩
  rw [← hKe] at HK2 HO2 HL1 HBS ⊢
  obtain ⟨O, hOe⟩ : ∃ O, O = K + 1 := ⟨_, rfl⟩
  rw [← hOe] at HO2 ⊢
  have HOK : Hid (O = K + 1) := Lib.hid hOe
  clear hKe hOe HB1
  refine (runD K O P k op w2 (by have := HK.out; omega) HK2.out HO2.out HP2.out (by have := HOK.out; omega) (by have := HOK.out; have := HL1.out; omega) w.heap.size (by have := HOK.out; have := HBS.out; omega)).mono ?_
  rintro e w3 ⟨rfl, C, T, ⟨vo, bO, own, hOC, hC⟩, hBC, hKC, hPC, rK, rP, hb3⟩
  rw [List.length_map, boxD_len] at own
  have HB3 : Hid (Below w.heap.size w w3) := Lib.hid (HB2.out.trans hb3)
  have hbA : Below w3.heap.size w3 ((w3.alloc (.cells #[.int .i64 op] 24)).alloc (.cells #[.int .i64 (-1)] 3)) := ((Below.refl _ w3).alloc (Nat.le_refl _) _).alloc (by simp) _
  have hQA : ((w3.alloc (.cells #[.int .i64 op] 24)).alloc (.cells #[.int .i64 (-1)] 3)).heap[w3.heap.size]? = some (.cells #[.int .i64 op] 24) := (rows_two w3.heap _ _).1
  have HAP := Lib.hid (fun (w6 : World) (v6 : Value) (ys : List Value) (h6 : w6.ownsRow C 3 1 v6 (k + 1) ys) hg => appD bO own hOC rK rP hKC hPC (by have := HOK.out; omega) (by have := HOK.out; have := HL1.out; omega) hBC (by have := HOK.out; have := HBS.out; omega) hC hbA hQA h6 hg)
  have hl3 := (Array.getElem?_eq_some_iff.1 bO).1
  have cO : (w3.alloc (.cells #[.int .i64 op] 24)).cell? ⟨O, 0, none⟩ = some vo := cell_of_row _ O 0 _ _ _ ((((Below.refl _ w3).alloc (Nat.le_refl _) _).block O hl3).trans bO)
  have HWA : Hid (((w3.alloc (.cells #[.int .i64 op] 24)).alloc (.cells #[.int .i64 (-1)] 3)).ownsRow C 3 1 vo k (((boxD T k).map (·.2)).map (Value.int .i64 ·))) := Lib.hid (own_ch own (Ch.of_below (S := fun _ => False) hbA) (fun _ _ h => h))
  have HCA : Hid (C ≤ ((w3.alloc (.cells #[.int .i64 op] 24)).alloc (.cells #[.int .i64 (-1)] 3)).heap.size) := Lib.hid (Nat.le_trans hC hbA.size)
  obtain ⟨Av, cv, hvf⟩ := own_form own
  subst hvf
  have HGA : Hid (((w3.alloc (.cells #[.int .i64 op] 24)).alloc (.cells #[.int .i64 (-1)] 3)).heap.size = w3.heap.size + 2) := Lib.hid (by simp)
  clear bO own hOC rK rP hKC hPC hBC hC hbA hQA hb3 HB2 HP2 HK2 HO2
  have HNR : Hid (∀ (j : Nat) (x : Value), [Value.int .i64 (-1)][j]? = some x → ((w3.alloc (.cells #[.int .i64 op] 24)).alloc (.cells #[.int .i64 (-1)] 3)).cell? ((⟨w3.heap.size + 1, 0, none⟩ : Addr).add j) = some x) := Lib.hid (by
    have h := newRowD (w3.alloc (.cells #[.int .i64 op] 24)) (.int .i64 (-1)) 3
    rw [show (w3.alloc (.cells #[.int .i64 op] 24)).heap.size = w3.heap.size + 1 from by simp] at h
    exact h)
  have tok : Hid True := Lib.hid trivial
  have hkk := HK.out
  have i1 : (0 : Int) ≤ (k : Int) := by omega
  have i2 : (k : Int) < (k : Int) + 1 := by omega
  have i3 : (k : Int) < ((k + 1 : Nat) : Int) := by omega
  have hwk : wrap64 ((k : Int) + 1) = (k : Int) + 1 := IntWalk.wrap64_in _ (by omega)
  have i4 : (((k + 1 : Nat) : Int) != (k : Int) + 1) = false := by simp
  go_wp2_with (at_builtin; have _t := tok; go_loud ((refine wpList_appAt rfl (.tmp 20) (.tmp 21) 49 rfl C 3 (.int .i64 0) 8 Try.underlying49 intInfoD rfl (by decide) (.slice Av k cv) k (((boxD T k).map (·.2)).map (Value.int .i64 ·)) rfl HWA.out ⟨w3.heap.size + 1, 0, none⟩ 1 1 [.int .i64 (-1)] rfl rfl HNR.out (oneD (-1)) (by have := HK.out; omega) HCA.out ?_; intro v6 w6 ho6 hg6 hf6; clear hf6; obtain ⟨g6, c6, hv6, hk6, hm6, _⟩ := own_cellD ho6 (Nat.succ_pos k); subst hv6; obtain ⟨⟨z0, z1⟩, hall⟩ := HAP.out w6 _ _ ho6 hg6; obtain ⟨s0, s1, s2, s3, s4, s5⟩ := hall (.slice (some ⟨g6, 0, none⟩) (k + 1) c6); have HOW := Lib.hid s4; have y0 := cell_of_row _ O 0 _ _ _ s0; have y1 := cell_of_row _ K 0 _ _ _ s1; have y2 := cell_of_row _ P 0 _ _ _ s2; have y3 := cell_of_row _ w3.heap.size 0 _ _ _ s3; have y4 := own_atD s4 (Nat.succ_pos k) k (.int .i64 (-1)) (by rw [List.getElem?_append_right (by simp [boxD_len])]; simp [boxD_len]); have HR0 := Lib.hid s0; have HR1 := Lib.hid s1;  have HB7 : Hid (Below w.heap.size w (w6.setCell ⟨O, 0, none⟩ (.slice (some ⟨g6, 0, none⟩) (k + 1) c6))) := Lib.hid (HB3.out.trans s5); clear tok ho6 hg6 hall s0 s1 s2 s3 s4 s5 _t)))
  clear y0 y1 y2 y3 y4 z0 z1 hmod hw1 hw2 hw3 i1 i2 i3 i4 hwk cO HAP HWA HCA HGA HNR HB3
  generalize w6.setCell ⟨O, 0, none⟩ (.slice (some ⟨g6, 0, none⟩) (k + 1) c6) = w7 at *
  go_loopw [46] (fun i wr => ∃ j : Nat, j ≤ k ∧ i = .int .i64 j ∧ wr.heap[O]? = some (.cells #[.slice (some ⟨g6, 0, none⟩) (k + 1) c6] 49) ∧ wr.heap[K]? = some (.cells #[.int .i64 (k : Int)] 3) ∧ wr.ownsRow C 3 1 (.slice (some ⟨g6, 0, none⟩) (k + 1) c6) (k + 1) (((boxD T k).map (·.2)).map (Value.int .i64 ·) ++ [.int .i64 (-1)]) ∧ Below w.heap.size w wr) (fun i _ => k - (intOf i).toNat)
  case atStart => exact ⟨0, Nat.zero_le _, rfl, HR0.out, HR1.out, HOW.out, HB7.out⟩
  case round =>
    clear HR0 HR1 HOW HB7
    obtain ⟨wo, rfl⟩ : ∃ wo : World, wo = wr := ⟨_, rfl⟩
    obtain ⟨j, hj, rfl, r0, r1, ro, hb⟩ := hrel
    have HB := Lib.hid hb
    have H0 := Lib.hid r0
    have H1 := Lib.hid r1
    have HR := Lib.hid ro
    clear r0 r1 ro hb
    by_cases hlt : j < k
    · as_aux_lemma =>
      have c0 := cell_of_row wo O 0 _ _ _ H0.out
      have c1 := cell_of_row wo K 0 _ _ _ H1.out
      have c2 := own_atD HR.out (Nat.succ_pos k) j (.int .i64 ((k : Int) - 1 - (j : Int))) (by
        rw [List.getElem?_append_left (by simp [boxD_len]; omega), List.getElem?_map, boxD_get T k j hlt]; rfl)
      simp only [List.getElem?_toArray, List.getElem?_cons_zero] at c0 c1
      have e1 : (j : Int) < (k : Int) := by omega
      have e2 : (0 : Int) ≤ (j : Int) := by omega
      have e3 : (j : Int) < ((k + 1 : Nat) : Int) := by omega
      have e3' : (j : Int) < (k : Int) + 1 := by omega
      have w1' : wrap64 ((k : Int) - 1) = (k : Int) - 1 := IntWalk.wrap64_in _ (by omega)
      have w2' : wrap64 ((k : Int) - 1 - (j : Int)) = (k : Int) - 1 - (j : Int) := IntWalk.wrap64_in _ (by omega)
      have nn : (((k : Int) - 1 - (j : Int)) != ((k : Int) - 1 - (j : Int))) = false := by simp
      go_wp2_with (fail)
      go_quiet (fail)
      have HB8 := Lib.hid (drawN_below HB.out nq)
      clear c0 c1 c2 w1' w2' nn e3 e3'
      go_wp2_with (fail)
      exact ⟨⟨j + 1, by omega, by go_num, H0.out, H1.out, own_ch HR.out (Ch.of_below (S := fun _ => False) (drawN_below (Below.refl wo.heap.size wo) nq)) (fun _ _ h => h), HB8.out⟩, by simp [intOf]; omega⟩
    · as_aux_lemma =>
      obtain rfl : j = k := by omega
      have HB' := HB
      go_wp2_with (fail)
      go_ret
      exact ⟨rfl, HB'.out⟩
end Go.Proofs.Ytikobhbknnlgbaa
