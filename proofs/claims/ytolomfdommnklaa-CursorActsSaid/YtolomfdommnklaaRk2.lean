/- The document's disk: a file taken out, walked. -/
import Derived.Test.YtolomfdommnklaaRk1
import Derived.Maps.AppendAt
namespace Go.Proofs.Ytolomfdommnklaa
open Go.RowKit Go.MapKept

def SrcR (w : World) (A : Option Addr) (m : Nat) (L : Fs) (P : List Value) : Prop := L.length = m ∧ P.length = m ∧ (0 < m → ∃ b o, A = some ⟨b, o, none⟩ ∧ ∀ i x p, L[i]? = some x → P[i]? = some p → ∀ j, j < 3 → w.cell? ⟨b, o + i * 3 + j, none⟩ = (rfC x p)[j]?)
theorem SrcR.below {w w' : World} {A : Option Addr} {m : Nat} {L : Fs} {P : List Value} (h : SrcR w A m L P) (hb : Below w.heap.size w w') : SrcR w' A m L P :=
  ⟨h.1, h.2.1, fun hm => by
    obtain ⟨b, o, e, hc⟩ := h.2.2 hm
    refine ⟨b, o, e, fun i x p h1 h2 j hj => ?_⟩
    have h3 := hc i x p h1 h2 j hj
    have h4 : ((rfC x p)[j]?).isSome = true := by
      rw [List.getElem?_eq_getElem (by simpa [rfC] using hj)]; rfl
    rw [← h3] at h4
    obtain ⟨u, hu⟩ := Option.isSome_iff_exists.1 h4
    rw [← h3, hu]
    exact (hb.cell (p := ⟨b, o + i * 3 + j, none⟩) (World.block_lt_of_cell? w _ hu)).trans hu⟩
theorem rfsC_one {L : Fs} {P : List Value} (h : ∀ p ∈ P, ∃ A m c, p = .slice A m c) : ∀ u ∈ rfsC L P, u.oneCell' = true := by
  induction L generalizing P with
  | nil => intro u hu; simp [rfsC] at hu
  | cons x L ih =>
    cases P with
    | nil => intro u hu; simp [rfsC] at hu
    | cons p P =>
      intro u hu
      simp only [rfsC] at hu
      rcases List.mem_append.1 hu with hu | hu
      · obtain ⟨A, m, c, h1⟩ := h p (by simp)
        simp only [rfC, List.mem_cons, List.not_mem_nil, or_false, h1] at hu
        rcases hu with rfl | rfl | rfl <;> rfl
      · exact ih (fun q hq => h q (List.mem_cons_of_mem _ hq)) u hu
set_option maxRecDepth 100000 in
/-- 'append(s, m...)' of files, m nil, empty or not -/
theorem run_appRs {w : World} (base : Nat) (t ty : TypeId) (ht : Try.prog.underlying t = some (.slice TRF)) (v : Value) (n : Nat) (xs : List Value) (hown : w.ownsRow base TRF 3 v n xs) (A : Option Addr) (m c : Nat) (L : Fs) (P : List Value)
    (hs : SrcR w A m L P) (hp : ∀ p ∈ P, ∃ A m c, p = .slice A m c) (hn : n + m ≤ 1000000000) (hbase : base ≤ w.heap.size) :
    ∃ v' w', (Builtin.append_ #[t, t] ty #[v, .slice A m c]).run Try.prog w = .ok v' w' ∧ w'.ownsRow base TRF 3 v' (n + m) (xs ++ rfsC L P) ∧ Below base w w' := by
  obtain ⟨i, hi, hzz⟩ := Option.map_eq_some_iff.1 rfInfo
  simp only [Prod.mk.injEq] at hzz
  obtain ⟨hz, hsz, hby⟩ := hzz
  rcases A with _ | a
  · have hm : m = 0 := by
      rcases Nat.eq_zero_or_pos m with h | h
      · exact h
      · obtain ⟨b, o, e, _⟩ := hs.2.2 h
        cases e
    subst hm
    have hl : L = [] := List.length_eq_zero_iff.1 hs.1
    subst hl
    refine ⟨v, w, ?_, by simpa [rfsC] using hown, Below.refl _ _⟩
    rcases hown.2 with ⟨rfl, _⟩ | ⟨g, cap, cur, rfl, _, _, hnc, _⟩
    · simp [Builtin.append_, run_underlying ht, sizeOf, typeInfo, hi, Builtin.lenOf, Builtin.firstCells]
    · simp [Builtin.append_, run_underlying ht, sizeOf, typeInfo, hi, Builtin.lenOf, Builtin.firstCells, hnc, storeCells]
  · have hlen := rfsC_len (L := L) (P := P) (by rw [hs.2.1, hs.1])
    have h2 : (n + m) * 48 ≤ 1000000000 * 48 := Nat.mul_le_mul_right 48 hn
    obtain ⟨v', w', hrun, h2, h3, _, _⟩ := run_append_own_at (P := Try.prog) w base t ty TRF i (.agg #[.string ⟨#[]⟩, .slice none 0 0, .int .i64 0]) 3 48 ht hi hz hsz hby rfl (by omega) v n xs hown a m c (rfsC L P) (by rw [hlen, hs.1])
      (fun j u hu => by
        have hj : j < L.length * 3 := by rw [← hlen]; exact (List.getElem?_eq_some_iff.1 hu).1
        have hm : 0 < m := by have := hs.1; omega
        obtain ⟨b, o, e, hc⟩ := hs.2.2 hm
        injection e with e
        subst e
        rw [Addr.add_lit]
        have hjl : j / 3 < L.length := by omega
        have hjp : j / 3 < P.length := by rw [hs.2.1, ← hs.1]; exact hjl
        have h1 := hc (j / 3) _ _ (List.getElem?_eq_getElem hjl) (List.getElem?_eq_getElem hjp) (j % 3) (by omega)
        have h2 := rfsC_at (List.getElem?_eq_getElem hjl) (List.getElem?_eq_getElem hjp) (j % 3) (by omega)
        rw [show j / 3 * 3 + j % 3 = j from by omega, hu] at h2
        rw [← h2, show o + j / 3 * 3 + j % 3 = o + j from by omega] at h1
        exact h1) (rfsC_one hp) (by simp only [maxLen]; omega) (by omega) hbase
    exact ⟨v', w', hrun, h2, (Below.refl _ _).grown h3 hbase fun k hk => (World.ownsRow.lt hown k hk).1⟩
theorem step_appRs {ops : Array Oper} {o : Oper} {a : Act} {w : World} {K : Act → World → Prop} {Q : Exit → Act → World → Prop} {Z : Prop} (hgd : o.guard = none) (s x : Operand) (t : TypeId)
    (ho : o.op = .call { callee := .builtin .append, args := #[s, x], argTypes := #[t, t] }) (base : Nat) (ht : Try.prog.underlying t = some (.slice TRF)) (v : Value) (n : Nat) (xs : List Value) (hs : a.eval s = v) (hown : w.ownsRow base TRF 3 v n xs)
    (A : Option Addr) (m c : Nat) (L : Fs) (P : List Value) (hx : a.eval x = .slice A m c) (hS : SrcR w A m L P) (hp : ∀ p ∈ P, ∃ A m c, p = .slice A m c) (hn : n + m ≤ 1000000000) (hbase : base ≤ w.heap.size)
    (h : ∀ v' w', w'.ownsRow base TRF 3 v' (n + m) (xs ++ rfsC L P) → Below base w w' → K (a.put o.dst v') w') :
    if Region.wanted o (yielded ops a.tmps) = true then Oper.wp Try.prog o a w K Q else Z := by
  have hw : Region.wanted o (yielded ops a.tmps) = true := by simp [Region.wanted, hgd]
  rw [if_pos hw]
  obtain ⟨v', w', hrun, h2, h3⟩ := run_appRs base t o.type ht v n xs hown A m c L P hS hp hn hbase
  unfold Oper.wp
  simp [execOp, ho, resolve, invoke, builtin, hs, hx, hrun, Result.andThen]
  exact h v' w' h2 h3
theorem own_litR (w : World) : (w.alloc (.cells #[] TRF)).ownsRow w.heap.size TRF 3 (.slice (some ⟨w.heap.size, 0, none⟩) 0 0) 0 [] :=
  ⟨rfl, .inr ⟨w.heap.size, 0, #[], rfl, Nat.le_refl _, heap_alloc_new w _, Nat.le_refl _, by simp [maxLen], rfl, rfl⟩⟩
theorem own3_form {w : World} {B n s : Nat} {e : TypeId} {v : Value} {xs : List Value} (h : w.ownsRow B e s v n xs) : ∃ A c, v = .slice A n c := by
  rcases h.2 with ⟨rfl, rfl⟩ | ⟨g, cap, cur, rfl, _⟩
  · exact ⟨_, _, rfl⟩
  · exact ⟨_, _, rfl⟩
theorem sliceR_h (A : Option Addr) (n c i : Nat) (h : i ≤ c) (W : World) : ∃ A1, (A1 = A) ∧ (Instr.sliceAt TRL (.slice A n c) none (some (.int .i64 (i : Int))) none).run Try.prog W = .ok (.slice A1 i c) W := by
  have he : Try.prog.elem TRL = TRF := by kernel_rfl
  have hu : Try.prog.underlying TRL = some (.slice (Try.prog.elem TRL)) := by rw [he]; exact Try.underlying40
  refine ⟨A, rfl, ?_⟩
  rw [run_sliceAt_slice (h := hu), run_slice_h (ht := hu) (h0 := by omega) (h2 := by omega), he]
  rcases A with _ | a
  · simp [go_sem, sliced, Result.andThen]
  · simp [go_sem, sliced, Result.andThen, Addr.add]
theorem sliceR_l (g n c i : Nat) (h : i ≤ n) (hc : n ≤ c) : ∃ A1, (i < n → A1 = some ⟨g, i * 3, none⟩) ∧ ∀ W, (Instr.sliceAt TRL (.slice (some ⟨g, 0, none⟩) n c) (some (.int .i64 (i : Int))) none none).run Try.prog W = .ok (.slice A1 (n - i) (c - i)) W := by
  have he : Try.prog.elem TRL = TRF := by kernel_rfl
  have hu : Try.prog.underlying TRL = some (.slice (Try.prog.elem TRL)) := by rw [he]; exact Try.underlying40
  by_cases hic : i = c
  · subst hic
    refine ⟨some ⟨g, 0, none⟩, fun h => by omega, fun W => ?_⟩
    rw [run_sliceAt_slice (h := hu), run_slice_l (ht := hu) (h0 := by omega) (h1 := by omega), he]
    simp [go_sem, sliced, Result.andThen]
  · refine ⟨some ⟨g, i * 3, none⟩, fun _ => rfl, fun W => ?_⟩
    rw [run_sliceAt_slice (h := hu), run_slice_l (ht := hu) (h0 := by omega) (h1 := by omega), he]
    simp [go_sem, sliced, Result.andThen, Addr.add]
    rw [if_neg (fun e => hic e.symm)]
    split
    · rename_i h0; rw [h0]
    · rfl

set_option maxHeartbeats 16000000 in
set_option maxRecDepth 100000 in
theorem rkTake {w : World} {B G : Nat} {E : Nat → Prop} {r : Rk} {A0 Q0 : Fs} {e : ByteArray × Fl} {v : Value} {P : List Value} (h : RkAt w B G E r (A0 ++ e :: Q0) v P) (i : Nat) (hi : i = A0.length) (hl : (A0 ++ e :: Q0).length ≤ 1000000) (hBw : B ≤ w.heap.size) (hE : ∀ k, E k → k < w.heap.size) :
    Calls Try.prog 72 #[pR G, .int .i64 (i : Int)] w fun x w' => ∃ A5 m5 c5 v' P', x = .returned (rfV e (.slice A5 m5 c5)) ∧ DvX (fun k => RF G v' k ∨ E k) w' (.slice A5 m5 c5) e.2.bs ∧ RkAt w' B G E r (A0 ++ Q0) v' P' ∧ Ch (RF G v) w w' ∧ (∀ k, v'.ownBlock = some k → w.heap.size ≤ k) := by
  obtain ⟨A, c, rfl, hc1, hc2⟩ := h.form
  obtain ⟨g, rfl, _, hx⟩ := h.at_ (by simp only [List.length_append, List.length_cons]; omega)
  obtain ⟨n, hn⟩ : ∃ n, n = (A0 ++ e :: Q0).length := ⟨_, rfl⟩
  have hnl : n = i + 1 + Q0.length := by rw [hn, hi]; simp; omega
  have hei : (A0 ++ e :: Q0)[i]? = some e := by rw [hi, List.getElem?_append_right (Nat.le_refl _), Nat.sub_self]; rfl
  obtain ⟨d, hd, x0, x1, x2⟩ := hx i e hei
  obtain ⟨A5, m5, c5, rfl, hB5, hx5⟩ := h.dat i e d hei hd
  have H := Lib.hid h
  have HL := Lib.hid hl
  have HE := Lib.hid hE
  have HBW := Lib.hid hBw
  have HDV : Hid (DvX (fun k => RF G (.slice (some ⟨g, 0, none⟩) n c) k ∨ E k) w (.slice A5 m5 c5) e.2.bs) := Lib.hid (by rw [hn]; exact ⟨A5, m5, c5, rfl, hB5, hx5⟩)
  have HN := Lib.hid hn
  have HNL := Lib.hid hnl
  have c0 : w.cell? ⟨G, 0, none⟩ = some (.slice (some ⟨g, 0, none⟩) (A0 ++ e :: Q0).length c) := h.cell 0
  rw [← hn] at c0 hc1 hl
  have hnc : (n : Int) ≤ (c : Int) := by omega
  have hin : (i : Int) < (n : Int) := by omega
  have hcn : c ≤ 9223372036854775807 := hc2
  obtain ⟨w2, hw2⟩ : ∃ w2, w2 = (w.alloc (.cells #[.string ⟨#[]⟩, .slice none 0 0, .int .i64 0] TRF)) := ⟨_, rfl⟩
  have hb2 : Below w.heap.size w (w.alloc (.cells #[.string ⟨#[]⟩, .slice none 0 0, .int .i64 0] TRF)) := (Below.refl _ w).alloc (Nat.le_refl _) _
  have y0 := (hb2.cell (p := ⟨g, i * 3, none⟩) (World.block_lt_of_cell? w _ x0)).trans x0
  have y1 := (hb2.cell (p := ⟨g, i * 3 + 1, none⟩) (World.block_lt_of_cell? w _ x1)).trans x1
  have y2 := (hb2.cell (p := ⟨g, i * 3 + 2, none⟩) (World.block_lt_of_cell? w _ x2)).trans x2
  have yc := (hb2.cell (p := ⟨G, 0, none⟩) h.lt).trans c0
  have hb3 : Below w.heap.size w ((w.alloc (.cells #[.string ⟨#[]⟩, .slice none 0 0, .int .i64 0] TRF)).alloc (.cells #[.string e.1, .slice A5 m5 c5, .int .i64 (e.2.safe : Int)] TRF)) := hb2.alloc hb2.size _
  have HB3 := Lib.hid hb3
  have HZ2 : Hid (((w.alloc (.cells #[.string ⟨#[]⟩, .slice none 0 0, .int .i64 0] TRF)).alloc (.cells #[.string e.1, .slice A5 m5 c5, .int .i64 (e.2.safe : Int)] TRF)).heap[w.heap.size]? = some (.cells #[.string ⟨#[]⟩, .slice none 0 0, .int .i64 0] TRF)) := Lib.hid ((((Below.refl _ (w.alloc (.cells #[.string ⟨#[]⟩, .slice none 0 0, .int .i64 0] TRF))).alloc (Nat.le_refl _) _).block _ (by rw [World.size_alloc]; omega)).trans (heap_alloc_new w _))
  have HZ3 : Hid (((w.alloc (.cells #[.string ⟨#[]⟩, .slice none 0 0, .int .i64 0] TRF)).alloc (.cells #[.string e.1, .slice A5 m5 c5, .int .i64 (e.2.safe : Int)] TRF)).heap[w.heap.size + 1]? = some (.cells #[.string e.1, .slice A5 m5 c5, .int .i64 (e.2.safe : Int)] TRF)) := Lib.hid (by
    have := heap_alloc_new (w.alloc (.cells #[.string ⟨#[]⟩, .slice none 0 0, .int .i64 0] TRF)) (.cells #[.string e.1, .slice A5 m5 c5, .int .i64 (e.2.safe : Int)] TRF)
    rwa [World.size_alloc] at this)
  have HX := Lib.hid hx
  have HI := Lib.hid hi
  clear h hl hE hBw hB5 hx5 hd hei hx hb2 hb3 hn hnl hi hw2 x0 x1 x2 c0
  go_enter Try.func72, Try.ntmps72
  go_wp2_with (fail)
  obtain ⟨R0, hR0⟩ : ∃ R0, R0 = w.heap.size := ⟨_, rfl⟩
  have HR0 := Lib.hid hR0
  rw [← hR0] at HZ2 HZ3 ⊢
  clear y0 y1 y2 yc hR0
  generalize (w.alloc (.cells #[.string ⟨#[]⟩, .slice none 0 0, .int .i64 0] TRF)).alloc (.cells #[.string e.1, .slice A5 m5 c5, .int .i64 (e.2.safe : Int)] TRF) = w3 at *
  have HK3 := Lib.hid (H.out.below HB3.out)
  obtain ⟨q, hq⟩ : ∃ q, q = i + 1 := ⟨_, rfl⟩
  have HQQ := Lib.hid hq
  have hw : IntKind.i64.wrap ((i : Int) + 1) = (q : Int) := by rw [hq]; push_cast; exact IntWalk.i64_in _ (by have := HL.out; have := HN.out; omega)
  have sl1 : ∀ W, (Instr.sliceAt TRL (.slice (some ⟨g, 0, none⟩) n c) none (some (.int .i64 (i : Int))) none).run Try.prog W = .ok (.slice (some ⟨g, 0, none⟩) i c) W := fun W => by
    obtain ⟨A1, rfl, h⟩ := sliceR_h (some ⟨g, 0, none⟩) n c i (by omega) W
    exact h
  obtain ⟨A9, hA9, sl2⟩ := sliceR_l g n c q (by omega) hc1
  have HA9 := Lib.hid hA9
  have HPL : Hid (P.length = n) := Lib.hid (by rw [H.out.len, ← HN.out])
  have HDS : Hid (∀ p ∈ P, ∃ A m c, p = .slice A m c) := Lib.hid (fun p hp => by
    obtain ⟨j, hj, hjp⟩ := List.mem_iff_getElem.1 hp
    have hjl : j < (A0 ++ e :: Q0).length := by rw [← H.out.len]; exact hj
    obtain ⟨A', m', c', e', _⟩ := H.out.dat j _ p (List.getElem?_eq_getElem hjl) (by rw [List.getElem?_eq_getElem hj, hjp])
    exact ⟨A', m', c', e'⟩)
  have HCL : Hid (∀ W, Below w.heap.size w W → ∀ j x p, (A0 ++ e :: Q0)[j]? = some x → P[j]? = some p → ∀ k, k < 3 → W.cell? ⟨g, j * 3 + k, none⟩ = (rfC x p)[k]?) := Lib.hid (fun W hW j x p hx hp k hk => by
    have h1 := (H.out.below hW).own.cellAt (j * 3 + k) (by have := (List.getElem?_eq_some_iff.1 hx).1; omega)
    rw [rfsC_at hx hp k hk] at h1
    exact h1)
  have HSR1 : Hid (∀ W, Below w.heap.size w W → SrcR W (some ⟨g, 0, none⟩) i A0 (P.take i)) := Lib.hid (fun W hW => ⟨HI.out.symm, by rw [List.length_take, HPL.out]; omega, fun _ => ⟨g, 0, rfl, fun j x p hx hp k hk => by
    have hj : j < A0.length := (List.getElem?_eq_some_iff.1 hx).1
    rw [List.getElem?_take, if_pos (by have := HI.out; omega)] at hp
    rw [Nat.zero_add]
    exact HCL.out W hW j x p (by rw [List.getElem?_append_left hj]; exact hx) hp k hk⟩⟩)
  have HSR2 : Hid (∀ W, Below w.heap.size w W → SrcR W A9 (n - q) Q0 (P.drop q)) := Lib.hid (fun W hW => ⟨by have := HNL.out; have := HQQ.out; omega, by rw [List.length_drop, HPL.out], fun h0 => ⟨g, q * 3, HA9.out (by omega), fun j x p hx hp k hk => by
    rw [List.getElem?_drop] at hp
    have h1 := HCL.out W hW (q + j) x p (by
      have := HI.out
      have := HQQ.out
      rw [List.getElem?_append_right (by omega), show q + j - A0.length = j + 1 from by omega, List.getElem?_cons_succ]
      exact hx) hp k hk
    rw [show q * 3 + j * 3 + k = (q + j) * 3 + k from by omega]
    exact h1⟩⟩)
  have c0 : w3.cell? ⟨G, 0, none⟩ = some (.slice (some ⟨g, 0, none⟩) n c) := by have := HK3.out.cell 0; rw [← HN.out] at this; exact this
  have HB4 : Hid (Below w.heap.size w (w3.alloc (.cells #[] TRF)).drew) := Lib.hid (HB3.out.alloc HB3.out.size _).drew
  have c0' : (w3.alloc (.cells #[] TRF)).cell? ⟨G, 0, none⟩ = some (.slice (some ⟨g, 0, none⟩) n c) := by have := (H.out.below HB4.out).cell 0; rw [← HN.out] at this; exact this
  have HLIT : Hid ((w3.alloc (.cells #[] TRF)).drew.ownsRow w3.heap.size TRF 3 (.slice (some ⟨w3.heap.size, 0, none⟩) 0 0) 0 []) := Lib.hid (own3_ch (S := fun _ => False) (own_litR w3) (Ch.refl _ _).drew (fun _ _ h => h))
  obtain ⟨N6, hN6⟩ : ∃ N6, N6 = 0 + i + (n - q) := ⟨_, rfl⟩
  have HN6 := Lib.hid hN6
  clear hN6
  have tok1 : Hid True := Lib.hid trivial
  have tok2 : Hid True := Lib.hid trivial
  have HNN : Hid (n ≤ 1000000) := Lib.hid (by rw [HN.out]; exact HL.out)
  have HGL : Hid (G < w3.heap.size) := Lib.hid HK3.out.lt
  clear hq hA9
  go_region_law (first
    | (have _t := tok1; refine step_appRs rfl (.tmp 14) (.tmp 20) TRL rfl w3.heap.size Try.underlying40 _ 0 [] rfl HLIT.out (some ⟨g, 0, none⟩) i c A0 (P.take i) rfl (HSR1.out _ HB4.out) (fun p hp => HDS.out p (List.mem_of_mem_take hp)) (by have := HNN.out; omega) (by simp) ?_; intro v5 w5 ho5 hb5; have HO5 := Lib.hid ho5; have HB5 := Lib.hid (hb5 : Below w3.heap.size (w3.alloc (.cells #[] TRF)).drew w5); have HB5W := Lib.hid (HB4.out.trans (HB5.out.mono HB3.out.size)); have s5 : w5.cell? ⟨G, 0, none⟩ = some (.slice (some ⟨g, 0, none⟩) n c) := (by have := (H.out.below HB5W.out).cell 0; rw [← HN.out] at this; exact this); clear tok1 _t ho5 hb5)
    | (have _t := tok2; refine step_appRs rfl (.tmp 21) (.tmp 28) TRL rfl w3.heap.size Try.underlying40 v5 (0 + i) _ rfl HO5.out A9 (n - q) (c - q) Q0 (P.drop q) rfl (HSR2.out _ HB5W.out) (fun p hp => HDS.out p (List.mem_of_mem_drop hp)) (by have := HNN.out; omega) (by have h1 := HB5.out.size; simp at h1; omega) ?_; intro v6 w6 ho6 hb6; rw [← HN6.out] at ho6; obtain ⟨A6, c6, rfl⟩ := own3_form ho6; have HO6 := Lib.hid ho6; have HB6W := Lib.hid (HB5W.out.trans (hb6.mono HB3.out.size)); have HB36 : Hid (Below w3.heap.size w3 w6) := Lib.hid (((((Below.refl _ w3).alloc (Nat.le_refl _) (.cells #[] TRF)).drew).trans HB5.out).trans hb6); have s6 : w6.cell? ⟨G, 0, none⟩ = some (.slice (some ⟨g, 0, none⟩) n c) := (by have := (H.out.below HB6W.out).cell 0; rw [← HN.out] at this; exact this); have t6 : w6.frozen? ⟨G, 0, none⟩ = false := (H.out.below HB6W.out).frozen 0; clear tok2 _t ho6 hb6))
  all_goals
    obtain ⟨v6, hv6⟩ : ∃ v6 : Value, v6 = .slice A6 N6 c6 := ⟨_, rfl⟩
    have HV6 := Lib.hid hv6
    have HK6 := Lib.hid (H.out.below HB6W.out)
    have HVL : Hid (∀ k, v6.ownBlock = some k → w.heap.size ≤ k) := Lib.hid (fun k hk => by rw [hv6] at hk; have h1 := (World.ownsRow.lt HO6.out k hk).1; have h2 := HB3.out.size; omega)
    have HVG : Hid (∀ k, v6.ownBlock = some k → ¬ (k = G)) := Lib.hid (fun k hk e => by have h1 := HVL.out k hk; have h2 := H.out.lt; omega)
    have HR7 : Hid ((w6.setCell ⟨G, 0, none⟩ v6).heap[G]? = some (rkObj v6 r)) := Lib.hid (heap_set_row HK6.out.row _)
    have HO7 : Hid ((w6.setCell ⟨G, 0, none⟩ v6).ownsRow w3.heap.size TRF 3 v6 N6 (rfsC (A0 ++ Q0) (P.take i ++ P.drop q))) := Lib.hid (by
      rw [rfsC_app _ _ (by rw [List.length_take, HPL.out, ← HI.out]; omega)]
      exact own3_ch (S := At1 G) (by rw [hv6]; simpa using HO6.out) ((Ch.refl _ _).set1 0 _) (fun k hk => HVG.out k hk))
    have HS7 : Hid (Ch (fun k => RF G (.slice (some ⟨g, 0, none⟩) n c) k ∨ w.heap.size ≤ k) w (w6.setCell ⟨G, 0, none⟩ v6)) := Lib.hid ((Ch.of_below HB6W.out).set (a := ⟨G, 0, none⟩) (.inl (.inl rfl)) _)
    have HZ2' : Hid ((w6.setCell ⟨G, 0, none⟩ v6).heap[R0]? = some (.cells #[.string ⟨#[]⟩, .slice none 0 0, .int .i64 0] TRF)) := Lib.hid (by
      have h1 : Below w3.heap.size w3 w6 := HB36.out
      exact ((Ch.refl (At1 G) w6).set1 0 v6).row ((h1.block _ (Array.getElem?_eq_some_iff.1 HZ2.out).1).trans HZ2.out) (fun h => by have h2 := H.out.lt; have h3 := HR0.out; omega))
    have HZ3' : Hid ((w6.setCell ⟨G, 0, none⟩ v6).heap[R0 + 1]? = some (.cells #[.string e.1, .slice A5 m5 c5, .int .i64 (e.2.safe : Int)] TRF)) := Lib.hid (by
      have h1 : Below w3.heap.size w3 w6 := HB36.out
      exact ((Ch.refl (At1 G) w6).set1 0 v6).row ((h1.block _ (Array.getElem?_eq_some_iff.1 HZ3.out).1).trans HZ3.out) (fun h => by have h2 := H.out.lt; have h3 := HR0.out; omega))
    clear c0 c0' s5 s6 t6
    rw [← hv6]
    clear hv6 sl1 sl2
    generalize w6.setCell ⟨G, 0, none⟩ v6 = w7 at *
    have z0 := cell_of_row _ (R0 + 1) 0 _ _ _ HZ3'.out
    have z1 := cell_of_row _ (R0 + 1) 1 _ _ _ HZ3'.out
    have z2 := cell_of_row _ (R0 + 1) 2 _ _ _ HZ3'.out
    have u0 := cell_of_row _ R0 0 _ _ _ HZ2'.out
    have u1 := cell_of_row _ R0 1 _ _ _ HZ2'.out
    have u2 := cell_of_row _ R0 2 _ _ _ HZ2'.out
    simp only [List.getElem?_toArray, List.getElem?_cons_zero, List.getElem?_cons_succ] at z0 z1 z2 u0 u1 u2
    have f0 := frz (j := 0) HZ2'.out
    have f1 := frz (j := 1) HZ2'.out
    have f2 := frz (j := 2) HZ2'.out
    have HLN6 : Hid ((A0 ++ Q0).length = N6) := Lib.hid (by rw [HN6.out, List.length_append]; have := HNL.out; have := HI.out; have := HQQ.out; omega)
    have HS8 : Hid (Ch (RF G (.slice (some ⟨g, 0, none⟩) n c)) w (((w7.setCell ⟨R0, 0, none⟩ (.string e.1)).setCell ⟨R0, 1, none⟩ (.slice A5 m5 c5)).setCell ⟨R0, 2, none⟩ (.int .i64 (e.2.safe : Int)))) := Lib.hid ((((HS7.out.set (a := ⟨R0, 0, none⟩) (.inr (Nat.le_of_eq HR0.out.symm)) _).set (a := ⟨R0, 1, none⟩) (.inr (Nat.le_of_eq HR0.out.symm)) _).set (a := ⟨R0, 2, none⟩) (.inr (Nat.le_of_eq HR0.out.symm)) _).trim)
    have HC78 : Hid (Ch (At1 R0) w7 (((w7.setCell ⟨R0, 0, none⟩ (.string e.1)).setCell ⟨R0, 1, none⟩ (.slice A5 m5 c5)).setCell ⟨R0, 2, none⟩ (.int .i64 (e.2.safe : Int)))) := Lib.hid ((((Ch.refl _ w7).set1 0 _).set1 1 _).set1 2 _)
    have HRES : Hid ((((w7.setCell ⟨R0, 0, none⟩ (.string e.1)).setCell ⟨R0, 1, none⟩ (.slice A5 m5 c5)).setCell ⟨R0, 2, none⟩ (.int .i64 (e.2.safe : Int))).heap[R0]? = some (.cells #[.string e.1, .slice A5 m5 c5, .int .i64 (e.2.safe : Int)] TRF)) := Lib.hid (heap_set_row (heap_set_row (heap_set_row HZ2'.out _) _) _)
    have HY : Hid (∀ b, b < w.heap.size → (RF G v6 b ∨ E b) → (RF G (.slice (some ⟨g, 0, none⟩) n c) b ∨ E b)) := Lib.hid (by
      rintro b hb ((rfl | h) | h)
      · exact .inl (.inl rfl)
      · have := HVL.out b h; omega
      · exact .inr h)
    have HFIN : Hid (RkAt (((w7.setCell ⟨R0, 0, none⟩ (.string e.1)).setCell ⟨R0, 1, none⟩ (.slice A5 m5 c5)).setCell ⟨R0, 2, none⟩ (.int .i64 (e.2.safe : Int))) B G E r (A0 ++ Q0) v6 (P.take i ++ P.drop q)) := Lib.hid (by
      refine ⟨H.out.hG, HC78.out.row HR7.out (fun h => by have h1 := H.out.lt; have h2 := HR0.out; omega), ?_, ?_, ?_⟩
      · rw [HLN6.out, HN6.out, List.length_append, List.length_take, List.length_drop, HPL.out]; omega
      · rw [HLN6.out]
        have h1 := own3_ch HO7.out HC78.out (fun k hk h => by
          have h2 := (World.ownsRow.lt HO7.out k hk).1
          have h3 := (Array.getElem?_eq_some_iff.1 HZ2.out).1
          have h4 : k = R0 := h
          omega)
        refine ⟨h1.1, h1.2.imp id ?_⟩
        rintro ⟨g', cap', cur', k1, k2, k3⟩
        exact ⟨g', cap', cur', k1, by have h2 := HBW.out; have h3 := HB3.out.size; omega, k3⟩
      · intro j x d hx hd
        have key : ∀ m, (A0 ++ e :: Q0)[m]? = some x → P[m]? = some d → DvX (fun k => RF G v6 k ∨ E k) (((w7.setCell ⟨R0, 0, none⟩ (.string e.1)).setCell ⟨R0, 1, none⟩ (.slice A5 m5 c5)).setCell ⟨R0, 2, none⟩ (.int .i64 (e.2.safe : Int))) d x.2.bs := fun m h1 h2 => by
          have h3 := H.out.dat m x d h1 h2
          rw [← HN.out] at h3
          exact h3.ch (HS8.out.wide (fun k hk => .inl hk)) HY.out
        have hI := HI.out
        have hQ := HQQ.out
        by_cases hj : j < A0.length
        · rw [List.getElem?_append_left hj] at hx
          rw [List.getElem?_append_left (by rw [List.length_take, HPL.out]; omega), List.getElem?_take, if_pos (by omega)] at hd
          exact key j (by rw [List.getElem?_append_left hj]; exact hx) hd
        · rw [List.getElem?_append_right (by omega)] at hx
          rw [List.getElem?_append_right (by rw [List.length_take, HPL.out]; omega), List.length_take, HPL.out, List.getElem?_drop, show min i n = i from by omega] at hd
          exact key (j + 1) (by rw [List.getElem?_append_right (by omega), show j + 1 - A0.length = (j - A0.length) + 1 from by omega, List.getElem?_cons_succ]; exact hx) (by rw [show j + 1 = q + (j - i) from by omega]; exact hd))
    have HDF : Hid (DvX (fun k => RF G v6 k ∨ E k) (((w7.setCell ⟨R0, 0, none⟩ (.string e.1)).setCell ⟨R0, 1, none⟩ (.slice A5 m5 c5)).setCell ⟨R0, 2, none⟩ (.int .i64 (e.2.safe : Int))) (.slice A5 m5 c5) e.2.bs) := Lib.hid (HDV.out.ch (HS8.out.wide (fun k hk => .inl hk)) HY.out)
    go_wp2_with (fail)
    rw [← HN.out]
    refine bodyPost_ret (v := rfV e (.slice A5 m5 c5)) ?_ rfl ⟨A5, m5, c5, v6, _, rfl, HDF.out, HFIN.out, HS8.out, HVL.out⟩
    exact results_cell_row Try.results72 _ _ R0 TRF _ _ _ (by kernel_rfl) HRES.out Try.underlying60 rfl (by kernel_rfl)
end Go.Proofs.Ytolomfdommnklaa
