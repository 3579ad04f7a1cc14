/- DeframePieces, walked. -/
import Derived.Test.YtbbamdcdpololaaDfAlive
namespace Go.Proofs.Ytbbamdcdpololaa
open Go.RowKit

theorem RowsAt.other {B : Nat} {S S' : Nat → Prop} {w : World} {v : Value} {L : List (List UInt8)} (h : RowsAt B S w v L) (hS : ∀ k, B ≤ k → k < w.heap.size → ¬ S' k) : RowsAt B S' w v L := by
  obtain ⟨gs, hl, ho, _, hg⟩ := h
  refine ⟨gs, hl, ho, fun k hk => hS k (World.ownsRow.lt ho k hk).1 (World.ownsRow.lt ho k hk).2, fun i g x h1 h2 => ?_⟩
  obtain ⟨a, _, d⟩ := hg i g x h1 h2
  exact ⟨a, hS g a (Array.getElem?_eq_some_iff.1 d).1, d⟩
theorem RowsAt.base {B B' : Nat} {S : Nat → Prop} {w : World} {v : Value} {L : List (List UInt8)} (h : RowsAt B S w v L) (hB : B' ≤ B) : RowsAt B' S w v L := by
  obtain ⟨gs, hl, ho, hv, hg⟩ := h
  refine ⟨gs, hl, ⟨ho.1, ?_⟩, hv, fun i g x h1 h2 => ?_⟩
  · rcases ho.2 with hn | ⟨g, cap, cur, e, h1, h2⟩
    · exact .inl hn
    · exact .inr ⟨g, cap, cur, e, Nat.le_trans hB h1, h2⟩
  · obtain ⟨a, b, d⟩ := hg i g x h1 h2
    exact ⟨Nat.le_trans hB a, b, d⟩

theorem RowsAt.ownAt {B : Nat} {S : Nat → Prop} {w : World} {v : Value} {L : List (List UInt8)} (h : RowsAt B S w v L) (k : Nat) (hk : v.ownBlock = some k) : B ≤ k ∧ k < w.heap.size ∧ ¬ S k := by
  obtain ⟨gs, hl, ho, hv, hg⟩ := h
  exact ⟨(World.ownsRow.lt ho k hk).1, (World.ownsRow.lt ho k hk).2, hv k hk⟩

/-- 'append(s, x...)', rows onto a row of rows -/
theorem wpList_appRows {ops : Array Oper} {rest : List Oper} {o : Oper} {a : Act} {Q : Exit → Act → World → Prop} {w : World} (hgd : o.guard = none) (s x : Operand)
    (ho : o.op = .call { callee := .builtin .append, args := #[s, x], argTypes := #[22, 22] }) (B : Nat) (S : Nat → Prop) (v y : Value) (L M : List (List UInt8)) (hs : a.eval s = v) (hx : a.eval x = y) (hL : RowsAt B S w v L) (hM : RowsAt B S w y M) (hSn : ¬ S w.heap.size)
    (hn : L.length + M.length ≤ 1099511627776) (hB : B ≤ w.heap.size)
    (h : ∀ v' w', RowsAt B S w' v' (L ++ M) → Ch (fun k => v.ownBlock = some k) w w' → wpList Try.prog ops Q rest (a.put o.dst v') w') : wpList Try.prog ops Q (o :: rest) a w := by
  obtain ⟨gs, hl, hown, hv, hg⟩ := hL
  obtain ⟨hs', hl', hown', hv', hg'⟩ := hM
  have done : ∀ v' w', w'.ownsRow B 30 1 v' (L.length + M.length) (List.zipWith bv gs L ++ List.zipWith bv hs' M) → w.grownBy w' v.ownBlock → (v'.ownBlock = v.ownBlock ∨ v'.ownBlock = some w.heap.size) → RowsAt B S w' v' (L ++ M) := by
    intro v' w' h1 hgr hfr
    have keep : ∀ (g : Nat) (z : List UInt8), w.heap[g]? = some (.cells (u8s z).toArray 5) → w'.heap[g]? = some (.cells (u8s z).toArray 5) := fun g z hz => by
      rw [hgr.block g (Array.getElem?_eq_some_iff.1 hz).1 (own_ne hown hz (by decide))]
      exact hz
    refine ⟨gs ++ hs', by simp [hl, hl'], ?_, fun k hk => ?_, fun i g z e1 e2 => ?_⟩
    · rw [List.length_append, List.zipWith_append hl]
      exact h1
    · rcases hfr with e | e
      · exact hv k (by rw [← e]; exact hk)
      · rw [e] at hk; injection hk with hk; rw [← hk]; exact hSn
    · by_cases hi : i < L.length
      · rw [List.getElem?_append_left (by rw [hl]; exact hi)] at e1
        rw [List.getElem?_append_left hi] at e2
        obtain ⟨p, q, d⟩ := hg i g z e1 e2
        exact ⟨p, q, keep _ _ d⟩
      · rw [List.getElem?_append_right (by rw [hl]; omega), hl] at e1
        rw [List.getElem?_append_right (by omega)] at e2
        obtain ⟨p, q, d⟩ := hg' _ g z e1 e2
        exact ⟨p, q, keep _ _ d⟩
  rcases hown'.2 with ⟨rfl, h0⟩ | ⟨g, cap, cur, rfl, h1, h2, h3, h4, h5, h6⟩
  · obtain rfl : M = [] := List.eq_nil_of_length_eq_zero h0
    refine wpList_plain hgd fun K hK => ?_
    obtain ⟨i, hi, hzz⟩ := Option.map_eq_some_iff.1 rowsInfo
    simp only [Prod.mk.injEq] at hzz
    have hrun : (Builtin.append_ #[22, 22] o.type #[v, .slice none 0 0]).run Try.prog w = .ok v w := by
      rcases hown.2 with ⟨rfl, _⟩ | ⟨g, cap, cur, rfl, _, _, hnc, _⟩
      · simp [Builtin.append_, run_underlying Try.underlying22, sizeOf, typeInfo, hi, Builtin.lenOf, Builtin.firstCells]
      · simp [Builtin.append_, run_underlying Try.underlying22, sizeOf, typeInfo, hi, Builtin.lenOf, Builtin.firstCells, hnc, storeCells]
    unfold Oper.wp execOp
    simp only [ho, resolve, invoke, builtin, Sem.run_bind, Sem.run_pure, Result.andThen_ok, List.map_toArray, List.map_cons, List.map_nil, hs, hx, hrun]
    exact hK _ _ (h v w (done v w (by simpa using hown) (World.grownBy.refl w _) (.inl rfl)) (Ch.refl _ _))
  · refine wpList_appAt hgd s x 22 ho B 30 (.slice none 0 0) 24 Try.underlying22 rowsInfo rfl (by decide) v L.length (List.zipWith bv gs L) hs hown ⟨g, 0, none⟩ M.length cap (List.zipWith bv hs' M) hx (by rw [List.length_zipWith, hl']; omega)
      (fun j u hu => ?_) (fun u hu => ?_) hn hB (fun v' w' q1 q2 q3 => h v' w' (done v' w' q1 q2 q3) (Ch.of_grown q2 (fun k hk => hk)))
    · rw [Addr.add_lit, Nat.zero_add, cell_of_row w g j cur _ _ h2]
      have hj : j < M.length := by
        have := (List.getElem?_eq_some_iff.1 hu).1
        rw [List.length_zipWith] at this
        omega
      have e : (cur.toList.take (M.length * 1))[j]? = (List.zipWith bv hs' M)[j]? := by rw [h6]
      rw [Nat.mul_one, List.getElem?_take, if_pos hj, hu] at e
      simpa using e
    · obtain ⟨j, hj⟩ := List.getElem?_of_mem hu
      rw [List.getElem?_zipWith] at hj
      cases e1 : hs'[j]? with
      | none => rw [e1] at hj; simp at hj
      | some a1 =>
        cases e2 : M[j]? with
        | none => rw [e1, e2] at hj; simp at hj
        | some a2 =>
          rw [e1, e2] at hj
          simp at hj
          subst hj
          rfl

/-- the slice reads as numbers -/
def Is (w : World) (A : Option Addr) (n c : Nat) (Z : List Int) : Prop :=
  Z.length = n ∧ n ≤ c ∧ c ≤ maxLen ∧ (0 < n → ∃ b o, A = some ⟨b, o, none⟩ ∧ b < w.heap.size ∧ ∀ (i : Nat) (x : Int), Z[i]? = some x → w.cell? ⟨b, o + i, none⟩ = some (.int .i64 x))
theorem Is.below {w w' : World} {A : Option Addr} {n c : Nat} {Z : List Int} (h : Is w A n c Z) (hb : Below w.heap.size w w') : Is w' A n c Z :=
  ⟨h.1, h.2.1, h.2.2.1, fun hn => by
    obtain ⟨b, o, e, hlt, hc⟩ := h.2.2.2 hn
    exact ⟨b, o, e, Nat.lt_of_lt_of_le hlt hb.size, fun i x hx => (hb.cell (p := ⟨b, o + i, none⟩) hlt).trans (hc i x hx)⟩⟩
theorem Is.read {w : World} {A : Option Addr} {n c : Nat} {Z : List Int} (h : Is w A n c Z) {i : Nat} (hi : i < n) : ∃ b o x, A = some ⟨b, o, none⟩ ∧ b < w.heap.size ∧ w.cell? ⟨b, o + i, none⟩ = some (.int .i64 x) := by
  obtain ⟨b, o, e, hlt, hc⟩ := h.2.2.2 (by omega)
  exact ⟨b, o, _, e, hlt, hc i _ (List.getElem?_eq_getElem (by rw [h.1]; exact hi))⟩
theorem Is.nmax {w : World} {A : Option Addr} {n c : Nat} {Z : List Int} (h : Is w A n c Z) : n ≤ 9223372036854775807 := by
  have := h.2.1
  have := h.2.2.1
  simp only [maxLen] at this
  omega
/-- where a number is taken of a row's length and one -/
theorem cut_place (x : Int) (r : Nat) (hr : r ≤ 100000) : ∃ u q : Nat, IntKind.u64.wrap x = (u : Int) ∧ q ≤ r ∧ u % (r + 1) = q := by
  have h2 : 0 ≤ IntKind.u64.wrap x := by simp [IntKind.wrap, IntKind.signed]; omega
  refine ⟨(IntKind.u64.wrap x).toNat, (IntKind.u64.wrap x).toNat % (r + 1), by omega, ?_, rfl⟩
  have := Nat.mod_lt (IntKind.u64.wrap x).toNat (show 0 < r + 1 by omega)
  omega

theorem Ch.mono {S S' : Nat → Prop} {w w' : World} (h : Ch S w w') (hS : ∀ x, S x → S' x) : Ch S' w w' := ⟨h.os, h.tape, h.output, h.size, fun k hk hn => h.block k hk (fun hs => hn (hS k hs))⟩
/-- the two deframers have no block in common -/
def Sep (D : Nat) (O : Option Nat) (F : Nat) (P : Option Nat) : Prop := ¬ dS F P D ∧ ∀ k, O = some k → ¬ dS F P k
theorem Sep.mv {D F : Nat} {O P P' : Option Nat} {w w' : World} (h : Sep D O F P) (hD : D < w.heap.size) (hO : ∀ k, O = some k → k < w.heap.size) (m : Mv F P P' w w') : Sep D O F P' :=
  ⟨fun hs => h.1 (by
    rcases hs with hs | hs
    · exact .inl hs
    · exact .inr (m.2 D hs.symm hD).symm), fun k hk hs => h.2 k hk (by
    rcases hs with hs | hs
    · exact .inl hs
    · exact .inr (m.2 k hs.symm (hO k hk)).symm)⟩

set_option maxHeartbeats 8000000 in
set_option maxRecDepth 100000 in
theorem deframePieces_walk (n : Int) (A : Option Addr) (k c : Nat) (l : List UInt8) (A2 : Option Addr) (k2 c2 : Nat) (Z : List Int) (w : World) (_wf : (Lit.int .i64 n).wf = true) (hB : Bs w A k c l) (_hR : c ≤ 140737488351232) (hI : Is w A2 k2 c2 Z) :
    Calls Try.prog 6 #[.int .i64 n, .slice A k c, .slice A2 k2 c2] w (True_ w) := by
  obtain ⟨m, hm1, hm2, hmost⟩ := dMost n
  have hmax := hB.nmax
  have hmax2 := hI.nmax
  have HBS := Lib.hid hB
  have HI := Lib.hid hI
  have HMO := Lib.hid hmost
  clear _wf hB _hR hmost hI
  go_enter Try.func6, Try.ntmps6
  go_wp2_with (fail)
  refine (alive05 w).mono ?_
  rintro e w0 ⟨rfl, hb⟩
  have HB0 := Lib.hid hb
  clear hb
  by_cases hlong : (2000 : Int) < (k : Int)
  · go_wp2_with (fail)
    refine (alive05 w0).mono ?_
    rintro e w3 ⟨rfl, hb⟩
    have HB3 : Hid (Below w.heap.size w w3) := Lib.hid (HB0.out.trans (hb.mono HB0.out.size))
    clear hb
    go_wp2_with (fail)
    go_ret
    exact ⟨rfl, HB3.out⟩
  by_cases hlong2 : (100 : Int) < (k2 : Int)
  · go_wp2_with (fail)
    refine (alive05 w0).mono ?_
    rintro e w3 ⟨rfl, hb⟩
    have HB3 : Hid (Below w.heap.size w w3) := Lib.hid (HB0.out.trans (hb.mono HB0.out.size))
    clear hb
    go_wp2_with (fail)
    go_ret
    exact ⟨rfl, HB3.out⟩
  have HK : Hid (k ≤ 2000) := Lib.hid (by omega)
  go_wp2_with (fail)
  refine (HMO.out w0).mono ?_
  rintro e w' ⟨rfl, rfl⟩
  go_wp2_with (fail)
  refine (dNew m hm1 (by omega) w0).mono ?_
  rintro e w1 ⟨D, rfl, hd, hb⟩
  have HD1 := Lib.hid hd
  have HB1 := Lib.hid hb
  clear hd hb
  go_wp2_with (fail)
  refine (HMO.out w1).mono ?_
  rintro e w' ⟨rfl, rfl⟩
  go_wp2_with (fail)
  refine (dNew m hm1 (by omega) w1).mono ?_
  rintro e w2 ⟨F, rfl, hd, hb⟩
  have HF2 := Lib.hid hd
  have HD2 := Lib.hid (HD1.out.below hb)
  have HB2 : Hid (Below w.heap.size w w2) := Lib.hid ((HB0.out.trans (HB1.out.mono HB0.out.size)).trans (hb.mono (Nat.le_trans HB0.out.size HB1.out.size)))
  have HW1 : Hid (w0.heap.size ≤ w1.heap.size ∧ w1.heap.size ≤ w2.heap.size) := Lib.hid ⟨HB1.out.size, hb.size⟩
  have HDF : Hid (D < w1.heap.size) := Lib.hid HD1.out.lt
  have HFB : Hid (w1.heap.size ≤ F) := Lib.hid HF2.out.base
  clear hd hb HD1 HB1
  go_wp2_with (fail)
  have HBS2 := Lib.hid (HBS.out.below HB2.out)
  refine (dFeed w0.heap.size D none m 0 newS w2 HD2.out (Nat.le_trans HW1.out.1 HW1.out.2) (by omega) (new_up m) A k c l HBS2.out (fun h0 b hb hs => by
    obtain ⟨b', o', e, hlt, _⟩ := HBS.out.at_ h0
    rw [e] at hb
    injection hb with hb
    subst hb
    rcases hs with hs | hs
    · have := HD2.out.base; have := HB0.out.size; simp at hs; omega
    · cases hs) (by have := HK.out; omega)).mono ?_
  rintro e w3 ⟨vw, O3, rfl, hr, hd3, hm3⟩
  have hsh := feed_short (new_up m) l l.length (Nat.le_refl _)
  rw [List.take_length] at hsh
  obtain ⟨Aw, cw, rfl, _⟩ := hr.rd (fun x hx => by have := hsh x hx; simp only [maxLen]; omega)
  have HSH := Lib.hid hsh
  have HUP : Hid (St.Up m (0 + l.length) (feedD m newS l).1) := Lib.hid (by have := feed_up (new_up m) l l.length (Nat.le_refl _); rwa [List.take_length] at this)
  have HRW : Hid (RowsAt w2.heap.size (fun j => dS F none j ∨ w3.heap.size ≤ j) w3 (.slice Aw (feedD m newS l).2.length cw) (feedD m newS l).2) := Lib.hid (hr.other (fun j hj hj2 hs => by
    rcases hs with hs | hs
    · rcases hs with hs | hs
      · have := HF2.out.lt; omega
      · cases hs
    · omega))
  have HSEP : Hid (Sep D O3 F none) := Lib.hid ⟨(fun hs => by
    rcases hs with hs | hs
    · have := HDF.out; have := HFB.out; omega
    · cases hs), (fun j hj hs => by
    rcases hs with hs | hs
    · subst hs
      by_cases h : j < w2.heap.size
      · have := hm3.2 j hj h; cases this
      · exact h HF2.out.lt
    · cases hs)⟩
  have HF3 : Hid (Df w1.heap.size F none m newS w3) := Lib.hid (HF2.out.ch hm3.1 (fun hs => by
    rcases hs with hs | hs
    · have := HDF.out; have := HFB.out; omega
    · cases hs) (fun j hj _ => by cases hj))
  have HD3 := Lib.hid hd3
  have HB3 : Hid (Below w.heap.size w w3) := Lib.hid (HB2.out.trans ((hm3.low HD2.out (Nat.le_trans HW1.out.1 HW1.out.2)).mono HB0.out.size))
  have HW3 : Hid (w2.heap.size ≤ w3.heap.size) := Lib.hid hm3.1.size
  have HO3 : Hid (∀ y, O3 = some y → y < w3.heap.size) := Lib.hid (fun y hy => (hd3.own y hy).2)
  have HWW : Hid (w.heap.size ≤ w0.heap.size) := Lib.hid HB0.out.size
  clear hr hd3 hm3 hsh HD2 HF2 HBS2 HB0 HB2
  go_wp2_with (fail)
  go_loopw [14, 13, 70, 16, 17, 18, 19] (fun r g i _ _ _ _ wr => ∃ (j p : Nat) (Ar : Option Addr) (cr : Nat) (P : Option Nat), j ≤ k2 ∧ p ≤ k ∧ i = .int .i64 j ∧ r = .slice Ar (k - p) cr ∧ Bs wr Ar (k - p) cr (l.drop p) ∧ (0 < k - p → ∀ b, Ar = some b → b.block < w.heap.size) ∧
    RowsAt w3.heap.size (dS F P) wr g (feedD m newS (l.take p)).2 ∧ Df w1.heap.size F P m (feedD m newS (l.take p)).1 wr ∧ RowsAt w2.heap.size (fun j => dS F P j ∨ w3.heap.size ≤ j) wr (.slice Aw (feedD m newS l).2.length cw) (feedD m newS l).2 ∧
    Sep D O3 F P ∧ Df w0.heap.size D O3 m (feedD m newS l).1 wr ∧ Below w.heap.size w wr ∧ w3.heap.size ≤ wr.heap.size) (fun _ _ i _ _ _ _ _ => k2 - (intOf i).toNat)
  case atStart => exact ⟨0, 0, A, c, none, Nat.zero_le _, Nat.zero_le _, rfl, rfl, by rw [List.drop_zero]; exact HBS.out.below HB3.out, (fun h0 b hb => by
    obtain ⟨b', o', e, hlt, _⟩ := HBS.out.at_ h0
    rw [e] at hb
    injection hb with hb
    subst hb
    exact hlt), by rw [List.take_zero]; exact RowsAt.nil _ _ _, by rw [List.take_zero]; exact HF3.out, HRW.out, HSEP.out, HD3.out, HB3.out, Nat.le_refl _⟩
  case round =>
    clear HF3 HRW HSEP HD3 HB3
    obtain ⟨wo, rfl⟩ : ∃ wo : World, wo = wr := ⟨_, rfl⟩
    obtain ⟨j, p, Ar, cr, P, hj, hp, rfl, rfl, hbr, hblk, hg, hf, hw, hsep, hd, hb, hsz⟩ := hrel
    have HBR := Lib.hid hbr
    have HBLK := Lib.hid hblk
    have HG := Lib.hid hg
    have HF := Lib.hid hf
    have HWT := Lib.hid hw
    have HSEP := Lib.hid hsep
    have HD := Lib.hid hd
    have HB := Lib.hid hb
    have HSZ := Lib.hid hsz
    have hcr := hbr.max
    have hlr := hbr.le
    obtain ⟨r, hr⟩ : ∃ r, r = k - p := ⟨_, rfl⟩
    rw [← hr] at HBR HBLK hlr ⊢
    have hrk : r ≤ 2000 := by have := HK.out; omega
    clear hbr hblk hg hf hw hsep hd hb hsz
    by_cases hlt : j < k2
    · obtain ⟨b2, o2, x, rfl, _, hc2⟩ := (HI.out.below HB.out).read hlt
      obtain ⟨u, q, hu, hq, huq⟩ := cut_place x r (by omega)
      have e1 : (j : Int) < (k2 : Int) := by omega
      have ew1 : IntKind.u64.wrap ((r : Int) + 1) = (r : Int) + 1 := by simp [IntKind.wrap, IntKind.signed, IntKind.bits]; omega
      have ew3 : (u : Int) % ((r : Int) + 1) = (q : Int) := by
        have := congrArg (fun z : Nat => (z : Int)) huq
        simpa using this
      have ew2 : (u : Int).tmod ((r : Int) + 1) = (q : Int) := by rw [Int.tmod_eq_emod_of_nonneg (by omega)]; exact ew3
      have ew4 : IntKind.u64.wrap (q : Int) = (q : Int) := by simp [IntKind.wrap, IntKind.signed, IntKind.bits]; omega
      have ew5 : IntKind.i64.wrap (q : Int) = (q : Int) := by rw [IntKind.wrap_i64]; omega
      have ene : ¬ (r : Int) + 1 = 0 := by omega
      have HQ := Lib.hid hq
      have HR := Lib.hid hr
      have HLT := Lib.hid hlt
      have HP := Lib.hid hp
      have hqc : (q : Int) ≤ (cr : Int) := by omega
      have hqr : (q : Int) ≤ (r : Int) := by omega
      clear hq hr hlt huq hp
      go_wp2_with (fail)
      have HLN := Lib.hid HBS.out.len
      have hup := feed_up (new_up m) l p (by rw [HLN.out]; exact HP.out)
      have hwlo : w.heap.size ≤ w1.heap.size := Nat.le_trans HWW.out HW1.out.1
      have hset : ∀ (Q : Option Nat) (W : World), Df w1.heap.size F Q m (feedD m newS (l.take p)).1 W → ∀ y, dS F Q y → w.heap.size ≤ y := fun Q W h y hs => by
        rcases hs with hs | hs
        · have := HFB.out; omega
        · have := (h.own y hs.symm).1; omega
      refine (dFeed w1.heap.size F P m (0 + p) _ wo HF.out (by have := HSZ.out; have := HW3.out; have := HW1.out; omega) (by omega) hup Ar q cr ((l.drop p).take q) (HBR.out.take HQ.out) (fun h0 b hb hs => by
        have := HBLK.out (by have := HQ.out; omega) b hb
        have := hset P wo HF.out _ hs
        omega) (by have := HP.out; have := HQ.out; have := HR.out; omega)).mono ?_
      rintro e w4 ⟨v4, P4, rfl, hr4, hf4, hm4⟩
      have happ : feedD m newS (l.take (p + q)) = ((feedD m (feedD m newS (l.take p)).1 ((l.drop p).take q)).1, (feedD m newS (l.take p)).2 ++ (feedD m (feedD m newS (l.take p)).1 ((l.drop p).take q)).2) := by
        rw [List.take_add, feedD_append]
      have hlen4 := feed_len m newS l (p + q) (by rw [HLN.out]; have := HP.out; have := HQ.out; have := HR.out; omega)
      have hup4 := feed_up (new_up m) l (p + q) (by rw [HLN.out]; have := HP.out; have := HQ.out; have := HR.out; omega)
      rw [happ] at hlen4 hup4
      simp only [List.length_append] at hlen4 hup4
      have HAPP := Lib.hid happ
      have HLEN4 := Lib.hid hlen4
      have hdS4 : ∀ y, y < wo.heap.size → dS F P4 y → dS F P y := fun y hy hs => by
        rcases hs with hs | hs
        · exact .inl hs
        · exact .inr (hm4.2 y hs.symm hy).symm
      have hDl := HD.out.lt
      have hOl := fun y hy => (HD.out.own y hy).2
      have HG4 : Hid (RowsAt w3.heap.size (dS F P4) w4 u13 (feedD m newS (l.take p)).2) := Lib.hid (HG.out.ch hm4.1 hdS4)
      have HWT4 : Hid (RowsAt w2.heap.size (fun j => dS F P4 j ∨ w3.heap.size ≤ j) w4 (.slice Aw (feedD m newS l).2.length cw) (feedD m newS l).2) := Lib.hid (HWT.out.ch (hm4.1.mono (fun x hx => .inl hx)) (fun y hy hs => by
        rcases hs with hs | hs
        · exact .inl (hdS4 y hy hs)
        · exact .inr hs))
      have HSEP4 : Hid (Sep D O3 F P4) := Lib.hid (HSEP.out.mv hDl hOl hm4)
      have HD4 : Hid (Df w0.heap.size D O3 m (feedD m newS l).1 w4) := Lib.hid (HD.out.ch hm4.1 HSEP.out.1 HSEP.out.2)
      have HB4 : Hid (Below w.heap.size w w4) := Lib.hid (HB.out.trans ((hm4.low HF.out (by have := HSZ.out; have := HW3.out; have := HW1.out; omega)).mono hwlo))
      have HSZ4 : Hid (w3.heap.size ≤ w4.heap.size) := Lib.hid (Nat.le_trans HSZ.out hm4.1.size)
      have HBR4 : Hid (Bs w4 Ar r cr (l.drop p)) := Lib.hid (HBR.out.ch hm4.1 (fun h0 b hb hs => by
        have := HBLK.out h0 b hb
        have := hset P wo HF.out _ hs
        omega))
      have HR4 : Hid (RowsAt w3.heap.size (dS F P4) w4 v4 (feedD m (feedD m newS (l.take p)).1 ((l.drop p).take q)).2) := Lib.hid (hr4.base HSZ.out)
      have HF4 := Lib.hid hf4
      have HHS : Hid (∀ y, w4.heap.size ≤ y → ¬ dS F P4 y) := Lib.hid (fun y hy hs => by
        rcases hs with hs | hs
        · have := hf4.lt; omega
        · have := (hf4.own y hs.symm).2; omega)
      obtain ⟨A4, c4, hv4⟩ : ∃ A4 c4, v4 = .slice A4 (feedD m (feedD m newS (l.take p)).1 ((l.drop p).take q)).2.length c4 := by
        obtain ⟨gs, hg⟩ := hr4
        exact own_form hg.2.1
      subst hv4
      clear hr4 hf4 hm4 happ hlen4 hdS4 hDl hOl hup hset HG HWT HSEP HD HB HBR HF
      have tok1 : Hid True := Lib.hid trivial
      go_wp2_with (at_builtin; have _t := tok1; go_loud ((refine wpList_appRows rfl (.tmp 90) (.tmp 91) rfl w3.heap.size (dS F P4) u13 (.slice A4 (feedD m (feedD m newS (l.take p)).1 ((l.drop p).take q)).2.length c4) (feedD m newS (l.take p)).2 (feedD m (feedD m newS (l.take p)).1 ((l.drop p).take q)).2 rfl rfl HG4.out HR4.out (HHS.out _ (Nat.le_refl _)) (by have := HLEN4.out; have := HP.out; have := HQ.out; have := HR.out; omega) HSZ4.out ?_; intro v' w5 hrow hch; have HROW := Lib.hid hrow; have HCH := Lib.hid hch; clear tok1 hrow hch _t)))
      have hwl : w.heap.size ≤ w3.heap.size := by have := HWW.out; have := HW1.out; have := HW3.out; omega
      have hrow := HG4.out.ownAt
      have hpq : k - (p + q) = r - q := by have := HR.out; omega
      refine ⟨⟨j + 1, p + q, (if cr = q then Ar else Option.map (fun x => x.add q) Ar), cr - q, P4, HLT.out, by have := HP.out; have := HQ.out; have := HR.out; omega, by go_num, by rw [hpq], ?_, ?_, ?_, ?_, ?_, HSEP4.out, ?_, ?_, ?_⟩, by have := HLT.out; simp [intOf]; omega⟩
      · have hbd := HBR4.out.ch HCH.out (fun h0 b hb hs => by
          have := HBLK.out h0 b hb
          have := (hrow _ hs).1
          omega)
        have := hbd.drop (i := q) HQ.out
        rw [List.drop_drop] at this
        rw [hpq]
        exact this
      · intro h0 b hb
        have hcq : ¬ cr = q := by have := HQ.out; omega
        rw [if_neg hcq] at hb
        cases hA : Ar with
        | none => rw [hA] at hb; cases hb
        | some a =>
          rw [hA] at hb
          injection hb with hb
          have := HBLK.out (by omega) a hA
          rw [← hb]
          simp only [Addr.add]
          split <;> exact this
      · rw [HAPP.out]; exact HROW.out
      · rw [HAPP.out]
        exact HF4.out.ch HCH.out (fun hs => (hrow _ hs).2.2 (.inl rfl)) (fun y hy hs => (hrow _ hs).2.2 (.inr hy.symm))
      · exact HWT4.out.ch (HCH.out.mono (fun y hy => .inr (hrow y hy).1)) (fun _ _ h => h)
      · exact HD4.out.ch HCH.out (fun hs => by
          have := (hrow _ hs).1
          have := HDF.out
          have := HW1.out
          have := HW3.out
          omega) (fun y hy hs => by
          have := (hrow _ hs).1
          have := HO3.out y hy
          omega)
      · exact HB4.out.trans (HCH.out.below (fun y hy => Nat.le_trans hwl (hrow y hy).1) (Nat.le_trans hwl HSZ4.out))
      · exact Nat.le_trans HSZ4.out HCH.out.size
    · have e1 : ¬ (j : Int) < (k2 : Int) := by omega
      have HR := Lib.hid hr
      have HP := Lib.hid hp
      have HLN := Lib.hid HBS.out.len
      have hQ : feedD m newS l = ((feedD m (feedD m newS (l.take p)).1 (l.drop p)).1, (feedD m newS (l.take p)).2 ++ (feedD m (feedD m newS (l.take p)).1 (l.drop p)).2) := by
        rw [← feedD_append, List.take_append_drop]
      have hlen := feed_len m newS l l.length (Nat.le_refl _)
      rw [List.take_length] at hlen
      have hup := feed_up (new_up m) l p (by rw [HLN.out]; exact hp)
      have hwlo : w.heap.size ≤ w1.heap.size := Nat.le_trans HWW.out HW1.out.1
      have hset : ∀ y, dS F P y → w.heap.size ≤ y := fun y hs => by
        rcases hs with hs | hs
        · have := HFB.out; omega
        · have := (HF.out.own y hs.symm).1; omega
      have HSET := Lib.hid hset
      have HQ := Lib.hid hQ
      have HLEN := Lib.hid hlen
      have HUPP := Lib.hid hup
      have HWLO := Lib.hid hwlo
      clear hlt hr hp hQ hlen hup hwlo hset
      generalize feedD m newS (l.take p) = X at *
      generalize feedD m newS l = Q at *
      go_wp2_with (fail)
      refine (dFeed w1.heap.size F P m (0 + p) _ wo HF.out (by have := HSZ.out; have := HW3.out; have := HW1.out; omega) (by omega) HUPP.out Ar r cr (l.drop p) HBR.out (fun h0 b hb hs => by
        have := HBLK.out h0 b hb
        have := HSET.out _ hs
        omega) (by have := HP.out; have := HR.out; omega)).mono ?_
      rintro e w4 ⟨v4, P4, rfl, hr4, hf4, hm4⟩
      have hdS4 : ∀ y, y < wo.heap.size → dS F P4 y → dS F P y := fun y hy hs => by
        rcases hs with hs | hs
        · exact .inl hs
        · exact .inr (hm4.2 y hs.symm hy).symm
      have HG4 : Hid (RowsAt w3.heap.size (dS F P4) w4 u13 X.2) := Lib.hid (HG.out.ch hm4.1 hdS4)
      have HWT4 : Hid (RowsAt w2.heap.size (fun j => dS F P4 j ∨ w3.heap.size ≤ j) w4 (.slice Aw Q.2.length cw) Q.2) := Lib.hid (HWT.out.ch (hm4.1.mono (fun x hx => .inl hx)) (fun y hy hs => by
        rcases hs with hs | hs
        · exact .inl (hdS4 y hy hs)
        · exact .inr hs))
      have HD4 : Hid (Df w0.heap.size D O3 m Q.1 w4) := Lib.hid (HD.out.ch hm4.1 HSEP.out.1 HSEP.out.2)
      have HB4 : Hid (Below w.heap.size w w4) := Lib.hid (HB.out.trans ((hm4.low HF.out (by have := HSZ.out; have := HW3.out; have := HW1.out; omega)).mono HWLO.out))
      have HSZ4 : Hid (w3.heap.size ≤ w4.heap.size) := Lib.hid (Nat.le_trans HSZ.out hm4.1.size)
      have HR4 : Hid (RowsAt w3.heap.size (dS F P4) w4 v4 (feedD m X.1 (l.drop p)).2) := Lib.hid (hr4.base HSZ.out)
      have HF4 : Hid (Df w1.heap.size F P4 m Q.1 w4) := Lib.hid (by rw [HQ.out]; exact hf4)
      have HHS : Hid (∀ y, w4.heap.size ≤ y → ¬ dS F P4 y) := Lib.hid (fun y hy hs => by
        rcases hs with hs | hs
        · have := hf4.lt; omega
        · have := (hf4.own y hs.symm).2; omega)
      obtain ⟨A4, c4, hv4⟩ : ∃ A4 c4, v4 = .slice A4 (feedD m X.1 (l.drop p)).2.length c4 := by
        obtain ⟨gs, hg⟩ := hr4
        exact own_form hg.2.1
      subst hv4
      have HLQ : Hid (X.2.length + (feedD m X.1 (l.drop p)).2.length ≤ 2000) := Lib.hid (by
        have := HLEN.out
        rw [HQ.out] at this
        simp only [List.length_append] at this
        have := HLN.out
        have := HK.out
        omega)
      clear hr4 hf4 hm4 hdS4 HG HWT HSEP HD HB HBR HF
      have tok1 : Hid True := Lib.hid trivial
      go_wp2_with (at_builtin; have _t := tok1; go_loud ((refine wpList_appRows rfl (.tmp 103) (.tmp 104) rfl w3.heap.size (dS F P4) u13 (.slice A4 (feedD m X.1 (l.drop p)).2.length c4) X.2 (feedD m X.1 (l.drop p)).2 rfl rfl HG4.out HR4.out (HHS.out _ (Nat.le_refl _)) (by have := HLQ.out; omega) HSZ4.out ?_; intro v' w5 hrow hch; have HROW := Lib.hid hrow; have HCH := Lib.hid hch; clear tok1 hrow hch _t)))
      have hwl : w.heap.size ≤ w3.heap.size := by have := HWW.out; have := HW1.out; have := HW3.out; omega
      have hrow := HG4.out.ownAt
      have hF5 : Df w1.heap.size F P4 m Q.1 w5 := HF4.out.ch HCH.out (fun hs => (hrow _ hs).2.2 (.inl rfl)) (fun y hy hs => (hrow _ hs).2.2 (.inr hy.symm))
      have hW5 := HWT4.out.ch (S' := fun j => dS F P4 j ∨ w3.heap.size ≤ j) (HCH.out.mono (fun y hy => .inr (hrow y hy).1)) (fun _ _ h => h)
      have hD5 : Df w0.heap.size D O3 m Q.1 w5 := HD4.out.ch HCH.out (fun hs => by
          have := (hrow _ hs).1
          have := HDF.out
          have := HW1.out
          have := HW3.out
          omega) (fun y hy hs => by
          have := (hrow _ hs).1
          have := HO3.out y hy
          omega)
      have hB5 := HB4.out.trans (HCH.out.below (fun y hy => Nat.le_trans hwl (hrow y hy).1) (Nat.le_trans hwl HSZ4.out))
      have hq2 : X.2 ++ (feedD m X.1 (l.drop p)).2 = Q.2 := by rw [HQ.out]
      have hROW := HROW.out
      rw [hq2] at hROW
      obtain ⟨A5, c5, hv5, hrd5⟩ := hROW.rd (fun x hx => by have := HSH.out x hx; simp only [maxLen]; omega)
      subst hv5
      obtain ⟨A6, c6, hv6, hrd6⟩ := hW5.rd (fun x hx => by have := HSH.out x hx; simp only [maxLen]; omega)
      injection hv6 with e6 e7 e8
      subst e6 e8
      have HF5 := Lib.hid hF5
      have HD5 := Lib.hid hD5
      have HB5 := Lib.hid hB5
      have HR5 := Lib.hid hrd5
      have HR6 := Lib.hid hrd6
      clear hwl hrow hF5 hW5 hD5 hB5 hq2 hROW hrd5 hrd6 e7 HG4 HWT4 HD4 HB4 HSZ4 HR4 HF4 HHS HROW HCH HQ HLEN HLQ HUPP
      refine (same05 A5 Aw Q.2.length c5 cw Q.2 w5 HR5.out HR6.out).mono ?_
      rintro e w6 ⟨rfl, hb6⟩
      have HF6 := Lib.hid (HF5.out.below hb6)
      have HD6 := Lib.hid (HD5.out.below hb6)
      have HB6 : Hid (Below w.heap.size w w6) := Lib.hid (HB5.out.trans (hb6.mono HB5.out.size))
      have hfr := HUP.out.fr
      clear hb6 HF5 HD5 HB5 HR5 HR6
      go_wp2_with (fail)
      refine (dHeld w0.heap.size D O3 m Q.1 w6 HD6.out (by omega)).mono ?_
      rintro e w' ⟨rfl, rfl⟩
      go_wp2_with (fail)
      refine (dHeld w1.heap.size F P4 m Q.1 w6 HF6.out (by omega)).mono ?_
      rintro e w' ⟨rfl, rfl⟩
      go_wp2_with (fail)
      refine (dJunk w0.heap.size D O3 m Q.1 w6 HD6.out).mono ?_
      rintro e w' ⟨rfl, rfl⟩
      go_wp2_with (fail)
      refine (dJunk w1.heap.size F P4 m Q.1 w6 HF6.out).mono ?_
      rintro e w' ⟨rfl, rfl⟩
      go_wp2_with (fail)
      refine (dOver w0.heap.size D O3 m Q.1 w6 HD6.out).mono ?_
      rintro e w' ⟨rfl, rfl⟩
      go_wp2_with (fail)
      refine (dOver w1.heap.size F P4 m Q.1 w6 HF6.out).mono ?_
      rintro e w' ⟨rfl, rfl⟩
      go_wp2_with (fail)
      refine (dBroken w0.heap.size D O3 m Q.1 w6 HD6.out).mono ?_
      rintro e w' ⟨rfl, rfl⟩
      go_wp2_with (fail)
      refine (dBroken w1.heap.size F P4 m Q.1 w6 HF6.out).mono ?_
      rintro e w' ⟨rfl, rfl⟩
      go_wp2_with (fail)
      go_ret
      exact ⟨rfl, HB6.out⟩
end Go.Proofs.Ytbbamdcdpololaa
