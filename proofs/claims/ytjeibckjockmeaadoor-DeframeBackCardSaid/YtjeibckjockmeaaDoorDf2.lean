/- Layer 5: a deframer as a state, its small methods. -/
import Derived.Test.YtjeibckjockmeaaDoorDf
namespace Go.Proofs.YtjeibckjockmeaaDoor
open Go.RowKit

structure St where
  md : Md
  fr : List UInt8
  junk : Nat
  over : Nat
  broken : Nat
def St.low (s : St) (most D : Nat) (fv : Value) : Dfr := ⟨most, s.md.fn D, s.md.begun, s.md.ending, fv, s.junk, s.over, s.broken⟩
/-- block D is that deframer; what it holds lies in block O -/
def Df (B D : Nat) (O : Option Nat) (most : Nat) (s : St) (w : World) : Prop :=
  ∃ fv, fv.ownBlock = O ∧ O ≠ some D ∧ B ≤ D ∧ Own 5 w B fv s.fr ∧ IsDfr w D (s.low most D fv)
abbrev dS (D : Nat) (O : Option Nat) : Nat → Prop := fun k => k = D ∨ some k = O
/-- only the deframer's own blocks have been written; its second one is as it was, none, or new -/
def Mv (D : Nat) (O O' : Option Nat) (w w' : World) : Prop := Ch (dS D O) w w' ∧ ∀ k, O' = some k → k < w.heap.size → O = some k
theorem Mv.refl (D : Nat) (O : Option Nat) (w : World) : Mv D O O w w := ⟨Ch.refl _ _, fun _ h _ => h⟩
theorem Mv.trans {D : Nat} {O O' O'' : Option Nat} {a b c : World} (h : Mv D O O' a b) (k : Mv D O' O'' b c) : Mv D O O'' a c :=
  ⟨h.1.trans k.1 (fun x hx hs => by
    rcases hs with hs | hs
    · exact .inl hs
    · exact .inr (h.2 x hs.symm hx).symm), fun x hx hl => h.2 x (k.2 x hx (Nat.lt_of_lt_of_le hl h.1.size)) hl⟩
theorem Mv.of1 {D : Nat} {O : Option Nat} {w w' : World} (h : Ch (At1 D) w w') : Mv D O O w w' :=
  ⟨⟨h.os, h.tape, h.output, h.size, fun k hk hn => h.block k hk (fun e => hn (.inl e))⟩, fun _ h _ => h⟩
theorem Mv.none1 {D : Nat} {O : Option Nat} {w w' : World} (h : Ch (At1 D) w w') : Mv D O none w w' :=
  ⟨(Mv.of1 h).1, fun _ h _ => by cases h⟩
theorem Mv.of_below {D : Nat} {O : Option Nat} {w w' : World} (h : Below w.heap.size w w') : Mv D O O w w' := ⟨Ch.of_below h, fun _ h _ => h⟩

theorem own_form {w : World} {base n : Nat} {e : TypeId} {v : Value} {xs : List Value} (h : w.ownsRow base e 1 v n xs) : ∃ A c, v = .slice A n c := by
  rcases h.2 with ⟨rfl, rfl⟩ | ⟨g, cap, cur, rfl, _⟩
  · exact ⟨_, _, rfl⟩
  · exact ⟨_, _, rfl⟩
theorem Own.ch {S : Nat → Prop} {w w' : World} {B : Nat} {v : Value} {l : List UInt8} (h : Own 5 w B v l) (c : Ch S w w') (hn : ∀ k, v.ownBlock = some k → ¬ S k) : Own 5 w' B v l := by
  refine ⟨h.1, ?_⟩
  rcases h.2 with hnil | ⟨g, cap, cur, e, h1, h2, h3⟩
  · exact .inl hnil
  · exact .inr ⟨g, cap, cur, e, h1, c.row h2 (hn g (by rw [e]; rfl)), h3⟩
theorem Own.cut0 {w : World} {B : Nat} {A : Option Addr} {n c : Nat} {l : List UInt8} (h : Own 5 w B (.slice A n c) l) : Own 5 w B (.slice A 0 c) [] := by
  refine ⟨by simp, ?_⟩
  rcases h.2 with ⟨e, _⟩ | ⟨g, cap, cur, e, h1, h2, h3, h4, h5, _⟩
  · injection e with e1 e2 e3
    subst e1 e3
    exact .inl ⟨rfl, rfl⟩
  · injection e with e1 e2 e3
    subst e1 e3
    exact .inr ⟨g, c, cur, rfl, h1, h2, Nat.zero_le _, h4, h5, by simp⟩
theorem Own.lt {w : World} {B : Nat} {v : Value} {l : List UInt8} (h : Own 5 w B v l) (k : Nat) (hk : v.ownBlock = some k) : B ≤ k ∧ k < w.heap.size := World.ownsRow.lt h k hk

section
variable {B D most : Nat} {O : Option Nat} {s : St} {w w' : World}
theorem Df.lt (h : Df B D O most s w) : D < w.heap.size := by obtain ⟨fv, _, _, _, _, h⟩ := h; exact h.lt
theorem Df.base (h : Df B D O most s w) : B ≤ D := by obtain ⟨fv, _, _, h, _, _⟩ := h; exact h
theorem Df.own (h : Df B D O most s w) (k : Nat) (hk : O = some k) : B ≤ k ∧ k < w.heap.size := by
  obtain ⟨fv, e, _, _, h, _⟩ := h
  exact Own.lt h k (by rw [e]; exact hk)
theorem Df.ne (h : Df B D O most s w) : O ≠ some D := by obtain ⟨fv, _, h, _⟩ := h; exact h
/-- others' changes -/
theorem Df.ch {S : Nat → Prop} (h : Df B D O most s w) (c : Ch S w w') (h1 : ¬ S D) (h2 : ∀ k, O = some k → ¬ S k) : Df B D O most s w' := by
  obtain ⟨fv, e, hne, hB, ho, hd⟩ := h
  exact ⟨fv, e, hne, hB, ho.ch c (fun k hk => h2 k (by rw [← e]; exact hk)), hd.ch c h1⟩
theorem Df.below (h : Df B D O most s w) (hb : Below w.heap.size w w') : Df B D O most s w' :=
  h.ch (Ch.of_below (S := fun _ => False) hb) (fun h => h) (fun _ _ h => h)
theorem Df.set {s' : St} (h : Df B D O most s w) (j : Nat) (v : Value) (hfr : s'.fr = s.fr) (hs : ∀ fv, (s.low most D fv).cells.setIfInBounds j v = (s'.low most D fv).cells) : Df B D O most s' (w.setCell ⟨D, j, none⟩ v) := by
  obtain ⟨fv, e, hne, hB, ho, hd⟩ := h
  refine ⟨fv, e, hne, hB, ?_, hd.set j v (hs fv)⟩
  rw [hfr]
  exact ho.ch ((Ch.refl (At1 D) w).set1 j v) (fun k hk hk2 => hne (by rw [← e, hk, hk2]))
/-- in the end all that was there ahead of B is as it was -/
theorem Mv.low {O' : Option Nat} (h : Mv D O O' w w') (hd : Df B D O most s w) (hB : B ≤ w.heap.size) : Below B w w' :=
  h.1.below (fun k hk => by
    rcases hk with rfl | hk
    · exact hd.base
    · exact (hd.own k hk.symm).1) hB
end

/-- 'append(s, x...)' onto a row of the call's own; where the new row lies -/
theorem wpList_appAt {ops : Array Oper} {rest : List Oper} {o : Oper} {a : Act} {Q : Exit → Act → World → Prop} {w : World} (hgd : o.guard = none) (s x : Operand) (t : TypeId)
    (ho : o.op = .call { callee := .builtin .append, args := #[s, x], argTypes := #[t, t] }) (base : Nat) (e : TypeId) (z : Value) (bytes : Nat) (ht : Tryd.prog.underlying t = some (.slice e)) (hi : (Tryd.prog.info? e).map (fun i => (i.zero, i.size, i.bytes)) = some (some z, 1, bytes))
    (hz : z.cells.size = 1) (hby : bytes ≤ 64) (v : Value) (n : Nat) (xs : List Value) (hs : a.eval s = v) (hown : w.ownsRow base e 1 v n xs) (ad : Addr) (m c : Nat) (news : List Value) (hx : a.eval x = .slice (some ad) m c) (hl : news.length = m)
    (hnews : ∀ (j : Nat) (u : Value), news[j]? = some u → w.cell? (ad.add j) = some u) (h1 : ∀ u ∈ news, u.oneCell' = true) (hn : n + m ≤ 1099511627776) (hbase : base ≤ w.heap.size)
    (h : ∀ v' w', w'.ownsRow base e 1 v' (n + m) (xs ++ news) → w.grownBy w' v.ownBlock → (v'.ownBlock = v.ownBlock ∨ v'.ownBlock = some w.heap.size) → wpList Tryd.prog ops Q rest (a.put o.dst v') w') : wpList Tryd.prog ops Q (o :: rest) a w :=
  wpList_plain hgd fun K hK => by
    obtain ⟨i, hi, hzz⟩ := Option.map_eq_some_iff.1 hi
    simp only [Prod.mk.injEq] at hzz
    obtain ⟨v', w', hrun, h2, h3, _, h5⟩ := run_append_own_at (P := Tryd.prog) w base t o.type e i z 1 bytes ht hi hzz.1 hzz.2.1 hzz.2.2 hz (by decide) v n xs hown ad m c news (by rw [hl, Nat.mul_one]) hnews h1 (by simp only [maxLen]; omega)
      (Nat.le_trans (Nat.mul_le_mul hn hby) (by decide)) hbase
    unfold Oper.wp execOp
    simp only [ho, resolve, invoke, builtin, Sem.run_bind, Sem.run_pure, Result.andThen_ok, List.map_toArray, List.map_cons, List.map_nil, hs, hx, hrun]
    exact hK _ _ (h v' w' h2 h3 h5)

def enterS (s : St) : St := { s with md := .inn, fr := [] }
def leaveS (s : St) : St := { s with md := .out, fr := [] }
/-- what a method gives -/
def DfRet (v : Value) (B D : Nat) (O : Option Nat) (most : Nat) (s : St) (w : World) (e : Ending) (w' : World) : Prop := e = .returned v ∧ ∃ O', Df B D O' most s w' ∧ Mv D O O' w w'

theorem dLeave (B D : Nat) (O : Option Nat) (most : Nat) (s : St) (w : World) (h : Df B D O most s w) : Calls Tryd.prog 19 #[.pointer (some ⟨D, 0, none⟩)] w (DfRet (.tuple #[]) B D O most (leaveS s) w) := by
  obtain ⟨fv, e, hne, hB, ho, hd⟩ := h
  refine (dfLeave w D _ hd).mono fun e2 w2 ⟨he, hd2, hc, _⟩ => ⟨he, none, ⟨.slice none 0 0, rfl, by simp, hB, Own.nil _ _ _, hd2⟩, Mv.none1 hc⟩
theorem dEnter (B D : Nat) (O : Option Nat) (most : Nat) (s : St) (w : World) (h : Df B D O most s w) : Calls Tryd.prog 25 #[.pointer (some ⟨D, 0, none⟩)] w (DfRet (.tuple #[]) B D O most (enterS s) w) := by
  obtain ⟨fv, e, hne, hB, ho, hd⟩ := h
  obtain ⟨A, c, rfl, hbs, _⟩ := Own.bs ho
  refine (dfEnter w D _ A s.fr.length c hbs.max rfl hd).mono fun e2 w2 ⟨he, hd2, hc, _⟩ => ⟨he, O, ⟨.slice A 0 c, by rw [← e]; cases A <;> rfl, hne, hB, ?_, hd2⟩, Mv.of1 hc⟩
  exact ho.cut0.ch hc (fun k hk hk2 => hne (by rw [← e, ← hk2, ← hk]; cases A <;> rfl))

set_option maxRecDepth 100000 in
theorem dBreak (B D : Nat) (O : Option Nat) (most : Nat) (s : St) (w : World) (h : Df B D O most s w) (hb : s.broken ≤ 1099511627776) : Calls Tryd.prog 28 #[.pointer (some ⟨D, 0, none⟩)] w (DfRet (.tuple #[]) B D O most (enterS { s with broken := s.broken + 1 }) w) := by
  have H := Lib.hid h
  obtain ⟨fv, _, _, _, _, hd⟩ := h
  have z7 := hd.cell 7
  simp [St.low] at z7
  have f7 := hd.frozen 7
  have ew : IntKind.i64.wrap ((s.broken : Int) + 1) = ((s.broken + 1 : Nat) : Int) := by rw [IntKind.wrap_i64]; omega
  clear hd
  go_enter Tryd.func28, Tryd.ntmps28
  go_wp2_with (fail)
  have H2 : Hid (Df B D O most { s with broken := s.broken + 1 } (w.setCell ⟨D, 7, none⟩ (.int .i64 ((s.broken : Int) + 1)))) := Lib.hid (H.out.set 7 _ rfl (fun fv => rfl))
  refine (dEnter B D O most _ _ H2.out).mono ?_
  rintro e w2 ⟨rfl, O2, hd2, hm2⟩
  have HD2 := Lib.hid hd2
  have HM2 : Hid (Mv D O O2 w w2) := Lib.hid ((Mv.of1 ((Ch.refl _ w).set1 7 _)).trans hm2)
  clear hd2 hm2 H2
  go_wp2_with (fail)
  go_end0
  exact ⟨rfl, O2, HD2.out, HM2.out⟩

/-- the state behind lay(bs) -/
def layS (most : Nat) (s : St) (bs : List UInt8) : St := if most < s.fr.length + bs.length then leaveS { s with over := s.over + 1 } else { s with fr := s.fr ++ bs }

set_option maxHeartbeats 1000000 in
set_option maxRecDepth 100000 in
theorem dLay (B D : Nat) (O : Option Nat) (most : Nat) (s : St) (w : World) (h : Df B D O most s w) (bs : List UInt8) (b o c : Nat) (hbs : Bs w (some ⟨b, o, none⟩) bs.length c bs) (h0 : 0 < bs.length) (h2 : bs.length ≤ 2) (hB : B ≤ w.heap.size) (ho : s.over ≤ 1099511627776) (hfr : s.fr.length ≤ 1000000) :
    Calls Tryd.prog 30 #[.pointer (some ⟨D, 0, none⟩), .slice (some ⟨b, o, none⟩) bs.length c] w (DfRet (.tuple #[]) B D O most (layS most s bs) w) := by
  have H := Lib.hid h
  obtain ⟨fv, hfv, hne, hBD, hown, hd⟩ := h
  obtain ⟨A, cp, rfl, hfb, _⟩ := Own.bs hown
  have hfm := hfb.nmax
  have z0 := hd.cell 0
  have z4 := hd.cell 4
  have z6 := hd.cell 6
  simp [St.low] at z0 z4 z6
  have f4 := hd.frozen 4
  have f6 := hd.frozen 6
  have ew : IntKind.i64.wrap ((s.over : Int) + 1) = ((s.over + 1 : Nat) : Int) := by rw [IntKind.wrap_i64]; omega
  obtain ⟨m, hm⟩ : ∃ m, m = s.fr.length + bs.length := ⟨_, rfl⟩
  have es : IntKind.i64.wrap ((s.fr.length : Int) + (bs.length : Int)) = (m : Int) := by rw [IntKind.wrap_i64]; omega
  have HBS := Lib.hid hbs
  have HOWN := Lib.hid hown
  have HD := Lib.hid hd
  have HFV := Lib.hid hfv
  have HNE := Lib.hid hne
  have HM := Lib.hid hm
  have H2 := Lib.hid h2
  have HF := Lib.hid hfr
  clear hd hfb hown hbs hfv hne hm h2 hfr
  by_cases hlt : most < m
  · have d1 : decide (most < m) = true := by simpa using hlt
    have HL := Lib.hid hlt
    clear hlt
    go_enter Tryd.func30, Tryd.ntmps30
    go_wp2_with (fail)
    go_quiet (fail)
    go_wp2_with (fail)
    have HD0 := Lib.hid (H.out.below (drawN_below (Below.refl _ w) nq))
    have HD1 : Hid (Df B D O most { s with over := s.over + 1 } ((w.drewN nq).setCell ⟨D, 6, none⟩ (.int .i64 ((s.over : Int) + 1)))) := Lib.hid (HD0.out.set 6 _ rfl (fun fv => rfl))
    refine (dLeave B D O most _ _ HD1.out).mono ?_
    rintro e w2 ⟨rfl, O2, hd2, hm2⟩
    have HD2 := Lib.hid hd2
    have HM2 : Hid (Mv D O O2 w w2) := Lib.hid (((Mv.of_below (drawN_below (Below.refl _ w) nq)).trans (Mv.of1 ((Ch.refl _ (w.drewN nq)).set1 6 _))).trans hm2)
    clear hd2 hm2 HD1 HD0
    go_wp2_with (fail)
    go_end0
    refine ⟨rfl, O2, ?_, HM2.out⟩
    unfold layS
    rw [if_pos (by have := HM.out; have := HL.out; omega)]
    exact HD2.out
  · have d1 : decide (most < m) = false := by simpa using hlt
    have HL := Lib.hid hlt
    clear hlt
    go_enter Tryd.func30, Tryd.ntmps30
    go_wp2_with (fail)
    go_quiet (fail)
    have hb0 := drawN_below (Below.refl w.heap.size w) nq
    have HB0 := Lib.hid hb0
    have HOWN0 := Lib.hid (HOWN.out.below hb0)
    have HBS0 := Lib.hid (HBS.out.below hb0)
    have HD0 : Hid (IsDfr (w.drewN nq) D (s.low most D (.slice A s.fr.length cp))) := Lib.hid ((hb0.block D HD.out.lt).trans HD.out)
    have hz0 : (w.drewN nq).heap.size = w.heap.size := by simp
    clear hb0
    have tok1 : Hid True := Lib.hid trivial
    have hnews : ∀ (j : Nat) (u : Value), (u8s bs)[j]? = some u → (w.drewN nq).cell? ((⟨b, o, none⟩ : Addr).add j) = some u := fun j u hu => by
      obtain ⟨x, hx, rfl⟩ := u8s_get hu
      rw [Addr.add_lit]
      obtain ⟨b', o', e, _, hc⟩ := HBS0.out.at_ h0
      injection e with e
      injection e with e1 e2
      subst e1 e2
      exact hc j x hx
    have HNW := Lib.hid hnews
    clear hnews
    go_wp2_with (at_builtin; have _t := tok1; go_loud ((refine wpList_appAt rfl (.tmp 30) (.tmp 31) 23 rfl B 5 (.int .u8 0) 1 Tryd.underlying23 byteInfo rfl (by decide) (.slice A s.fr.length cp) s.fr.length (u8s s.fr) rfl HOWN0.out ⟨b, o, none⟩ bs.length c (u8s bs) rfl (by simp) HNW.out (u8s_one bs) (by have := H2.out; have := HF.out; omega) (by rw [hz0]; exact hB) ?_; intro v' w' hown' hgr hfresh; obtain ⟨A', c', rfl⟩ := own_form hown'; have hd' : IsDfr w' D (s.low most D (.slice A s.fr.length cp)) := (hgr.block D (by rw [hz0]; exact HD.out.lt) (by rw [HFV.out]; exact HNE.out.symm)).trans HD0.out; have z4' := hd'.cell 4; simp [St.low] at z4'; have f4' := hd'.frozen 4; have HD' := Lib.hid hd'; have HOWN' := Lib.hid hown'; have HGR := Lib.hid hgr; have HFR := Lib.hid hfresh; clear tok1 hown' hgr hfresh hd' _t)))
    go_end0
    have hne' : (Value.slice A' (s.fr.length + bs.length) c').ownBlock ≠ some D := by
      rcases HFR.out with e | e
      · rw [e, HFV.out]; exact HNE.out
      · rw [e, hz0]; intro e2; injection e2 with e2; have := HD.out.lt; omega
    have hch : Ch (dS D O) w w' := (Ch.of_below (S := dS D O) HB0.out).trans (Ch.of_grown (S := dS D O) HGR.out (fun k hk => .inr (by rw [← hk, HFV.out]))) (fun _ _ h => h)
    refine ⟨rfl, (Value.slice A' (s.fr.length + bs.length) c').ownBlock, ⟨.slice A' (s.fr.length + bs.length) c', rfl, hne', hBD, ?_, ?_⟩, ⟨hch.set (a := ⟨D, 4, none⟩) (.inl rfl) _, ?_⟩⟩
    · unfold layS
      rw [if_neg (by have := HM.out; have := HL.out; omega)]
      have ho2 : Own 5 w' B (.slice A' (s.fr.length + bs.length) c') (s.fr ++ bs) := by unfold Own; rw [List.length_append]; simpa using HOWN'.out
      exact ho2.ch ((Ch.refl (At1 D) w').set1 4 _) (fun k hk hk2 => hne' (by rw [hk, hk2]))
    · unfold layS
      rw [if_neg (by have := HM.out; have := HL.out; omega)]
      exact HD'.out.set 4 _ rfl
    · intro k hk hlt
      rcases HFR.out with e | e
      · rw [← HFV.out, ← e]; exact hk
      · rw [e, hz0] at hk; injection hk with hk; omega
end Go.Proofs.YtjeibckjockmeaaDoor
