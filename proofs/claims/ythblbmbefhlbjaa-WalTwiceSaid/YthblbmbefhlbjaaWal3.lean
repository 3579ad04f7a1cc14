/- Layer 14: a record kept, walked. -/
import Derived.Test.YthblbmbefhlbjaaWal2
import Derived.Deep.RegionLaw
import Derived.Deep.RegionHeld3
namespace Go.Proofs.Ythblbmbefhlbjaa
open Go.RowKit Go.MapKept

def endAW : Int × (Int ⊕ Int) → Ending
  | (n, .inl x) => .returned (.tuple #[.int .i64 n, .int .i64 x])
  | (_, .inr op) => .panicked [{ v := crashI op, recovered := false }]
def AEndsW (B D M : Nat) (F : List Ent) (w : World) (r : OutN) (e : Ending) (w' : World) : Prop :=
  ∃ F', e = endAW r.1 ∧ DkAt w' B D M r.2.1 F' ∧ DkCh D M F F' w w' ∧ fsOf F' = r.2.2
section
variable {w : World} {B D M : Nat} {d : Dk} {F : List Ent}
theorem mAppendW (h : DkAt w B D M d F) (ok : FsOk d (fsOf F)) (nm : ByteArray) (hs : nm.size ≤ 140737488355328) (A : Option Addr) (m c : Nat) (l : List UInt8) (hl : Bs w A m c l) (hBw : B ≤ w.heap.size) :
    Calls Try.prog 28 #[pD D, .string nm, .slice A m c] w (AEndsW B D M F w (appO d (fsOf F) nm l)) := by
  have hm := hl.len
  unfold appO
  cases hn : nameD nm
  · rw [if_pos rfl]
    refine (dkAppend_name w D nm hs hn A m c).mono ?_
    rintro e w' ⟨rfl, rfl⟩
    exact ⟨F, rfl, h, DkCh.refl D M F w, rfl⟩
  · rw [if_neg (by decide)]
    by_cases h1 : d.armedIn = 1
    · rw [if_pos h1, hm]
      refine (dkAppend_lost h ok.ok ok.dk.lens nm hn hs A m c l hl hBw h1).mono ?_
      rintro e w' ⟨he, F', h2, h3, h4⟩
      exact ⟨F', he, h2, h3, h4⟩
    · rw [if_neg h1, hm]
      refine (dkAppend_ok h ok.ok ok.dk.lens nm hn hs A m c l hl hBw h1).mono ?_
      rintro e w' ⟨he, F', h2, h3, h4⟩
      exact ⟨F', he, h2, h3, h4⟩
end
theorem trunc_opsW (d : Dk) (fs : Fs) (a : ByteArray) (n : Int) : (opTrunc d fs a n).2.1.ops ≤ d.ops + 1 := by
  have := callD_ops (d := d) (fs := fs) 1 n 0 a a []
  simpa [callD, liftO] using this
theorem sync_opsW (d : Dk) (fs : Fs) (a : ByteArray) : (opSync d fs a).2.1.ops ≤ d.ops + 1 := by
  have := callD_ops (d := d) (fs := fs) 2 0 0 a a []
  simpa [callD, liftO] using this
theorem app_opsW (d : Dk) (fs : Fs) (a : ByteArray) (l : List UInt8) : (appO d fs a l).2.1.ops ≤ d.ops + 1 := by
  have := callD_ops (d := d) (fs := fs) 0 0 0 a a l
  simpa [callD] using this
theorem app_okW {d : Dk} {fs : Fs} (h : FsOk d fs) (ho : d.ops + 1 ≤ 1152921504606846976) (a : ByteArray) (l : List UInt8) : FsOk (appO d fs a l).2.1 (appO d fs a l).2.2 := by
  have := callD_ok h ho 0 0 0 (by decide) (by decide) a a l
  simpa [callD] using this
theorem app_numW (d : Dk) (fs : Fs) (a : ByteArray) (l : List UInt8) : ∃ k : Nat, (appO d fs a l).1.1 = (k : Int) := by
  unfold appO
  split
  · exact ⟨0, rfl⟩
  · split
    · exact ⟨0, rfl⟩
    · exact ⟨_, rfl⟩
/-- 'append(l, x)' in a region that draws its order -/
theorem step_rwW {ops : Array Oper} {o : Oper} {a : Act} {w : World} {K : Act → World → Prop} {Q : Exit → Act → World → Prop} {E : Prop} (hgd : o.guard = none) (s y : Operand)
    (ho : o.op = .call { callee := .builtin .append, args := #[s, y], argTypes := #[47, 47] }) (B : Nat) (T : Nat → Prop) (v : Value) (L : List (List UInt8)) (x : List UInt8) (A : Option Addr) (c : Nat) (hs : a.eval s = v) (hw : Rw B T w v L) (hx : Bs w A x.length c x)
    (hlt : 0 < x.length → ∀ b, A = some b → ¬ v.ownBlock = some b.block ∧ ¬ T b.block) (hTn : ¬ T w.heap.size)
    (g : Nat) (hy : a.eval y = .slice (some ⟨g, 0, none⟩) 1 1) (hg : w.heap[g]? = some (.cells #[.slice A x.length c] 27)) (hn : L.length ≤ 1099511627770) (hB : B ≤ w.heap.size)
    (h : ∀ v' w', Rw B T w' v' (L ++ [x]) → w.grownBy w' v.ownBlock → (v'.ownBlock = v.ownBlock ∨ v'.ownBlock = some w.heap.size) → K (a.put o.dst v') w') :
    if Region.wanted o (yielded ops a.tmps) = true then Oper.wp Try.prog o a w K Q else E := by
  have hwt : Region.wanted o (yielded ops a.tmps) = true := by simp [Region.wanted, hgd]
  rw [if_pos hwt]
  obtain ⟨vs, hw⟩ := hw
  obtain ⟨i, hi, hzz⟩ := Option.map_eq_some_iff.1 rowsInfo
  simp only [Prod.mk.injEq] at hzz
  obtain ⟨v', w', hrun, h2, h3, _, h5⟩ := run_append_own_at (P := Try.prog) w B 47 o.type 27 i (.slice none 0 0) 1 24 Try.underlying47 hi hzz.1 hzz.2.1 hzz.2.2 rfl (by decide) v L.length vs hw.2.1 ⟨g, 0, none⟩ 1 1 [.slice A x.length c] rfl
    (fun j z hz => by
      have hj : j = 0 := by
        rcases Nat.lt_or_ge j 1 with h | h
        · omega
        · rw [List.getElem?_eq_none (by simpa using h)] at hz; cases hz
      subst hj
      rw [Addr.add_lit, Nat.zero_add, cell_of_row w g 0 _ _ _ hg]
      exact hz) (fun z hz => by simp at hz; subst hz; rfl) (by simp only [maxLen]; omega) (by omega) hB
  unfold Oper.wp
  simp [execOp, ho, resolve, invoke, builtin, hs, hy, hrun, Result.andThen]
  exact h v' w' ⟨_, hw.more hx hlt hTn h2 h3 h5⟩ h3 h5
section
variable {w w' : World} {B L D M g : Nat} {d d' : Dk} {F F' : List Ent} {nm : ByteArray} {rs : List (List UInt8)} {v : Value}
theorem Rw.lt {T : Nat → Prop} (h : Rw B T w v rs) {k : Nat} (hk : v.ownBlock = some k) : B ≤ k ∧ k < w.heap.size := by
  obtain ⟨vs, hv⟩ := h
  exact World.ownsRow.lt hv.2.1 k hk
theorem Rw.offT {T : Nat → Prop} (h : Rw B T w v rs) {k : Nat} (hk : v.ownBlock = some k) : ¬ T k := by
  obtain ⟨vs, hv⟩ := h
  exact hv.2.2.2.1 k hk
/-- the records' row in another place, and the field stored -/
theorem LgAt.app {v2 : Value} {Z : List (List UInt8)} {w2 : World} (h : LgAt w B L D M F nm rs g v) (hd : DkAt w B D M d F) (hw : Rw B (LT L D M F) w2 v2 Z) (hg : w.grownBy w2 v.ownBlock) (hf : v2.ownBlock = v.ownBlock ∨ v2.ownBlock = some w.heap.size) :
    w2.cell? ⟨L, 2, none⟩ = some v ∧ w2.frozen? ⟨L, 2, none⟩ = false ∧ Hid (LgAt (w2.setCell ⟨L, 2, none⟩ v2) B L D M F nm Z g v2 ∧ DkAt (w2.setCell ⟨L, 2, none⟩ v2) B D M d F ∧ WlCh L D M F F v v2 w (w2.setCell ⟨L, 2, none⟩ v2)) := by
  have hch : Ch (fun k => v.ownBlock = some k) w w2 := Ch.of_grown hg (fun k hk => hk)
  have hoff : ∀ k, v.ownBlock = some k → ¬ LT L D M F k := fun k hk => h.rw.offT hk
  have r := hch.row h.row (fun e => hoff _ e (.inl rfl))
  have hd2 : DkAt w2 B D M d F := hd.ch hch (fun k hk hs => hoff k hs (.inr hk))
  have hcs : Ch (At1 L) w2 (w2.setCell ⟨L, 2, none⟩ v2) := (Ch.refl _ w2).set1 2 _
  refine ⟨by rw [cell_of_row w2 L 2 _ _ _ r]; rfl, by simp [World.frozen?, r], Lib.hid ⟨⟨heap_set_row r v2, h.base, h.off, hw.ch hcs (fun k _ hk => .inl hk) (fun _ _ hk => hk)⟩, hd2.ch hcs (fun k hk hs => by rw [show k = L from hs] at hk; exact h.off hk), ?_, ?_⟩⟩
  · exact ((Ch.refl (WFoot L D M F v) w).trans hch (fun k _ hk => .inr hk)).trans hcs (fun k _ hk => .inl (.inl hk))
  · intro k hk
    rcases hk with hk | hk
    · exact .inl (.inl hk)
    · rcases hf with q | q
      · exact .inl (.inr (by rw [← q]; exact hk))
      · rw [q] at hk; injection hk with hk; exact .inr (by omega)
theorem LgAt.setGood (h : LgAt w B L D M F nm rs g v) (hd : DkAt w B D M d F) (k : Nat) : LgAt (w.setCell ⟨L, 3, none⟩ (.int .i64 (k : Int))) B L D M F nm rs k v ∧ DkAt (w.setCell ⟨L, 3, none⟩ (.int .i64 (k : Int))) B D M d F ∧ WlCh L D M F F v v w (w.setCell ⟨L, 3, none⟩ (.int .i64 (k : Int))) := by
  have hcs : Ch (At1 L) w (w.setCell ⟨L, 3, none⟩ (.int .i64 (k : Int))) := (Ch.refl _ w).set1 3 _
  exact ⟨⟨heap_set_row h.row _, h.base, h.off, h.rw.ch hcs (fun k _ hk => .inl hk) (fun _ _ hk => hk)⟩, hd.ch hcs (fun k hk hs => by rw [show k = L from hs] at hk; exact h.off hk), ⟨(Ch.refl (WFoot L D M F v) w).trans hcs (fun k _ hk => .inl (.inl hk)), fun _ hk => .inl hk⟩⟩

/-- what keep leaves -/
def KEnd (B L D M : Nat) (F : List Ent) (nm : ByteArray) (rs : List (List UInt8)) (g : Nat) (v : Value) (w : World) (l : List UInt8) (n : Nat) (r : Out) (e : Ending) (w' : World) : Prop :=
  ∃ F' v', e = endM r.1 ∧ DkAt w' B D M r.2.1 F' ∧ fsOf F' = r.2.2 ∧ LgAt w' B L D M F' nm (if r.1 = .inl 0 then rs ++ [l] else rs) (if r.1 = .inl 0 then g + n else g) v' ∧ WlCh L D M F F' v v' w w'
theorem KEnd.undo {B L D M : Nat} {F F2 : List Ent} {w2 : World} {l : List UInt8} {n : Nat} {x : Int} (hx : x ≠ 0) {r : Out} {e : Ending} {w3 : World} (h : LgAt w2 B L D M F2 nm rs g v) (c : WlCh L D M F F2 v v w w2) (hu : UEnds B D M F2 w2 r e w3) :
    (∃ op, r.1 = .inr op ∧ e = .panicked [{ v := crashI op, recovered := false }] ∧ KEnd B L D M F nm rs g v w l n (undo_ x r) (.panicked [{ v := crashI op, recovered := false }]) w3) ∨ (e = .returned (.tuple #[]) ∧ KEnd B L D M F nm rs g v w l n (undo_ x r) (.returned (.int .i64 x)) w3) := by
  obtain ⟨F3, he, h3, hc3, hf3⟩ := hu
  obtain ⟨y | op, d3, fs3⟩ := r
  · right
    refine ⟨he, F3, v, rfl, h3, hf3, ?_, c.trans (WlCh.of_dk hc3)⟩
    have hne : ¬ ((undo_ x (.inl y, d3, fs3)).1 = .inl 0) := fun e => hx (by injection e)
    rw [if_neg hne, if_neg hne]
    exact h.dkch hc3
  · left
    refine ⟨op, rfl, he, F3, v, rfl, h3, hf3, ?_, c.trans (WlCh.of_dk hc3)⟩
    have hne : ¬ ((undo_ x (.inr op, d3, fs3)).1 = .inl 0) := fun e => by cases e
    rw [if_neg hne, if_neg hne]
    exact h.dkch hc3

set_option maxRecDepth 100000 in
set_option maxHeartbeats 8000000 in
theorem walKeep (h : LgAt w B L D M F nm rs g v) (hd : DkAt w B D M d F) (ok : FsOk d (fsOf F)) (ho : d.ops + 8 ≤ 1152921504606846976) (hs : nm.size ≤ 140737488355328) (A : Option Addr) (c : Nat) (l : List UInt8) (hl : Bs w A l.length c l) (hm : l.length ≤ 140737488355328)
    (hoff : 0 < l.length → ∀ b, A = some b → ¬ DFoot D M F b.block) (A2 : Option Addr) (m2 c2 : Nat) (lr : List UInt8) (hr : Bs w A2 m2 c2 lr) (hg : g + m2 ≤ 1099511627776) (hn : rs.length ≤ 1099511627770) (hBw : B ≤ w.heap.size) :
    Calls Try.prog 40 #[pL L, .slice A l.length c, .slice A2 m2 c2, .func (Fn.func 41) #[pL L] #[]] w (KEnd B L D M F nm rs g v w l m2 (addA nm g m2 (appO d (fsOf F) nm lr))) := by
  have c0 : w.drew.cell? ⟨L, 0, none⟩ = some (pD D) := h.cell 0
  have c1 : w.drew.cell? ⟨L, 1, none⟩ = some (.string nm) := h.cell 1
  have hb0 : Below w.heap.size w w.drew := (Below.refl _ w).drew
  have H1 := Lib.hid (h.below hb0)
  have HD1 := Lib.hid (hd.below hb0)
  have HL1 := Lib.hid (hl.below hb0)
  have HR1 := Lib.hid (hr.below hb0)
  have HC1 : Hid (WlCh L D M F F v v w w.drew) := Lib.hid (WlCh.of_below hb0)
  have HLM := Lib.hid hr.len
  have HBW1 : Hid (B ≤ w.drew.heap.size) := Lib.hid hBw
  have OK := Lib.hid ok
  have HO := Lib.hid ho
  have HOFF := Lib.hid hoff
  have HM := Lib.hid hm
  have HG := Lib.hid hg
  have HN := Lib.hid hn
  clear h hd ok ho hl hr hb0 hBw hoff hm hg hn
  go_enter Try.func40, Try.ntmps40
  go_wp2_with (fail)
  have HA := mAppendW HD1.out OK.out nm hs A2 m2 c2 lr HR1.out HBW1.out
  have hok2 := app_okW OK.out (by have := HO.out; omega) nm lr
  have hop2 := app_opsW d (fsOf F) nm lr
  have hnum := app_numW d (fsOf F) nm lr
  generalize appO d (fsOf F) nm lr = r at *
  have keyF : ∀ (w2 : World) (F2 : List Ent), DkCh D M F F2 w.drew w2 → Bs w2 A l.length c l ∧ WlCh L D M F F2 v v w w2 ∧ LgAt w2 B L D M F2 nm rs g v ∧ (0 < l.length → ∀ b, A = some b → ¬ DFoot D M F2 b.block) ∧ B ≤ w2.heap.size := fun w2 F2 hc2 =>
    ⟨HL1.out.ch hc2.ch HOFF.out, HC1.out.trans (WlCh.of_dk hc2), H1.out.dkch hc2, fun h0 b hb hk => by
      rcases hc2.dfoot hk with h5 | h5
      · exact HOFF.out h0 b hb h5
      · obtain ⟨b', o', e', hlt, _⟩ := HL1.out.at_ h0
        rw [hb] at e'; injection e' with e'; subst e'; have h6 : w.drew.heap.size ≤ b' := h5; omega, Nat.le_trans HBW1.out hc2.ch.size⟩
  have KF := Lib.hid keyF
  have HAA := Lib.hid HA
  have HNUM := Lib.hid hnum
  have HOK2 := Lib.hid hok2
  have HOP2 := Lib.hid hop2
  clear keyF HA hnum hok2 hop2 H1 HD1 HL1 HR1 HC1 HBW1 HOFF OK
  refine wp_region_held_drew (S := fun W => W.cell? ⟨L, 0, none⟩ = some (pD D) ∧ W.cell? ⟨L, 1, none⟩ = some (.string nm)) (by kernel_rfl) ⟨c0, c1⟩ (fun hHeld => ?_)
  refine wpAnyH_take (i := 0) (oi := ⟨some 12, _, _, _, _, _⟩) (v := ?v1) rfl (by kernel_rfl) (by kernel_rfl) (by kernel_rfl) (fun _ _ _ h => h) (Or.inl ⟨by kernel_rfl, ?hy1⟩) hHeld ?rest1
  case hy1 =>
    intro w hSw
    (try dsimp only at hSw)
    go_simp
    (try with_reducible rfl)
  (try simp only [Act.put])
  refine wpAnyH_take (i := 1) (oi := ⟨some 13, _, _, _, _, _⟩) (v := ?v2) rfl (by kernel_rfl) (by kernel_rfl) (by kernel_rfl) (fun _ _ _ h => h) (Or.inl ⟨by kernel_rfl, ?hy2⟩) hHeld ?rest2
  case hy2 =>
    intro w hSw
    (try dsimp only at hSw)
    go_simp
    (try with_reducible rfl)
  (try simp only [Act.put])
  refine wpAnyH_take (i := 2) (oi := ⟨some 14, _, _, _, _, _⟩) (v := ?v3) rfl (by kernel_rfl) (by kernel_rfl) (by kernel_rfl) (fun _ _ _ h => h) (Or.inl ⟨by kernel_rfl, ?hy3⟩) hHeld ?rest3
  case hy3 =>
    intro w hSw
    (try dsimp only at hSw)
    go_simp
    (try with_reducible rfl)
  (try simp only [Act.put])
  refine wpAnyH_take (i := 3) (oi := ⟨some 15, _, _, _, _, _⟩) (v := ?v4) rfl (by kernel_rfl) (by kernel_rfl) (by kernel_rfl) (fun _ _ _ h => h) (Or.inl ⟨by kernel_rfl, ?hy4⟩) hHeld ?rest4
  case hy4 =>
    intro w hSw
    (try dsimp only at hSw)
    go_simp
    (try with_reducible rfl)
  (try simp only [Act.put])
  refine wpAnyH_take (i := 4) (oi := ⟨some 16, _, _, _, _, _⟩) (v := ?v5) rfl (by kernel_rfl) (by kernel_rfl) (by kernel_rfl) (fun _ _ _ h => h) (Or.inl ⟨by kernel_rfl, ?hy5⟩) hHeld ?rest5
  case hy5 =>
    intro w hSw
    (try dsimp only at hSw)
    go_simp
    (try with_reducible rfl)
  (try simp only [Act.put])
  refine wpAnyH_take (i := 5) (oi := ⟨some 17, _, _, _, _, _⟩) (v := ?v6) rfl (by kernel_rfl) (by kernel_rfl) (by kernel_rfl) (fun _ _ _ h => h) (Or.inl ⟨by kernel_rfl, ?hy6⟩) hHeld ?rest6
  case hy6 =>
    intro w hSw
    (try dsimp only at hSw)
    go_simp
    (try with_reducible rfl)
  (try simp only [Act.put])
  refine wpAnyH_take (i := 6) (oi := ⟨some 18, _, _, _, _, _⟩) (v := ?v7) rfl (by kernel_rfl) (by kernel_rfl) (by kernel_rfl) (fun _ _ _ h => h) (Or.inl ⟨by kernel_rfl, ?hy7⟩) hHeld ?rest7
  case hy7 =>
    intro w hSw
    (try dsimp only at hSw)
    go_simp
    (try with_reducible rfl)
  (try simp only [Act.put])
  refine wpAnyH_take (i := 7) (oi := ⟨some 19, _, _, _, _, _⟩) (v := ?v8) rfl (by kernel_rfl) (by kernel_rfl) (by kernel_rfl) (fun _ _ _ h => h) (Or.inl ⟨by kernel_rfl, ?hy8⟩) hHeld ?rest8
  case hy8 =>
    intro w hSw
    (try dsimp only at hSw)
    go_simp
    (try with_reducible rfl)
  (try simp only [Act.put])
  refine wpAnyH_take (i := 8) (oi := ⟨some 20, _, _, _, _, _⟩) (v := ?v9) rfl (by kernel_rfl) (by kernel_rfl) (by kernel_rfl) (fun _ _ _ h => h) (Or.inl ⟨by kernel_rfl, ?hy9⟩) hHeld ?rest9
  case hy9 =>
    intro w hSw
    (try dsimp only at hSw)
    go_simp
    (try with_reducible rfl)
  (try simp only [Act.put])
  clear hHeld c0 c1
  refine wpAnyH_ready (rs := [9]) (by kernel_rfl) (by simp) (AllReadyH.cons (o := _) rfl (fun K' hK => ?_) AllReadyH.nil)
  go_simp
  refine HAA.out.mono ?_
  rintro e w2 ⟨F2, he, h2, hc2, hf2⟩
  have HKF := Lib.hid (KF.out _ _ hc2)
  obtain ⟨⟨n, y | op⟩, d2, fs2⟩ := r
  · obtain ⟨n, rfl⟩ : ∃ k : Nat, n = (k : Int) := HNUM.out
    obtain rfl : fsOf F2 = fs2 := hf2
    obtain rfl : e = .returned (.tuple #[.int .i64 (n : Int), .int .i64 y]) := he
    have HD2 := Lib.hid (show DkAt w2 B D M d2 F2 from h2)
    have OK2 := Lib.hid (show FsOk d2 (fsOf F2) from HOK2.out)
    have HP2 : Hid (d2.ops ≤ d.ops + 1) := Lib.hid HOP2.out
    have HL2 := Lib.hid HKF.out.1
    have HC2 := Lib.hid HKF.out.2.1
    have H2 := Lib.hid HKF.out.2.2.1
    have HOF2 := Lib.hid HKF.out.2.2.2.1
    have HBW2 := Lib.hid HKF.out.2.2.2.2
    dsimp only
    refine hK.out _ _ ⟨H2.out.cell 0, H2.out.cell 1⟩ (fun hHeld => ?_)
    clear hK K' h2 hc2 HKF KF HAA HNUM HOK2 HOP2
    (try simp only [Act.put])
    refine wpAnyH_take (i := 10) (oi := ⟨some 11, _, _, _, _, _⟩) (v := ?v10) rfl (by kernel_rfl) (by kernel_rfl) (by kernel_rfl) (fun _ _ _ h => h) (Or.inl ⟨by kernel_rfl, ?hy10⟩) hHeld ?rest10
    case hy10 =>
      intro w hSw
      (try dsimp only at hSw)
      go_simp
      (try with_reducible rfl)
    (try simp only [Act.put])
    refine wpAnyH_take (i := 11) (oi := ⟨some 22, _, _, _, _, _⟩) (v := ?v11) rfl (by kernel_rfl) (by kernel_rfl) (by kernel_rfl) (fun _ _ _ h => h) (Or.inl ⟨by kernel_rfl, ?hy11⟩) hHeld ?rest11
    case hy11 =>
      intro w hSw
      (try dsimp only at hSw)
      go_simp
      (try with_reducible rfl)
    (try simp only [Act.put])
    refine wpAnyH_take (i := 12) (oi := ⟨some 23, _, _, _, _, _⟩) (v := ?v12) rfl (by kernel_rfl) (by kernel_rfl) (by kernel_rfl) (fun _ _ _ h => h) (Or.inl ⟨by kernel_rfl, ?hy12⟩) hHeld ?rest12
    case hy12 =>
      intro w hSw
      (try dsimp only at hSw)
      go_simp
      (try with_reducible rfl)
    (try simp only [Act.put])
    refine wpAnyH_take (i := 13) (oi := ⟨some 9, _, _, _, _, _⟩) (v := ?v13) rfl (by kernel_rfl) (by kernel_rfl) (by kernel_rfl) (fun _ _ _ h => h) (Or.inl ⟨by kernel_rfl, ?hy13⟩) hHeld ?rest13
    case hy13 =>
      intro w hSw
      (try dsimp only at hSw)
      go_simp
      (try with_reducible rfl)
    (try simp only [Act.put])
    refine wpAnyH_take (i := 14) (oi := ⟨some 10, _, _, _, _, _⟩) (v := ?v14) rfl (by kernel_rfl) (by kernel_rfl) (by kernel_rfl) (fun _ _ _ h => h) (Or.inl ⟨by kernel_rfl, ?hy14⟩) hHeld ?rest14
    case hy14 =>
      intro w hSw
      (try dsimp only at hSw)
      go_simp
      (try with_reducible rfl)
    (try simp only [Act.put])
    clear hHeld
    (try simp only [List.setIfInBounds_toArray, List.set_cons_zero, List.set_cons_succ])
    refine wpAnyH_done (by kernel_rfl) ?_ _
    have HE : Hid (addA nm g m2 (((n : Int), .inl y), d2, fsOf F2) = if (n : Int) < (m2 : Int) then undo_ 4 (opTrunc d2 (fsOf F2) nm (g : Int)) else addS nm g (opSync d2 (fsOf F2) nm)) := Lib.hid rfl
    by_cases hlt : n < m2
    · have e1 : decide (n < m2) = true := by simpa using hlt
      have e2 : (n : Int) < (m2 : Int) := by omega
      have HE2 : Hid (addA nm g m2 (((n : Int), .inl y), d2, fsOf F2) = undo_ 4 (opTrunc d2 (fsOf F2) nm (g : Int))) := Lib.hid (by rw [HE.out, if_pos e2])
      clear hlt e2 HE
      go_wp2_with (fail)
      refine (walTakeBack H2.out HD2.out OK2.out).mono ?_
      rintro e w3 hu
      rcases KEnd.undo (x := 4) (l := l) (n := m2) (by decide) H2.out HC2.out hu with ⟨op, hr, rfl, hK⟩ | ⟨rfl, hK⟩
      · rw [HE2.out]
        exact ⟨rfl, hK⟩
      · have HK := Lib.hid hK
        clear hu hK
        go_wp2_with (fail)
        go_ret
        rw [HE2.out]
        exact HK.out
    · have e1 : decide (n < m2) = false := by simpa using hlt
      have e2 : ¬ (n : Int) < (m2 : Int) := by omega
      have HE2 : Hid (addA nm g m2 (((n : Int), .inl y), d2, fsOf F2) = addS nm g (opSync d2 (fsOf F2) nm)) := Lib.hid (by rw [HE.out, if_neg e2])
      clear hlt e2 HE
      have c0 : ∀ n : Here w2.drew, n.u.cell? ⟨L, 0, none⟩ = some (pD D) := Here.cell (H2.out.cell 0)
      have c1 : ∀ n : Here w2.drew, n.u.cell? ⟨L, 1, none⟩ = some (.string nm) := Here.cell (H2.out.cell 1)
      have hb2 : Below w2.heap.size w2 w2.drew := (Below.refl _ w2).drew
      have H3 := Lib.hid (H2.out.below hb2)
      have HD3 := Lib.hid (HD2.out.below hb2)
      have HL3 := Lib.hid (HL2.out.below hb2)
      have HC3 : Hid (WlCh L D M F F2 v v w w2.drew) := Lib.hid (HC2.out.trans (WlCh.of_below hb2))
      have HBW3 : Hid (B ≤ w2.drew.heap.size) := Lib.hid HBW2.out
      clear hb2 H2 HD2 HL2 HC2 HBW2
      go_wp2_with (fail)
      refine region_tail 8 (by kernel_rfl) (by kernel_rfl) ?_
      simp only [List.take_succ_cons, List.take_zero, List.drop_succ_cons, List.drop_zero]
      repeat (go_big_quiet_step (fail))
      refine wpQuiet_nil ?_
      clear c0 c1 e1
      generalize w2.drew = w3 at *
      go_wp2_with (fail)
      refine (mSync HD3.out OK2.out nm).mono ?_
      rintro e w4 ⟨F4, he, h4, hc4, hf4⟩
      have hok4 := sync_ok OK2.out (by have := HO.out; have := HP2.out; omega) nm
      have hop4 := sync_opsW d2 (fsOf F2) nm
      generalize opSync d2 (fsOf F2) nm = r at *
      have HL4 : Hid (Bs w4 A l.length c l) := Lib.hid (HL3.out.ch hc4.ch HOF2.out)
      have HC4 : Hid (WlCh L D M F F4 v v w w4) := Lib.hid (HC3.out.trans (WlCh.of_dk hc4))
      have H4 := Lib.hid (H3.out.dkch hc4)
      have HBW4 : Hid (B ≤ w4.heap.size) := Lib.hid (Nat.le_trans HBW3.out hc4.ch.size)
      clear hc4 H3 HD3 HL3 HC3 HBW3 HOF2 OK2
      obtain ⟨x | op, d4, fs4⟩ := r
      · obtain rfl : fsOf F4 = fs4 := hf4
        obtain rfl : e = .returned (.int .i64 x) := he
        have HD4 := Lib.hid (show DkAt w4 B D M d4 F4 from h4)
        have OK4 := Lib.hid (show FsOk d4 (fsOf F4) from hok4)
        clear h4 hok4 hop4
        have HE : Hid (addA nm g m2 (((n : Int), .inl y), d2, fsOf F2) = if x = 0 then (.inl 0, (d4, fsOf F4)) else undo_ 5 (opTrunc d4 (fsOf F4) nm (g : Int))) := HE2
        clear HE2
        by_cases hx : x = 0
        · subst hx
          have HE2 : Hid (addA nm g m2 (((n : Int), .inl y), d2, fsOf F2) = ((.inl 0, (d4, fsOf F4)) : Out)) := Lib.hid (by rw [HE.out, if_pos rfl])
          clear HE
          go_wp2_with (fail)
          obtain ⟨Av, cv, rfl⟩ := H4.out.rw.form
          have hb5 : Below w4.heap.size w4 w4.drew := (Below.refl _ w4).drew
          have H5 := Lib.hid (H4.out.below hb5)
          have HD5 := Lib.hid (HD4.out.below hb5)
          have HL5 := Lib.hid (HL4.out.below hb5)
          have HC5 : Hid (WlCh L D M F F4 (.slice Av rs.length cv) (.slice Av rs.length cv) w w4.drew) := Lib.hid (HC4.out.trans (WlCh.of_below hb5))
          have HBW5 : Hid (B ≤ w4.drew.heap.size) := Lib.hid HBW4.out
          have cA : w4.drew.cell? ⟨L, 2, none⟩ = some (.slice Av rs.length cv) := H5.out.cell 2
          obtain ⟨Z, hZ⟩ : ∃ Z, Z = rs ++ [l] := ⟨_, rfl⟩
          have HZ := Lib.hid hZ
          have tok1 : Hid True := Lib.hid trivial
          have tok2 : Hid True := Lib.hid trivial
          clear hb5 H4 HD4 HL4 HC4 HBW4 hZ
          go_region_law (first
            | (have _t := tok1; go_simp; refine (walClone A _ c l _ HL5.out HM.out).mono ?_; rintro e w6 ⟨q, rfl, hq, hr6, hb6⟩; have H6 := Lib.hid (H5.out.below hb6); have HD6 := Lib.hid (HD5.out.below hb6); have HC6 := Lib.hid (HC5.out.trans (WlCh.of_below hb6)); have HBW6 : Hid (B ≤ w6.heap.size) := Lib.hid (Nat.le_trans HBW5.out hb6.size); have HB6 : Hid (Bs w6 (some ⟨q, 0, none⟩) l.length l.length l) := Lib.hid (Bs.block hr6 rfl (by have := HM.out; simp only [maxLen]; omega)); have HLT : Hid (0 < l.length → ∀ b, (some ⟨q, 0, none⟩ : Option Addr) = some b → ¬ (Value.slice Av rs.length cv).ownBlock = some b.block ∧ ¬ LT L D M F4 b.block) := Lib.hid (fun _ b hb => by injection hb with hb; subst hb; exact ⟨fun e => by have := (H5.out.rw.lt e).2; simp only at this; omega, fun e => by have := (H5.out.foot_lt HD5.out (.inl e)).2; simp only at this; omega⟩); have cB : w6.cell? ⟨L, 2, none⟩ = some (.slice Av rs.length cv) := H6.out.cell 2; have cC : ∀ o, (w6.alloc o).cell? ⟨L, 2, none⟩ = some (.slice Av rs.length cv) := fun o => (H6.out.below ((Below.refl _ _).alloc (Nat.le_refl _) o)).cell 2; have HS7 := Lib.hid ((Below.refl w6.heap.size w6).alloc (Nat.le_refl _) (.cells #[.slice (some ⟨q, 0, none⟩) l.length l.length] 27)); have H7 := Lib.hid (H6.out.below HS7.out); have HD7 := Lib.hid (HD6.out.below HS7.out); have HB7 := Lib.hid (HB6.out.below HS7.out); have HC7 := Lib.hid (HC6.out.trans (WlCh.of_below HS7.out)); have HROW := Lib.hid (heap_alloc_new w6 (.cells #[.slice (some ⟨q, 0, none⟩) l.length l.length] 27)); have HTN : Hid (¬ LT L D M F4 (w6.alloc (.cells #[.slice (some ⟨q, 0, none⟩) l.length l.length] 27)).heap.size) := Lib.hid (fun e => by have := (H6.out.foot_lt HD6.out (.inl e)).2; simp only [World.size_alloc] at this; omega); have HBW7 : Hid (B ≤ (w6.alloc (.cells #[.slice (some ⟨q, 0, none⟩) l.length l.length] 27)).heap.size) := Lib.hid (Nat.le_trans HBW6.out HS7.out.size); clear tok1 hq hr6 hb6 _t; dsimp only)
            | (have _t := tok2; refine step_rwW rfl (.tmp 46) (.tmp 49) rfl B (LT L D M F4) (.slice Av rs.length cv) rs l (some ⟨q, 0, none⟩) l.length rfl H7.out.rw HB7.out HLT.out HTN.out w6.heap.size rfl HROW.out HN.out HBW7.out ?_; intro v2 w8 hw8 hgr8 hfr8; rw [← HZ.out] at hw8; obtain ⟨A8, c8, rfl⟩ := hw8.form; obtain ⟨z1, z2, HDN⟩ := H7.out.app HD7.out hw8 hgr8 hfr8; clear tok2 hw8 hgr8 hfr8 _t))
          all_goals
            have H9 := Lib.hid HDN.out.1
            have HD9 := Lib.hid HDN.out.2.1
            have HC9 := Lib.hid (HC7.out.trans HDN.out.2.2)
            clear HDN z1 z2 cA cB cC H5 HD5 HL5 HC5 HBW5 H6 HD6 HC6 HBW6 HB6 HLT HS7 H7 HD7 HB7 HC7 HROW HTN HBW7
            generalize w8.setCell ⟨L, 2, none⟩ (.slice A8 Z.length c8) = w9 at *
            have c3 : w9.cell? ⟨L, 3, none⟩ = some (.int .i64 (g : Int)) := H9.out.cell 3
            have f3 := H9.out.frozen 3
            have ws : wrap64 ((g : Int) + (m2 : Int)) = ((g + m2 : Nat) : Int) := by rw [IntWalk.wrap64_in _ (by have := HG.out; omega)]; omega
            have ws2 : IntKind.i64.wrap ((g : Int) + (m2 : Int)) = ((g + m2 : Nat) : Int) := by rw [IntWalk.i64_in _ (by have := HG.out; omega)]; omega
            obtain ⟨G, hG⟩ : ∃ G, G = g + m2 := ⟨_, rfl⟩
            rw [← hG] at ws ws2
            have HGG := Lib.hid hG
            clear hG
            go_wp2_with (fail)
            obtain ⟨q1, q2, q3⟩ := H9.out.setGood HD9.out G
            have HK : Hid (KEnd B L D M F nm rs g (.slice Av rs.length cv) w l m2 ((.inl 0, (d4, fsOf F4)) : Out) (.returned (.int .i64 0)) (w9.setCell ⟨L, 3, none⟩ (.int .i64 (G : Int)))) := Lib.hid ⟨F4, _, rfl, q2, rfl, by rw [if_pos rfl, if_pos rfl, ← HZ.out, ← HGG.out]; exact q1, HC9.out.trans q3⟩
            clear q1 q2 q3
            go_ret
            rw [HE2.out]
            exact HK.out
        · have HE2 : Hid (addA nm g m2 (((n : Int), .inl y), d2, fsOf F2) = undo_ 5 (opTrunc d4 (fsOf F4) nm (g : Int))) := Lib.hid (by rw [HE.out, if_neg hx])
          have e1 : (x != 0) = true := by simpa using hx
          clear hx HE
          go_wp2_with (fail)
          refine (walTakeBack H4.out HD4.out OK4.out).mono ?_
          rintro e w5 hu
          rcases KEnd.undo (x := 5) (l := l) (n := m2) (by decide) H4.out HC4.out hu with ⟨op, hr, rfl, hK⟩ | ⟨rfl, hK⟩
          · rw [HE2.out]
            exact ⟨rfl, hK⟩
          · have HK := Lib.hid hK
            clear hu hK
            go_wp2_with (fail)
            go_ret
            rw [HE2.out]
            exact HK.out
      · obtain rfl : fsOf F4 = fs4 := hf4
        obtain rfl : e = .panicked [{ v := crashI op, recovered := false }] := he
        refine ⟨rfl, ?_⟩
        rw [HE2.out]
        exact ⟨F4, v, rfl, h4, rfl, by rw [if_neg (by intro e; cases e), if_neg (by intro e; cases e)]; exact H4.out, HC4.out⟩
  · obtain rfl : fsOf F2 = fs2 := hf2
    obtain rfl : e = .panicked [{ v := crashI op, recovered := false }] := he
    exact ⟨rfl, F2, v, rfl, h2, rfl, by rw [if_neg (by intro e; cases e), if_neg (by intro e; cases e)]; exact HKF.out.2.2.1, HKF.out.2.1⟩
end
end Go.Proofs.Ythblbmbefhlbjaa
