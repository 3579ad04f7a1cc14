/- Layer 14: a record added, and a log opened, walked. -/
import Derived.Test.YthblbmbefhlbjaaWal3
import Derived.Test.YthblbmbefhlbjaaScanN
import Derived.Test.YthblbmbefhlbjaaEntryPut
namespace Go.Proofs.Ythblbmbefhlbjaa
open Go.RowKit Go.MapKept

section
variable {w w' : World} {B L D M g : Nat} {d d' : Dk} {F F' : List Ent} {nm : ByteArray} {rs : List (List UInt8)} {v : Value}
theorem KEnd.pre {w1 : World} {l : List UInt8} {n : Nat} {r : Out} {e : Ending} (hb : Below w.heap.size w w1) (h : KEnd B L D M F nm rs g v w1 l n r e w') : KEnd B L D M F nm rs g v w l n r e w' := by
  obtain ⟨F', v', h1, h2, h3, h4, h5⟩ := h
  exact ⟨F', v', h1, h2, h3, h4, (WlCh.of_below hb).trans h5⟩
set_option maxRecDepth 100000 in
set_option maxHeartbeats 4000000 in
theorem walAdd (h : LgAt w B L D M F nm rs g v) (hd : DkAt w B D M d F) (ok : FsOk d (fsOf F)) (ho : d.ops + 8 ≤ 1152921504606846976) (hs : nm.size ≤ 140737488355328) (A : Option Addr) (c : Nat) (l : List UInt8) (hl : Bs w A l.length c l)
    (hoff : 0 < l.length → ∀ b, A = some b → ¬ DFoot D M F b.block) (hg : g ≤ 1099511000000) (hn : rs.length ≤ 1099511627770) (hBw : B ≤ w.heap.size) :
    Calls Try.prog 13 #[pL L, .slice A l.length c] w (KEnd B L D M F nm rs g v w l (record l).length (addD d (fsOf F) nm g l)) := by
  have hmf : ∀ (fn : Fn) (first cap : Array Value) (w : World), (Instr.makeFunc fn first cap).run Try.prog w = .ok (.func fn first cap) w := fun _ _ _ _ => rfl
  have H := Lib.hid h
  have HD := Lib.hid hd
  have OK := Lib.hid ok
  have HO := Lib.hid ho
  have HL := Lib.hid hl
  have HOFF := Lib.hid hoff
  have HG := Lib.hid hg
  have HN := Lib.hid hn
  have HBW := Lib.hid hBw
  clear h hd ok ho hl hoff hg hn hBw
  go_enter Try.func13, Try.ntmps13
  go_wp2_with (fail)
  refine (entryPut A l.length c l w HL.out).mono ?_
  rintro e w1 ⟨A2, c2, rfl, hB2, hb1⟩
  have HB1 := Lib.hid hb1
  have HB2 := Lib.hid hB2
  have H1 := Lib.hid (H.out.below hb1)
  have HD1 := Lib.hid (HD.out.below hb1)
  have HL1 := Lib.hid (HL.out.below hb1)
  have HBW1 : Hid (B ≤ w1.heap.size) := Lib.hid (Nat.le_trans HBW.out hb1.size)
  clear hb1 hB2 H HD HL HBW
  by_cases hk : okLen l.length = true
  · have HE : Hid (addD d (fsOf F) nm g l = addA nm g (record l).length (appO d (fsOf F) nm (record l))) := Lib.hid (if_pos hk)
    have HK := Lib.hid hk
    rw [if_pos hk] at HB2 ⊢
    rw [if_pos hk]
    clear hk
    have HRL := Lib.hid (record_length l)
    obtain ⟨R, hR⟩ : ∃ R, R = record l := ⟨_, rfl⟩
    rw [← hR] at HB2 HE HRL ⊢
    have HRR : Hid (R.length = (record l).length) := Lib.hid (by rw [hR])
    clear hR
    go_wp2_with (fail)
    refine (walKeep H1.out HD1.out OK.out HO.out hs A c l HL1.out (by have := okLen_yes HK.out; omega) HOFF.out A2 R.length c2 R HB2.out (by have := okLen_yes HK.out; have := HRL.out; have := HG.out; omega) HN.out HBW1.out).mono ?_
    intro e w2 hK
    have hK := hK.pre HB1.out
    rw [← HE.out] at hK
    obtain ⟨F', v', he, h2, h3, h4, h5⟩ := hK
    have HP : Hid (∀ e, e = endM (addD d (fsOf F) nm g l).1 → KEnd B L D M F nm rs g v w l (record l).length (addD d (fsOf F) nm g l) e w2) := Lib.hid (fun e he => by rw [← HRR.out]; exact ⟨F', v', he, h2, h3, h4, h5⟩)
    clear h2 h3 h4 h5
    generalize addD d (fsOf F) nm g l = r at *
    obtain ⟨x | op, s⟩ := r
    · obtain rfl : e = .returned (.int .i64 x) := he
      go_wp2_with (fail)
      go_ret
      exact HP.out _ rfl
    · obtain rfl : e = .panicked [{ v := crashI op, recovered := false }] := he
      exact ⟨rfl, HP.out _ rfl⟩
  · have HE : Hid (addD d (fsOf F) nm g l = (.inl 9, d, fsOf F)) := Lib.hid (if_neg hk)
    rw [if_neg hk] at HB2 ⊢
    rw [if_neg hk]
    clear hk
    go_wp2_with (fail)
    go_ret
    rw [HE.out]
    exact ⟨F, v, rfl, HD1.out, rfl, by rw [if_neg (by intro e; injection e with e; exact absurd e (by decide)), if_neg (by intro e; injection e with e; exact absurd e (by decide))]; exact H1.out, WlCh.of_below HB1.out⟩
theorem mReadW (h : DkAt w B D M d F) (hlen : FileLens F) (nm : ByteArray) : Calls Try.prog 29 #[pD D, .string nm] w fun e w' => ∃ A c x, e = .returned (.tuple #[.slice A (bsOf (fsOf F) nm).length c, .int .i64 x]) ∧ Bs w' A (bsOf (fsOf F) nm).length c (bsOf (fsOf F) nm) ∧ (∀ b, A = some b → w.heap.size ≤ b.block) ∧ Below w.heap.size w w' := by
  unfold bsOf
  cases hf : fget (fsOf F) nm with
  | none =>
    have hno : ∀ e ∈ F, e.nm ≠ nm := by
      rcases fget_split F nm with ⟨_, h1⟩ | ⟨P, e, Q, rfl, rfl, h1, _⟩
      · exact h1
      · rw [h1] at hf; cases hf
    refine (dkRead_none h nm hno).mono ?_
    rintro e w' ⟨rfl, rfl⟩
    exact ⟨none, 0, 6, rfl, Bs.nil _ 0 none (by simp [maxLen]), (fun b hb => by cases hb), Below.refl _ _⟩
  | some f =>
    have hl : f.bs.length ≤ 1073741824 := by
      rcases fget_split F nm with ⟨h0, _⟩ | ⟨P, e, Q, rfl, rfl, h1, _⟩
      · rw [h0] at hf; cases hf
      · rw [h1] at hf; injection hf with hf; subst hf; exact hlen e (by simp)
    refine (dkRead_some h hlen nm f hf).mono ?_
    rintro e w' ⟨g, rfl, hg, hr, hb⟩
    exact ⟨_, _, 0, rfl, Bs.block hr rfl (by simp only [maxLen]; omega), fun b hb => by injection hb with hb; subst hb; exact hg, hb⟩
/-- what Open leaves -/
def OEnd (B D M : Nat) (F : List Ent) (nm : ByteArray) (w : World) (sc : List (List UInt8) × Nat × Int) (r : Out) (e : Ending) (w' : World) : Prop :=
  ∃ F', DkAt w' B D M r.2.1 F' ∧ fsOf F' = r.2.2 ∧ DkCh D M F F' w w' ∧
    match r.1 with
    | .inl x => if x = 0 then ∃ L v, e = .returned (.tuple #[pL L, .int .i64 0]) ∧ LgAt w' B L D M F' nm sc.1 sc.2.1 v ∧ w.heap.size ≤ L ∧ (∀ k, v.ownBlock = some k → w.heap.size ≤ k) else e = .returned (.tuple #[.pointer none, .int .i64 x])
    | .inr op => e = .panicked [{ v := crashI op, recovered := false }]
theorem Rw.base {B' : Nat} {T : Nat → Prop} (h : Rw B' T w v rs) (hB : B ≤ B') : Rw B T w v rs := by
  obtain ⟨vs, h1, h2, h3, h4, h5⟩ := h
  refine ⟨vs, h1, ⟨h2.1, ?_⟩, h3, h4, h5⟩
  rcases h2.2 with q | ⟨g, cap, cur, q, q1, q2⟩
  · exact .inl q
  · exact .inr ⟨g, cap, cur, q, by omega, q2⟩
theorem bsOf_len (ok : FsOk d (fsOf F)) (nm : ByteArray) : (bsOf (fsOf F) nm).length ≤ 1073741824 := by
  unfold bsOf
  cases hf : fget (fsOf F) nm with
  | none => simp
  | some f =>
    have h1 := ok.len hf
    have h2 := ok.ok.used
    show f.bs.length ≤ _
    omega
set_option maxRecDepth 100000 in
set_option maxHeartbeats 4000000 in
theorem walOpen (h : DkAt w B D M d F) (ok : FsOk d (fsOf F)) (ho : d.ops + 8 ≤ 1152921504606846976) (nm : ByteArray) (hs : nm.size ≤ 140737488355328) (hn : nameD nm = true) (hBw : B ≤ w.heap.size) :
    Calls Try.prog 17 #[pD D, .string nm] w (OEnd B D M F nm w (scan (bsOf (fsOf F) nm)) (openD d (fsOf F) nm)) := by
  have H := Lib.hid h
  have OK := Lib.hid ok
  have HO := Lib.hid ho
  have HBW := Lib.hid hBw
  have HBL := Lib.hid (bsOf_len ok nm)
  have HFT : Hid (∀ k, DFoot D M F k → k < w.heap.size) := Lib.hid (fun k hk => (h.foot_lt hk).2)
  have HNM := Lib.hid hn
  clear h ok ho hBw hn
  go_enter Try.func17, Try.ntmps17
  go_wp2_with (fail)
  refine (fnRight nm w hs).mono ?_
  rintro e w0 ⟨rfl, rfl⟩
  rw [HNM.out]
  go_wp2_with (fail)
  refine (mReadW H.out OK.out.dk.lens nm).mono ?_
  rintro e w1 ⟨A1, c1, x1, rfl, hB1, _, hb1⟩
  have HE : Hid (openD d (fsOf F) nm = if (scan (bsOf (fsOf F) nm)).2.1 = (bsOf (fsOf F) nm).length then (.inl 0, d, fsOf F) else openT nm (opTrunc d (fsOf F) nm ((scan (bsOf (fsOf F) nm)).2.1 : Int))) := Lib.hid rfl
  have HSL := Lib.hid (scan_len (bsOf (fsOf F) nm))
  generalize bsOf (fsOf F) nm = bs at *
  have hb2 : Below w.heap.size w (w1.alloc (.cells #[pD D, .string nm, .slice none 0 0, .int .i64 0] TL)) := hb1.alloc hb1.size _
  have H2 := Lib.hid (H.out.below hb2)
  have HB2 := Lib.hid hb2
  have HBS2 : Hid (Bs (w1.alloc (.cells #[pD D, .string nm, .slice none 0 0, .int .i64 0] TL)) A1 bs.length c1 bs) := Lib.hid (hB1.alloc _)
  have HROW : Hid ((w1.alloc (.cells #[pD D, .string nm, .slice none 0 0, .int .i64 0] TL)).heap[w1.heap.size]? = some (.cells #[pD D, .string nm, .slice none 0 0, .int .i64 0] TL)) := Lib.hid (heap_alloc_new w1 _)
  have HLT : Hid (w.heap.size ≤ w1.heap.size ∧ w1.heap.size < (w1.alloc (.cells #[pD D, .string nm, .slice none 0 0, .int .i64 0] TL)).heap.size) := Lib.hid ⟨hb1.size, by simp⟩
  clear hb1 hB1 hb2 H
  go_wp2_with (fail)
  obtain ⟨L, hL⟩ : ∃ L, L = w1.heap.size := ⟨_, rfl⟩
  rw [← hL] at HROW HLT ⊢
  clear hL
  generalize w1.alloc (.cells #[pD D, .string nm, .slice none 0 0, .int .i64 0] TL) = w2 at *
  refine (entryScann A1 bs.length c1 bs w2 HBS2.out (by have := HBL.out; omega)).mono ?_
  rintro e w3 ⟨v, rfl, hrw, hb3⟩
  obtain ⟨Av, cv, rfl⟩ := hrw.form
  have hrow3 : w3.heap[L]? = some (.cells #[pD D, .string nm, .slice none 0 0, .int .i64 0] TL) := (hb3.block L HLT.out.2).trans HROW.out
  have z0 : w3.cell? ⟨L, 2, none⟩ = some (.slice none 0 0) := cell_of_row w3 L 2 _ _ _ hrow3
  have z1 : w3.frozen? ⟨L, 2, none⟩ = false := by simp [World.frozen?, hrow3]
  have z2 : w3.cell? ⟨L, 3, none⟩ = some (.int .i64 0) := cell_of_row w3 L 3 _ _ _ hrow3
  have z3 : w3.frozen? ⟨L, 3, none⟩ = false := by simp [World.frozen?, hrow3]
  obtain ⟨rs, hrs⟩ : ∃ rs, rs = (scan bs).1 := ⟨_, rfl⟩
  obtain ⟨g, hg⟩ : ∃ g, g = (scan bs).2.1 := ⟨_, rfl⟩
  rw [← hrs] at hrw
  obtain ⟨er, her⟩ : ∃ er, er = (scan bs).2.2 := ⟨_, rfl⟩
  rw [← hrs, ← hg, ← her]
  have HSC : Hid (scan bs = (rs, g, er)) := Lib.hid (by rw [hrs, hg, her])
  rw [← hg] at HE HSL
  have hcs : Ch (At1 L) w3 ((w3.setCell ⟨L, 2, none⟩ (.slice Av rs.length cv)).setCell ⟨L, 3, none⟩ (.int .i64 (g : Int))) := ((Ch.refl _ w3).set1 2 _).set1 3 _
  have hDk3 := H2.out.below hb3
  have hoff : ¬ DFoot D M F L := fun hk => by have := HFT.out L hk; have := HLT.out.1; omega
  have HD4 : Hid (DkAt ((w3.setCell ⟨L, 2, none⟩ (.slice Av rs.length cv)).setCell ⟨L, 3, none⟩ (.int .i64 (g : Int))) B D M d F) := Lib.hid (hDk3.ch hcs (fun k hk hs => by rw [show k = L from hs] at hk; exact hoff hk))
  have HL4 : Hid (LgAt ((w3.setCell ⟨L, 2, none⟩ (.slice Av rs.length cv)).setCell ⟨L, 3, none⟩ (.int .i64 (g : Int))) B L D M F nm rs g (.slice Av rs.length cv)) := Lib.hid ⟨heap_set_row (heap_set_row hrow3 _) _, by have := HLT.out; have := HBW.out; omega, hoff, (hrw.base (Nat.le_trans HBW.out HB2.out.size)).ch hcs (fun k hk hs => by rw [show k = L from hs]; exact HLT.out.2) (fun k hk ht => by
    rcases ht with ht | ht
    · rw [ht]; exact HLT.out.2
    · have := HFT.out k ht; have := HB2.out.size; omega)⟩
  have HB4 : Hid (Below w.heap.size w ((w3.setCell ⟨L, 2, none⟩ (.slice Av rs.length cv)).setCell ⟨L, 3, none⟩ (.int .i64 (g : Int)))) := Lib.hid ((HB2.out.trans (hb3.mono HB2.out.size)).trans (hcs.below (fun k hk => by rw [show k = L from hk]; exact HLT.out.1) (by have := HB2.out.size; have := hb3.size; omega)))
  have HFR : Hid (w.heap.size ≤ L ∧ ∀ k, (Value.slice Av rs.length cv).ownBlock = some k → w.heap.size ≤ k) := Lib.hid ⟨HLT.out.1, fun k hk => Nat.le_trans HB2.out.size (hrw.lt hk).1⟩
  have c3 : ((w3.setCell ⟨L, 2, none⟩ (.slice Av rs.length cv)).setCell ⟨L, 3, none⟩ (.int .i64 (g : Int))).cell? ⟨L, 3, none⟩ = some (.int .i64 (g : Int)) := HL4.out.cell 3
  clear hrw hb3 hrow3 hrs hg her hcs hDk3 hoff HBS2 HROW H2 HB2
  by_cases hgl : g = bs.length
  · have e1 : ((g : Int) == (bs.length : Int)) = true := by rw [hgl]; simp
    have e2 : decide (g = bs.length) = true := by simpa using hgl
    have HE2 : Hid (openD d (fsOf F) nm = (.inl 0, d, fsOf F)) := Lib.hid (by rw [HE.out, if_pos hgl])
    clear hgl
    go_wp2_with (fail)
    clear c3 z0 z1 z2 z3
    generalize (w3.setCell ⟨L, 2, none⟩ (.slice Av rs.length cv)).setCell ⟨L, 3, none⟩ (.int .i64 (g : Int)) = w4 at *
    go_ret2
    rw [HE2.out, HSC.out]
    exact ⟨F, HD4.out, rfl, DkCh.of_below HB4.out, L, _, rfl, HL4.out, HFR.out.1, HFR.out.2⟩
  · have e1 : ((g : Int) == (bs.length : Int)) = false := by rw [beq_eq_false_iff_ne]; omega
    have e2 : decide (g = bs.length) = false := by simpa using hgl
    have HE2 : Hid (openD d (fsOf F) nm = openT nm (opTrunc d (fsOf F) nm (g : Int))) := Lib.hid (by rw [HE.out, if_neg hgl])
    clear hgl
    go_wp2_with (fail)
    clear c3 z0 z1 z2 z3
    generalize (w3.setCell ⟨L, 2, none⟩ (.slice Av rs.length cv)).setCell ⟨L, 3, none⟩ (.int .i64 (g : Int)) = w4 at *
    refine (walTakeBack HL4.out HD4.out OK.out).mono ?_
    rintro e w5 ⟨F5, he, h5, hc5, hf5⟩
    have hok5 := trunc_ok OK.out (by have := HO.out; omega) nm (g : Int)
    have hop5 := trunc_opsW d (fsOf F) nm (g : Int)
    generalize opTrunc d (fsOf F) nm (g : Int) = r at *
    have HL5 := Lib.hid (HL4.out.dkch hc5)
    have HC5 := Lib.hid ((DkCh.of_below HB4.out).trans hc5)
    clear hc5 HL4 HD4
    obtain ⟨y | op, d5, fs5⟩ := r
    · obtain rfl : fsOf F5 = fs5 := hf5
      obtain rfl : e = .returned (.tuple #[]) := he
      have HD5 := Lib.hid (show DkAt w5 B D M d5 F5 from h5)
      have OK5 := Lib.hid (show FsOk d5 (fsOf F5) from hok5)
      have HE3 : Hid (openD d (fsOf F) nm = opSync d5 (fsOf F5) nm) := HE2
      clear h5 hok5 hop5 HE2
      go_wp2_with (fail)
      refine (mSync HD5.out OK5.out nm).mono ?_
      rintro e w6 ⟨F6, he, h6, hc6, hf6⟩
      generalize opSync d5 (fsOf F5) nm = r at *
      have HL6 := Lib.hid (HL5.out.dkch hc6)
      have HC6 := Lib.hid (HC5.out.trans hc6)
      clear hc6 HL5 HC5
      obtain ⟨x | op, d6, fs6⟩ := r
      · obtain rfl : fsOf F6 = fs6 := hf6
        obtain rfl : e = .returned (.int .i64 x) := he
        have HD6 := Lib.hid (show DkAt w6 B D M d6 F6 from h6)
        clear h6
        by_cases hx : x = 0
        · subst hx
          go_wp2_with (fail)
          go_ret2
          rw [HE3.out, HSC.out]
          exact ⟨F6, HD6.out, rfl, HC6.out, L, _, rfl, HL6.out, HFR.out.1, HFR.out.2⟩
        · have e3 : (x != 0) = true := by simpa using hx
          have HX := Lib.hid hx
          clear hx
          go_wp2_with (fail)
          go_ret2
          rw [HE3.out]
          refine ⟨F6, HD6.out, rfl, HC6.out, ?_⟩
          show if x = 0 then _ else _
          rw [if_neg HX.out]
          rfl
      · obtain rfl : fsOf F6 = fs6 := hf6
        obtain rfl : e = .panicked [{ v := crashI op, recovered := false }] := he
        rw [HE3.out]
        exact ⟨rfl, F6, h6, rfl, HC6.out, rfl⟩
    · obtain rfl : fsOf F5 = fs5 := hf5
      obtain rfl : e = .panicked [{ v := crashI op, recovered := false }] := he
      rw [HE2.out]
      exact ⟨rfl, F5, h5, rfl, HC5.out, rfl⟩
end
end Go.Proofs.Ythblbmbefhlbjaa
