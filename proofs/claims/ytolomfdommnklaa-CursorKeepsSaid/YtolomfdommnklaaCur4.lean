/- Layer 15: a number laid in a file, walked to its end. -/
import Derived.Test.YtolomfdommnklaaCur3
namespace Go.Proofs.Ytolomfdommnklaa
open Go.RowKit Go.MapKept

section
variable {w w1 w2 w3 : World} {B D M s : Nat} {d d' : Dk} {F F' : List Ent}
theorem DkCh.off (c : DkCh D M F F' w1 w2) (hs : ∀ k, DFoot D M F k → k < s) (hs2 : s + 3 ≤ w1.heap.size) : ∀ k, s ≤ k → k < s + 3 → ¬ DFoot D M F' k := fun k h1 h2 hk => by
  rcases hk with hk | hk | hk
  · have := hs k (.inl hk); omega
  · have := hs k (.inr (.inl hk)); omega
  · rcases c.foot k hk with h5 | h5
    · have := hs k (.inr (.inr h5)); omega
    · omega
theorem DkCh.box3 (c : DkCh D M F F' w1 w2) (hs : ∀ k, DFoot D M F k → k < s) (hs2 : s + 3 ≤ w1.heap.size) (h2 : DkAt w2 B D M d' F') (c3 : Ch (At1 (s + 1 + 1)) w2 w3) : DkAt w3 B D M d' F' :=
  h2.ch c3 (fun k hk hb => c.off hs hs2 k (by rw [show k = s + 1 + 1 from hb]; omega) (by rw [show k = s + 1 + 1 from hb]; omega) hk)
theorem trunc_ops (d : Dk) (fs : Fs) (a : ByteArray) (n : Int) : (opTrunc d fs a n).2.1.ops ≤ d.ops + 1 := by
  have := callD_ops (d := d) (fs := fs) 1 n 0 a a []
  simpa [callD, liftO] using this
theorem sync_ops (d : Dk) (fs : Fs) (a : ByteArray) : (opSync d fs a).2.1.ops ≤ d.ops + 1 := by
  have := callD_ops (d := d) (fs := fs) 2 0 0 a a []
  simpa [callD, liftO] using this
theorem rename_ops (d : Dk) (fs : Fs) (a b : ByteArray) : (opRename d fs a b).2.1.ops ≤ d.ops + 1 := by
  have := callD_ops (d := d) (fs := fs) 3 0 0 a b []
  simpa [callD, liftO] using this
theorem remove_ops (d : Dk) (fs : Fs) (a : ByteArray) : (opRemove d fs a).2.1.ops ≤ d.ops + 1 := by
  have := callD_ops (d := d) (fs := fs) 4 0 0 a a []
  simpa [callD, liftO] using this
theorem app_ops (d : Dk) (fs : Fs) (a : ByteArray) (l : List UInt8) : (appO d fs a l).2.1.ops ≤ d.ops + 1 := by
  have := callD_ops (d := d) (fs := fs) 0 0 0 a a l
  simpa [callD] using this
theorem app_ok {d : Dk} {fs : Fs} (h : FsOk d fs) (ho : d.ops + 1 ≤ 1152921504606846976) (a : ByteArray) (l : List UInt8) : FsOk (appO d fs a l).2.1 (appO d fs a l).2.2 := by
  have := callD_ok h ho 0 0 0 (by decide) (by decide) a a l
  simpa [callD] using this
theorem app_num (d : Dk) (fs : Fs) (a : ByteArray) (l : List UInt8) : ∃ k : Nat, (appO d fs a l).1.1 = (k : Int) := by
  unfold appO
  split
  · exact ⟨0, rfl⟩
  · split
    · exact ⟨0, rfl⟩
    · exact ⟨_, rfl⟩

theorem Bs.off {w w' : World} {A : Option Addr} {n c : Nat} {l : List UInt8} {S : Nat → Prop} (h : Bs w A n c l) (hc : Ch S w w') (hn : ∀ b, A = some b → ¬ S b.block) : Bs w' A n c l := h.ch hc (fun _ b hb => hn b hb)
set_option maxHeartbeats 8000000 in
set_option maxRecDepth 100000 in
/-- the last part: a sync, and what is done when it fails -/
theorem lay_ (h : DkAt w B D M d F) (ok : FsOk d (fsOf F)) (ho : d.ops + 8 ≤ 1152921504606846976) (nm : ByteArray) (hs : nm.size ≤ 140737488355328) (A : Option Addr) (m c : Nat) (l : List UInt8) (hl : Bs w A m c l) (hBw : B ≤ w.heap.size)
    (hoff : ∀ b, A = some b → ¬ DFoot D M F b.block) :
    Calls Try.prog 43 #[pD D, .string nm, .slice A m c] w (MEnds B D M F w (layD d (fsOf F) nm l)) := by
  have hmf : ∀ (fn : Fn) (first cap : Array Value) (w : World), (Instr.makeFunc fn first cap).run Try.prog w = .ok (.func fn first cap) w := fun _ _ _ _ => rfl
  obtain ⟨hx0, hb0, hz0⟩ := LBox.new w D nm
  have HM := Lib.hid hl.len
  have H1 := Lib.hid (h.below hb0)
  have HB1 := Lib.hid hb0
  have HX1 := Lib.hid hx0
  have HZ1 : Hid (w.heap.size + 3 ≤ (lw w D nm).heap.size) := Lib.hid (by omega)
  have HL1 := Lib.hid (hl.below hb0)
  have HOFF := Lib.hid hoff
  have HFT : Hid (∀ k, DFoot D M F k → k < w.heap.size) := Lib.hid (fun k hk => (h.foot_lt hk).2)
  have OK := Lib.hid ok
  have HO := Lib.hid ho
  have HBW := Lib.hid hBw
  clear h hb0 hx0 hz0 ok ho hl hBw hoff
  go_enter_defers Try.func43, Try.ntmps43
  obtain ⟨c0, c1, _, _⟩ := HX1.out.cells
  go_wp2_with (fail)
  show Calls _ _ _ (lw w D nm) _
  generalize lw w D nm = w1 at *
  clear c0 c1
  refine (mTrunc H1.out OK.out nm 0).mono ?_
  rintro e w2 ⟨F2, he, h2, hc2, hf2⟩
  have hok2 := trunc_ok OK.out (by have := HO.out; omega) nm 0
  have hop2 := trunc_ops d (fsOf F) nm 0
  have HE : Hid (layD d (fsOf F) nm l = layT (opTrunc d (fsOf F) nm 0) nm l) := Lib.hid rfl
  generalize opTrunc d (fsOf F) nm 0 = r at he h2 hok2 hop2 hf2 HE
  have HX2 := Lib.hid (HX1.out.same hc2.ch (fun k h1 _ hk => by have := HFT.out k hk; omega))
  have H2 := Lib.hid h2
  have HC2 := Lib.hid hc2
  have HF2 := Lib.hid hf2
  have HK2 := Lib.hid hok2
  have HP2 : Hid (r.2.1.ops ≤ d.ops + 1) := Lib.hid hop2
  have HCW2 : Hid (DkCh D M F F2 w w2) := Lib.hid ((DkCh.of_below HB1.out).trans hc2)
  have HL2 : Hid (Bs w2 A m c l) := Lib.hid (HL1.out.off hc2.ch HOFF.out)
  have HOF2 : Hid (∀ b, A = some b → 0 < m → ¬ DFoot D M F2 b.block) := Lib.hid (fun b hb hm hk => by
    have hlt : b.block < w1.heap.size := by
      obtain ⟨g, o, e1, hlt, _⟩ := HL1.out.at_ hm
      rw [hb] at e1; injection e1 with e1; subst e1; exact hlt
    rcases hk with hk | hk | hk
    · exact HOFF.out b hb (.inl hk)
    · exact HOFF.out b hb (.inr (.inl hk))
    · rcases hc2.foot _ hk with h5 | h5
      · exact HOFF.out b hb (.inr (.inr h5))
      · omega)
  clear h2 hc2 hf2 hok2 hop2 HL1 H1
  obtain ⟨x | op, d2, fs2⟩ := r
  · have HE2 : Hid (layD d (fsOf F) nm l = layAr (appO d2 fs2 nm l) nm l) := HE
    obtain rfl : fsOf F2 = fs2 := HF2.out
    obtain rfl : e = .returned (.int .i64 x) := he
    clear HE HF2
    obtain ⟨c0, c1, _, _⟩ := HX2.out.cells
    go_wp2_with (fail)
    clear c0 c1
    refine (mAppend H2.out HK2.out nm hs A m c l HL2.out (Nat.le_trans HBW.out HCW2.out.ch.size)).mono ?_
    rintro e w3 ⟨F3, he, h3, hc3, hf3⟩
    have hok3 := app_ok HK2.out (by have := HO.out; have := HP2.out; omega) nm l
    have hop3 := app_ops d2 (fsOf F2) nm l
    have hnum := app_num d2 (fsOf F2) nm l
    generalize appO d2 (fsOf F2) nm l = r at he h3 hok3 hop3 hf3 HE2 hnum
    have HX3 := Lib.hid (HX2.out.same hc3.ch (fun k h1 h2 hk => HC2.out.off HFT.out HZ1.out k h1 h2 hk))
    have H3 := Lib.hid h3
    have HC3 := Lib.hid (HC2.out.trans hc3)
    have HF3 := Lib.hid hf3
    have HK3 := Lib.hid hok3
    have HP3 : Hid (r.2.1.ops ≤ d.ops + 2) := Lib.hid (by have h1 := HP2.out; have h2 : r.2.1.ops ≤ d2.ops + 1 := hop3; omega)
    have HCW3 : Hid (DkCh D M F F3 w w3) := Lib.hid (HCW2.out.trans hc3)
    clear h3 hc3 hf3 hok3 hop3 HX2 H2 HC2 HK2 HP2 HCW2 HL2 HOF2
    obtain ⟨⟨n, y | op⟩, d3, fs3⟩ := r
    · obtain ⟨n, rfl⟩ : ∃ k : Nat, n = (k : Int) := hnum
      have HE3 : Hid (layD d (fsOf F) nm l = if (n : Int) < (l.length : Int) then layF_ 4 (opRemove d3 fs3 nm) else laySr (opSync d3 fs3 nm) nm) := HE2
      rw [HM.out] at HE3
      obtain rfl : fsOf F3 = fs3 := HF3.out
      obtain rfl : e = .returned (.tuple #[.int .i64 (n : Int), .int .i64 y]) := he
      clear HE2 HF3
      obtain ⟨c0, c1, _, f2⟩ := HX3.out.cells
      by_cases hlt : n < m
      · have e1 : decide ((n : Int) < (m : Int)) = true := by simp; omega
        have e2 : (n : Int) < (m : Int) := by omega
        have HE4 : Hid (layD d (fsOf F) nm l = layF_ 4 (opRemove d3 (fsOf F3) nm)) := Lib.hid (by rw [HE3.out, if_pos e2])
        clear HE3 hlt
        obtain ⟨hx4, hch4⟩ := HX3.out.setE 4
        have HX4 := Lib.hid hx4
        have H4 := Lib.hid (HC3.out.box3 HFT.out HZ1.out H3.out hch4)
        have HCW4 := Lib.hid (HCW3.out.later hch4 (fun k hk => by rw [show k = w.heap.size + 1 + 1 from hk]; omega))
        clear hx4 hch4
        go_wp2_with (fail)
        clear c0 c1 f2
        generalize w3.setCell ⟨w.heap.size + 1 + 1, 0, none⟩ (.int .i64 4) = w4 at *
        refine leaves_cons (f := 60) (args := la w.heap.size) (by simp) (by simp [go_sem]) ?_
        refine (lay1_rem w.heap.size _ nm 4 (by decide) HX4.out H4.out HK3.out).mono ?_
        rintro e u' w5 ⟨rfl, F5, he, h5, hc5, hf5⟩
        have hx5 := HX4.out.same hc5.ch (fun k h1 h2 hk => HC3.out.off HFT.out HZ1.out k h1 h2 hk)
        generalize opRemove d3 (fsOf F3) nm = r at he h5 hf5 HE4
        obtain ⟨z | op, d5, fs5⟩ := r
        · obtain rfl : e = .returned (.tuple #[]) := he
          obtain ⟨_, _, c2, _⟩ := hx5.cells
          rw [HE4.out]
          simp [Leaves, settle, results, Try.results43, go_sem, c2]
          exact ⟨F5, rfl, h5, HCW4.out.trans hc5, hf5⟩
        · obtain rfl : e = .panicked [{ v := crashI op, recovered := false }] := he
          rw [HE4.out]
          simp only [Leaves, raised]
          exact ⟨F5, rfl, h5, HCW4.out.trans hc5, hf5⟩
      · have e1 : decide ((n : Int) < (m : Int)) = false := by simp; omega
        have e2 : ¬ (n : Int) < (m : Int) := by omega
        have HE4 : Hid (layD d (fsOf F) nm l = laySr (opSync d3 (fsOf F3) nm) nm) := Lib.hid (by rw [HE3.out, if_neg e2])
        clear HE3 hlt
        go_wp2_with (fail)
        clear c0 c1 f2
        refine (mSync H3.out HK3.out nm).mono ?_
        rintro e w4 ⟨F4, he, h4, hc4, hf4⟩
        have hok4 := sync_ok HK3.out (by have := HO.out; have := HP3.out; omega) nm
        generalize opSync d3 (fsOf F3) nm = r at he h4 hok4 hf4 HE4
        have HX4 := Lib.hid (HX3.out.same hc4.ch (fun k h1 h2 hk => HC3.out.off HFT.out HZ1.out k h1 h2 hk))
        have H4 := Lib.hid h4
        have HC4 := Lib.hid (HC3.out.trans hc4)
        have HF4 := Lib.hid hf4
        have HK4 := Lib.hid hok4
        have HCW4 : Hid (DkCh D M F F4 w w4) := Lib.hid (HCW3.out.trans hc4)
        clear h4 hc4 hf4 hok4 HX3 H3 HC3 HK3 HP3 HCW3
        obtain ⟨x2 | op, d4, fs4⟩ := r
        · have HE5 : Hid (layD d (fsOf F) nm l = if x2 = 0 then (.inl 0, d4, fs4) else layF_ 5 (opRemove d4 fs4 nm)) := HE4
          obtain rfl : fsOf F4 = fs4 := HF4.out
          obtain rfl : e = .returned (.int .i64 x2) := he
          clear HE4 HF4
          obtain ⟨c0, c1, _, f2⟩ := HX4.out.cells
          by_cases hx2 : x2 = 0
          · subst hx2
            have HE6 : Hid (layD d (fsOf F) nm l = (.inl 0, d4, fsOf F4)) := Lib.hid (by rw [HE5.out, if_pos rfl])
            clear HE5
            obtain ⟨hx5, hch5⟩ := HX4.out.setE 0
            have HX5 := Lib.hid hx5
            have H5 := Lib.hid (HC4.out.box3 HFT.out HZ1.out H4.out hch5)
            have HCW5 := Lib.hid (HCW4.out.later hch5 (fun k hk => by rw [show k = w.heap.size + 1 + 1 from hk]; omega))
            clear hx5 hch5
            go_wp2_with (fail)
            clear c0 c1 f2
            generalize w4.setCell ⟨w.heap.size + 1 + 1, 0, none⟩ (.int .i64 0) = w5 at *
            refine leaves_cons (f := 60) (args := la w.heap.size) (by simp) (by simp [go_sem]) ?_
            refine (lay1_idle w.heap.size D nm _ w5 HX5.out).mono ?_
            rintro e u' w'' ⟨rfl, rfl, rfl⟩
            obtain ⟨_, _, c2, _⟩ := HX5.out.cells
            rw [HE6.out]
            simp [Leaves, settle, results, Try.results43, go_sem, c2]
            exact ⟨F4, rfl, H5.out, HCW5.out, rfl⟩
          · have e3 : (x2 != 0) = true := by simpa using hx2
            have HE6 : Hid (layD d (fsOf F) nm l = layF_ 5 (opRemove d4 (fsOf F4) nm)) := Lib.hid (by rw [HE5.out, if_neg hx2])
            clear HE5 hx2
            obtain ⟨hx5, hch5⟩ := HX4.out.setE 5
            have HX5 := Lib.hid hx5
            have H5 := Lib.hid (HC4.out.box3 HFT.out HZ1.out H4.out hch5)
            have HCW5 := Lib.hid (HCW4.out.later hch5 (fun k hk => by rw [show k = w.heap.size + 1 + 1 from hk]; omega))
            clear hx5 hch5
            go_wp2_with (fail)
            clear c0 c1 f2
            generalize w4.setCell ⟨w.heap.size + 1 + 1, 0, none⟩ (.int .i64 5) = w5 at *
            refine leaves_cons (f := 60) (args := la w.heap.size) (by simp) (by simp [go_sem]) ?_
            refine (lay1_rem w.heap.size _ nm 5 (by decide) HX5.out H5.out HK4.out).mono ?_
            rintro e u' w6 ⟨rfl, F6, he, h6, hc6, hf6⟩
            have hx6 := HX5.out.same hc6.ch (fun k h1 h2 hk => HC4.out.off HFT.out HZ1.out k h1 h2 hk)
            generalize opRemove d4 (fsOf F4) nm = r at he h6 hf6 HE6
            obtain ⟨z | op, d6, fs6⟩ := r
            · obtain rfl : e = .returned (.tuple #[]) := he
              obtain ⟨_, _, c2, _⟩ := hx6.cells
              rw [HE6.out]
              simp [Leaves, settle, results, Try.results43, go_sem, c2]
              exact ⟨F6, rfl, h6, HCW5.out.trans hc6, hf6⟩
            · obtain rfl : e = .panicked [{ v := crashI op, recovered := false }] := he
              rw [HE6.out]
              simp only [Leaves, raised]
              exact ⟨F6, rfl, h6, HCW5.out.trans hc6, hf6⟩
        · have HE5 : Hid (layD d (fsOf F) nm l = (.inr op, d4, fs4)) := HE4
          obtain rfl : e = .panicked [{ v := crashI op, recovered := false }] := he
          show Leaves _ _ _ _ _ _ _
          refine leaves_cons (f := 60) (args := la w.heap.size) (by simp) (by simp [go_sem]) ?_
          refine (lay1_idle w.heap.size D nm _ w4 HX4.out).mono ?_
          rintro e u' w'' ⟨rfl, rfl, rfl⟩
          rw [HE5.out]
          simp only [Leaves, settle]
          exact ⟨F4, rfl, H4.out, HCW4.out, HF4.out⟩
    · have HE3 : Hid (layD d (fsOf F) nm l = (.inr op, d3, fs3)) := HE2
      obtain rfl : e = .panicked [{ v := crashI op, recovered := false }] := he
      show Leaves _ _ _ _ _ _ _
      refine leaves_cons (f := 60) (args := la w.heap.size) (by simp) (by simp [go_sem]) ?_
      refine (lay1_idle w.heap.size D nm _ w3 HX3.out).mono ?_
      rintro e u' w'' ⟨rfl, rfl, rfl⟩
      rw [HE3.out]
      simp only [Leaves, settle]
      exact ⟨F3, rfl, H3.out, HCW3.out, HF3.out⟩
  · have HE2 : Hid (layD d (fsOf F) nm l = (.inr op, d2, fs2)) := HE
    obtain rfl : e = .panicked [{ v := crashI op, recovered := false }] := he
    show Leaves _ _ _ _ _ _ _
    refine leaves_cons (f := 60) (args := la w.heap.size) (by simp) (by simp [go_sem]) ?_
    refine (lay1_idle w.heap.size D nm _ w2 HX2.out).mono ?_
    rintro e u' w'' ⟨rfl, rfl, rfl⟩
    rw [HE2.out]
    simp only [Leaves, settle]
    exact ⟨F2, rfl, H2.out, HCW2.out, HF2.out⟩
end
end Go.Proofs.Ytolomfdommnklaa
