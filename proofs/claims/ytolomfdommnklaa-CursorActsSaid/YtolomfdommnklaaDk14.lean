/- Layer 2: what each change does, told of the files and numbers alone; the contracts in these words. -/
import Derived.Test.YtolomfdommnklaaDk13
namespace Go.Proofs.Ytolomfdommnklaa
open Go.RowKit Go.MapKept

def ftotal (fs : Fs) : Nat := (fs.map fun e => e.2.bs.length).sum
theorem ftotal_of (F : List Ent) : ftotal (fsOf F) = total F := by
  unfold ftotal total fsOf
  rw [List.map_map]; rfl
theorem ftotal_app (a b : Fs) : ftotal (a ++ b) = ftotal a + ftotal b := by simp [ftotal]
theorem ftotal_cons (a : ByteArray × Fl) (b : Fs) : ftotal (a :: b) = a.2.bs.length + ftotal b := by simp [ftotal]
/-- numbers that fit the files -/
structure FsOk (d : Dk) (fs : Fs) : Prop where
  ok : d.Ok
  tot : d.used = (ftotal fs : Int)
  safe : ∀ e ∈ fs, e.2.safe ≤ e.2.bs.length
  names : (fs.map (·.1)).Nodup
theorem FsOk.dk {d : Dk} {F : List Ent} (h : FsOk d (fsOf F)) : DkOk d F :=
  ⟨h.ok, by rw [h.tot, ftotal_of], fun e he => h.safe (e.nm, e.f) (List.mem_map.2 ⟨e, he, rfl⟩)⟩
theorem FsOk.len {d : Dk} {fs : Fs} (h : FsOk d fs) {n : ByteArray} {f : Fl} (hf : fget fs n = some f) : (f.bs.length : Int) ≤ d.used := by
  rw [h.tot]
  have : f.bs.length ≤ ftotal fs := by
    clear h
    induction fs with
    | nil => cases hf
    | cons a r ih =>
      rw [ftotal_cons]
      unfold fget at hf
      split at hf
      · injection hf with hf; subst hf; omega
      · have := ih hf; omega
  omega
theorem fget_mid {F : List Ent} {n : ByteArray} {f : Fl} (h : fget (fsOf F) n = some f) : ∃ P g v Q, F = P ++ ⟨n, g, v, f⟩ :: Q ∧ ∀ x ∈ P, x.nm ≠ n := by
  rcases aget_split F n with ⟨_, h2⟩ | ⟨P, e, Q, rfl, rfl, _, h3⟩
  · rw [fget_none h2] at h; cases h
  · rw [fget_at h3] at h
    injection h with h
    subst h
    exact ⟨P, e.g, e.v, Q, rfl, h3⟩
theorem fget_no {F : List Ent} {n : ByteArray} (h : fget (fsOf F) n = none) : ∀ e ∈ F, e.nm ≠ n := by
  rcases aget_split F n with ⟨_, h2⟩ | ⟨P, e, Q, rfl, rfl, _, h3⟩
  · exact h2
  · rw [fget_at h3] at h; cases h
abbrev Out := (Int ⊕ Int) × Dk × Fs
/-- a change that is done as a whole, or not at all -/
def opChange (d : Dk) (fs : Fs) (x : Int) (d1 d2 : Dk) (done : Fs) : Out :=
  if d.armedIn = 1 then (.inr (d.ops + 1), if dOdd d then (d1, done) else (d2, fs)) else (.inl x, d1, done)
def opTrunc (d : Dk) (fs : Fs) (nm : ByteArray) (n : Int) : Out :=
  match fget fs nm with
  | none => (.inl 6, d, fs)
  | some f => if n < 0 ∨ (f.bs.length : Int) < n then (.inl 3, d, fs) else opChange d fs 0 { d.begin with used := d.used - ((f.bs.length : Int) - (n.toNat : Int)) } d.begin (fput fs nm (trFl n.toNat f))
def opSync (d : Dk) (fs : Fs) (nm : ByteArray) : Out :=
  match fget fs nm with
  | none => (.inl 6, d, fs)
  | some f => opChange d fs (syncErr (d.failIn == 1)) d.syncs.begin d.syncs.begin (fput fs nm (syncFl (d.failIn == 1) f))
def opRemove (d : Dk) (fs : Fs) (nm : ByteArray) : Out :=
  match fget fs nm with
  | none => (.inl 6, d, fs)
  | some f => opChange d fs 0 { d.begin with used := d.used - (f.bs.length : Int) } d.begin (fdel fs nm)
/-- how many bytes a file has -/
def flen (fs : Fs) (nm : ByteArray) : Nat := match fget fs nm with | some f => f.bs.length | none => 0
def opRename (d : Dk) (fs : Fs) (nm to : ByteArray) : Out :=
  match fget fs nm with
  | none => (.inl 6, d, fs)
  | some f => if nameD to = false then (.inl 16, d, fs) else if nm = to then opChange d fs 0 d.begin d.begin fs
    else opChange d fs 0 { d.begin with used := d.used - (flen fs to : Int) } d.begin (fdel (fdel fs to) nm ++ [(to, f)])
def opSetRoom (d : Dk) (fs : Fs) (n : Int) : Out := if 0 ≤ n ∧ n ≤ 1073741824 then (.inl 0, { d with room := n }, fs) else (.inl 3, d, fs)
def opFail (d : Dk) (fs : Fs) (n : Int) : Out := if n < 1 then (.inl 3, d, fs) else (.inl 0, { d with failIn := n }, fs)
def opArm (d : Dk) (fs : Fs) (n k : Int) : Out := if n < 1 then (.inl 3, d, fs) else (.inl 0, { d with armedIn := n, armKeep := k }, fs)
def powFs (keep : Int) (fs : Fs) : Fs := fs.map fun e => (e.1, powFl keep e.2)
def opPower (d : Dk) (fs : Fs) (keep : Int) : Out := (.inl 0, { d with used := (ftotal (powFs keep fs) : Int), failIn := 0, armedIn := 0 }, powFs keep fs)
/-- how a method ends -/
def endM : Int ⊕ Int → Ending
  | .inl x => .returned (.int .i64 x)
  | .inr op => .panicked [{ v := crashI op, recovered := false }]
def MEnds (B D M : Nat) (F : List Ent) (w : World) (r : Out) (e : Ending) (w' : World) : Prop :=
  ∃ F', e = endM r.1 ∧ DkAt w' B D M r.2.1 F' ∧ DkCh D M F F' w w' ∧ fsOf F' = r.2.2
theorem fsOf_pow (keep : Int) (F : List Ent) : fsOf (F.map (powE keep)) = powFs keep (fsOf F) := by
  unfold fsOf powFs
  rw [List.map_map, List.map_map]; rfl
section
variable {w : World} {B D M : Nat} {d : Dk} {F : List Ent}
theorem MEnds.same {d : Dk} {w' : World} {x : Int} (h : DkAt w B D M d F) (hb : Below w.heap.size w w') : MEnds B D M F w (.inl x, d, fsOf F) (.returned (.int .i64 x)) w' := ⟨F, rfl, h.below hb, DkCh.of_below hb, rfl⟩
/-- out of a change's ends -/
theorem MEnds.change {d1 d2 : Dk} {F1 : List Ent} {e : Ending} {w' : World} {x : Int} {Rgo Rno : World → Prop} (h : ChOut (.int .i64 x) d Rgo Rno e w')
    (h1 : Rgo w' → DkAt w' B D M d1 F1 ∧ DkCh D M F F1 w w') (h2 : Rno w' → DkAt w' B D M d2 F ∧ DkCh D M F F w w') {fs : Fs} (hf : fsOf F1 = fs) : MEnds B D M F w (opChange d (fsOf F) x d1 d2 fs) e w' := by
  subst hf
  unfold opChange
  rcases h with ⟨ha, rfl, hr⟩ | ⟨ha, rfl, ⟨ho, hr⟩ | ⟨ho, hr⟩⟩
  · rw [if_neg ha]
    exact ⟨F1, rfl, (h1 hr).1, (h1 hr).2, rfl⟩
  · rw [if_pos ha, if_pos ho]
    exact ⟨F1, rfl, (h1 hr).1, (h1 hr).2, rfl⟩
  · rw [if_pos ha, if_neg (by rw [ho]; decide)]
    exact ⟨F, rfl, (h2 hr).1, (h2 hr).2, rfl⟩

theorem mSync (h : DkAt w B D M d F) (ok : FsOk d (fsOf F)) (nm : ByteArray) : Calls Try.prog 64 #[pD D, .string nm] w (MEnds B D M F w (opSync d (fsOf F) nm)) := by
  unfold opSync
  cases hg : fget (fsOf F) nm with
  | none => exact (dkSync_none h nm (fget_no hg)).mono fun e w' ⟨he, hb⟩ => by subst he; exact MEnds.same h hb
  | some f =>
    obtain ⟨P, g, v, Q, rfl, hfi⟩ := fget_mid hg
    have e1 : fsOf (P ++ ⟨nm, g, v, syncFl (d.failIn == 1) f⟩ :: Q) = fput (fsOf (P ++ ⟨nm, g, v, f⟩ :: Q)) nm (syncFl (d.failIn == 1) f) := (fput_at (e := ⟨nm, g, v, f⟩) _ hfi g v).symm
    by_cases ha : d.armedIn = 1
    · cases ho : dOdd d
      · refine (dkSync_even h ok.ok ha ho hfi).mono fun e w' ⟨he, h1, h2⟩ => ?_
        simp only [opChange, if_pos ha, ho]
        exact ⟨_, he, h1, h2, rfl⟩
      · refine (dkSync_odd h ok.ok ha ho hfi).mono fun e w' ⟨he, h1, h2⟩ => ?_
        simp only [opChange, if_pos ha, ho]
        exact ⟨_, he, h1, h2, e1⟩
    · refine (dkSync_go h ok.ok ha hfi).mono fun e w' ⟨he, h1, h2⟩ => ?_
      simp only [opChange, if_neg ha]
      exact ⟨_, he, h1, h2, e1⟩

set_option maxHeartbeats 1000000 in
set_option maxRecDepth 100000 in
theorem dkRemove_none (h : DkAt w B D M d F) (nm : ByteArray) (hn : ∀ e ∈ F, e.nm ≠ nm) : Calls Try.prog 61 #[pD D, .string nm] w fun e w' => e = .returned (.int .i64 6) ∧ Below w.heap.size w w' := by
  have hb1 : Below w.heap.size w ((w.alloc (.cells #[pD D] 35)).alloc (.cells #[.string nm] 9)) := ((Below.refl _ _).alloc (Nat.le_refl _) _).alloc (by simp) _
  have h1 := h.below hb1
  have HX1 : Hid (((w.alloc (.cells #[pD D] 35)).alloc (.cells #[.string nm] 9)).heap[w.heap.size]? = some (.cells #[pD D] 35) ∧ ((w.alloc (.cells #[pD D] 35)).alloc (.cells #[.string nm] 9)).heap[w.heap.size + 1]? = some (.cells #[.string nm] 9)) := Lib.hid (by
    have h1 := heap_alloc_new w (.cells #[pD D] 35)
    have h2 := heap_alloc_new (w.alloc (.cells #[pD D] 35)) (.cells #[.string nm] 9)
    refine ⟨?_, by simpa using h2⟩
    rw [((Below.refl (w.alloc (.cells #[pD D] 35)).heap.size (w.alloc (.cells #[pD D] 35))).alloc (Nat.le_refl _) _).block _ (by simp)]
    exact h1)
  have c0' : ((w.alloc (.cells #[pD D] 35)).alloc (.cells #[.string nm] 9)).cell? ⟨D, 0, none⟩ = some (.map (some M)) := h1.cell 0
  have x0 : ((w.alloc (.cells #[pD D] 35)).alloc (.cells #[.string nm] 9)).cell? ⟨w.heap.size, 0, none⟩ = some (pD D) := cell_of_row _ _ 0 _ _ _ HX1.out.1
  have x1 : ((w.alloc (.cells #[pD D] 35)).alloc (.cells #[.string nm] 9)).cell? ⟨w.heap.size + 1, 0, none⟩ = some (.string nm) := cell_of_row _ _ 0 _ _ _ HX1.out.2
  have H1 := Lib.hid h1
  have HB1 := Lib.hid hb1
  have HNO := Lib.hid (aget_none hn)
  clear h h1 hb1 hn HX1
  go_enter Try.func61, Try.ntmps61
  go_wp2_with (fail)
  generalize ((w.alloc (.cells #[pD D] 35)).alloc (.cells #[.string nm] 9)) = w1 at *
  have hlk : ∀ n, (Instr.lookup 78 (.map (some M)) (.string nm) false).run Try.prog (w1.drewN n) = .ok (.pointer none) (w1.drewN n) := fun n => by
    have := run_lookupL kS 78 91 Try.underlying78 (w1.drewN n) M _ (H1.out.below (drawN_below (Below.refl _ _) n)).map nm (.pointer none) (by kernel_rfl) false
    rw [HNO.out] at this
    exact this
  go_quiet (fail)
  have HB2 : Hid (Below w.heap.size w (w1.drewN nq)) := Lib.hid (drawN_below HB1.out nq)
  clear x0 x1 c0' hlk
  generalize w1.drewN nq = w2 at *
  go_wp2_with (fail)
  go_ret
  exact ⟨rfl, HB2.out⟩
theorem mRemove (h : DkAt w B D M d F) (ok : FsOk d (fsOf F)) (nm : ByteArray) : Calls Try.prog 61 #[pD D, .string nm] w (MEnds B D M F w (opRemove d (fsOf F) nm)) := by
  unfold opRemove
  cases hg : fget (fsOf F) nm with
  | none => exact (dkRemove_none h nm (fget_no hg)).mono fun e w' ⟨he, hb⟩ => by subst he; exact MEnds.same h hb
  | some f =>
    have hl := ok.len hg
    obtain ⟨P, g, v, Q, rfl, hfi⟩ := fget_mid hg
    exact (dkRemove h ok.ok hfi hl).mono fun e w' hr => MEnds.change hr id id (fdel_at (e := ⟨nm, g, v, f⟩) hfi).symm
theorem mTrunc (h : DkAt w B D M d F) (ok : FsOk d (fsOf F)) (nm : ByteArray) (n : Int) : Calls Try.prog 62 #[pD D, .string nm, .int .i64 n] w (MEnds B D M F w (opTrunc d (fsOf F) nm n)) := by
  unfold opTrunc
  cases hg : fget (fsOf F) nm with
  | none => exact (dkTruncate_none h nm n (fget_no hg)).mono fun e w' ⟨he, hb⟩ => by subst he; exact MEnds.same h hb
  | some f =>
    have hl := ok.len hg
    obtain ⟨P, g, v, Q, rfl, hfi⟩ := fget_mid hg
    obtain ⟨A0, c0, rfl⟩ := own_form (show w.ownsRow B 5 1 v f.bs.length (u8s f.bs) from (h.files ⟨nm, g, v, f⟩ (by simp)).own)
    simp only
    by_cases h1 : n < 0
    · rw [if_pos (.inl h1)]
      exact (dkTruncate_neg h hfi n h1).mono fun e w' ⟨he, hb⟩ => by subst he; exact MEnds.same h hb
    · by_cases h2 : (f.bs.length : Int) < n
      · rw [if_pos (.inr h2)]
        exact (dkTruncate_far h hfi n h2).mono fun e w' ⟨he, hb⟩ => by subst he; exact MEnds.same h hb
      · rw [if_neg (by omega)]
        have hk := dkTruncate h hfi n.toNat (by omega) ok.ok hl
        rw [show ((n.toNat : Nat) : Int) = n by omega] at hk
        refine hk.mono fun e w' hr => ?_
        rw [show ((n.toNat : Nat) : Int) = n by omega]
        exact MEnds.change hr (fun hh => by unfold TrR at hh; rw [show ((n.toNat : Nat) : Int) = n by omega] at hh; exact hh) id (fput_at (e := ⟨nm, g, _, f⟩) _ hfi g _).symm
set_option maxHeartbeats 2000000 in
set_option maxRecDepth 100000 in
theorem dkRename_none (h : DkAt w B D M d F) (nm to : ByteArray) (hn : ∀ e ∈ F, e.nm ≠ nm) :
    Calls Try.prog 44 #[pD D, .string nm, .string to] w fun e w' => e = .returned (.int .i64 6) ∧ Below w.heap.size w w' := by
  obtain ⟨hb1, hr0, hr1, hr2, hsz⟩ := boxes3 w D nm to
  have h1 := h.below hb1
  have H1 := Lib.hid h1
  have HB1 := Lib.hid hb1
  have HR1 := Lib.hid (And.intro hr0 (And.intro hr1 (And.intro hr2 hsz)))
  have c0' : (((w.alloc (.cells #[pD D] 35)).alloc (.cells #[.string nm] 9)).alloc (.cells #[.string to] 9)).cell? ⟨D, 0, none⟩ = some (.map (some M)) := h1.cell 0
  have x0 : (((w.alloc (.cells #[pD D] 35)).alloc (.cells #[.string nm] 9)).alloc (.cells #[.string to] 9)).cell? ⟨w.heap.size, 0, none⟩ = some (pD D) := cell_of_row _ _ 0 _ _ _ hr0
  have x1 : (((w.alloc (.cells #[pD D] 35)).alloc (.cells #[.string nm] 9)).alloc (.cells #[.string to] 9)).cell? ⟨w.heap.size + 1, 0, none⟩ = some (.string nm) := cell_of_row _ _ 0 _ _ _ hr1
  have x2 : (((w.alloc (.cells #[pD D] 35)).alloc (.cells #[.string nm] 9)).alloc (.cells #[.string to] 9)).cell? ⟨w.heap.size + 1 + 1, 0, none⟩ = some (.string to) := cell_of_row _ _ 0 _ _ _ hr2
  have HGET := Lib.hid (show (aget (mapL F) nm).getD (.pointer none) = .pointer none from by rw [aget_none hn]; rfl)
  clear hn
  clear h h1 hb1 hr0 hr1 hr2 hsz
  go_enter Try.func44, Try.ntmps44
  go_wp2_with (fail)
  generalize (((w.alloc (.cells #[pD D] 35)).alloc (.cells #[.string nm] 9)).alloc (.cells #[.string to] 9)) = w1 at *
  have hs1 := HR1.out.2.2.2
  have hbx : Below w1.heap.size w1 (w1.alloc (.cells #[.pointer none] 91)) := (Below.refl _ _).alloc (Nat.le_refl _) _
  have lkp : ∀ W, Below w1.heap.size w1 W → (Instr.lookup 78 (.map (some M)) (.string nm) false).run Try.prog W = .ok (.pointer none) W := fun W hb => by
    have := run_lookupL kS 78 91 Try.underlying78 W M _ (H1.out.below hb).map nm (.pointer none) (by kernel_rfl) false
    rw [HGET.out] at this
    exact this
  have keep : ∀ (W : World) (T : Addr) (x : Value), Below w1.heap.size w1 W → w1.cell? T = some x → W.cell? T = some x := fun W T x hb hx => (hb.cell (p := T) (World.block_lt_of_cell? w1 T hx)).trans hx
  have hlk1 := lkp _ (Below.refl w1.heap.size w1).drew
  have hlk2 := lkp _ hbx.drew
  have z0 := keep _ _ _ hbx x0
  have z1 := keep _ _ _ hbx x1
  have z2 := keep _ _ _ hbx x2
  have z3 := keep _ _ _ hbx c0'
  have hDl := H1.out.lt
  clear lkp keep
  have hb2 : Below w1.heap.size w1 (w1.alloc (.cells #[.pointer none] 91)).drew := ((Below.refl _ _).alloc (Nat.le_refl _) _).drew
  have HB2 : Hid (Below w.heap.size w (w1.alloc (.cells #[.pointer none] 91)).drew) := Lib.hid (HB1.out.trans (hb2.mono HB1.out.size))
  have HR2 : Hid ((w1.alloc (.cells #[.pointer none] 91)).drew.heap[w.heap.size + 1 + 1]? = some (.cells #[.string to] 9) ∧ (w1.alloc (.cells #[.pointer none] 91)).drew.heap[w.heap.size + 1 + 1 + 1]? = some (.cells #[.pointer none] 91)) := Lib.hid (by
    have h3 := heap_alloc_new w1 (.cells #[.pointer none] 91)
    rw [hs1] at h3
    exact ⟨(hb2.block _ (by omega)).trans HR1.out.2.2.1, h3⟩)
  clear hb2
  go_region
  all_goals
    clear x0 x1 x2 c0' z0 z1 z2 z3 hlk1 hlk2 hbx hs1 hDl
    generalize (w1.alloc (.cells #[.pointer none] 91)).drew = w2 at *
    have x2 : w2.cell? ⟨w.heap.size + 1 + 1, 0, none⟩ = some (.string to) := cell_of_row _ _ 0 _ _ _ HR2.out.1
    have x3 : w2.cell? ⟨w.heap.size + 1 + 1 + 1, 0, none⟩ = some (.pointer none) := cell_of_row _ _ 0 _ _ _ HR2.out.2
    go_wp2_with (fail)
    go_ret
    exact ⟨rfl, HB2.out⟩
set_option maxHeartbeats 2000000 in
set_option maxRecDepth 100000 in
theorem dkRename_bad {P Q : List Ent} {nm to : ByteArray} {g : Nat} {v : Value} {f : Fl} (h : DkAt w B D M d (P ++ ⟨nm, g, v, f⟩ :: Q)) (hfi : ∀ x ∈ P, x.nm ≠ nm) (hs : to.size ≤ 140737488355328) (hn : nameD to = false) :
    Calls Try.prog 44 #[pD D, .string nm, .string to] w fun e w' => e = .returned (.int .i64 16) ∧ Below w.heap.size w w' := by
  obtain ⟨hb1, hr0, hr1, hr2, hsz⟩ := boxes3 w D nm to
  have h1 := h.below hb1
  have H1 := Lib.hid h1
  have HB1 := Lib.hid hb1
  have HR1 := Lib.hid (And.intro hr0 (And.intro hr1 (And.intro hr2 hsz)))
  have c0' : (((w.alloc (.cells #[pD D] 35)).alloc (.cells #[.string nm] 9)).alloc (.cells #[.string to] 9)).cell? ⟨D, 0, none⟩ = some (.map (some M)) := h1.cell 0
  have x0 : (((w.alloc (.cells #[pD D] 35)).alloc (.cells #[.string nm] 9)).alloc (.cells #[.string to] 9)).cell? ⟨w.heap.size, 0, none⟩ = some (pD D) := cell_of_row _ _ 0 _ _ _ hr0
  have x1 : (((w.alloc (.cells #[pD D] 35)).alloc (.cells #[.string nm] 9)).alloc (.cells #[.string to] 9)).cell? ⟨w.heap.size + 1, 0, none⟩ = some (.string nm) := cell_of_row _ _ 0 _ _ _ hr1
  have x2 : (((w.alloc (.cells #[pD D] 35)).alloc (.cells #[.string nm] 9)).alloc (.cells #[.string to] 9)).cell? ⟨w.heap.size + 1 + 1, 0, none⟩ = some (.string to) := cell_of_row _ _ 0 _ _ _ hr2
  have HGET := Lib.hid (show (aget (mapL (P ++ ⟨nm, g, v, f⟩ :: Q)) nm).getD (.pointer none) = pf g from by rw [aget_at (e := ⟨nm, g, v, f⟩) hfi]; rfl)
  have HN := Lib.hid hn
  clear hn
  clear h h1 hb1 hr0 hr1 hr2 hsz
  go_enter Try.func44, Try.ntmps44
  go_wp2_with (fail)
  generalize (((w.alloc (.cells #[pD D] 35)).alloc (.cells #[.string nm] 9)).alloc (.cells #[.string to] 9)) = w1 at *
  have hs1 := HR1.out.2.2.2
  have hbx : Below w1.heap.size w1 (w1.alloc (.cells #[.pointer none] 91)) := (Below.refl _ _).alloc (Nat.le_refl _) _
  have lkp : ∀ W, Below w1.heap.size w1 W → (Instr.lookup 78 (.map (some M)) (.string nm) false).run Try.prog W = .ok (pf g) W := fun W hb => by
    have := run_lookupL kS 78 91 Try.underlying78 W M _ (H1.out.below hb).map nm (.pointer none) (by kernel_rfl) false
    rw [HGET.out] at this
    exact this
  have keep : ∀ (W : World) (T : Addr) (x : Value), Below w1.heap.size w1 W → w1.cell? T = some x → W.cell? T = some x := fun W T x hb hx => (hb.cell (p := T) (World.block_lt_of_cell? w1 T hx)).trans hx
  have hlk1 := lkp _ (Below.refl w1.heap.size w1).drew
  have hlk2 := lkp _ hbx.drew
  have z0 := keep _ _ _ hbx x0
  have z1 := keep _ _ _ hbx x1
  have z2 := keep _ _ _ hbx x2
  have z3 := keep _ _ _ hbx c0'
  have hDl := H1.out.lt
  clear lkp keep
  have hb2 : Below w1.heap.size w1 (w1.alloc (.cells #[pf g] 91)).drew := ((Below.refl _ _).alloc (Nat.le_refl _) _).drew
  have HB2 : Hid (Below w.heap.size w (w1.alloc (.cells #[pf g] 91)).drew) := Lib.hid (HB1.out.trans (hb2.mono HB1.out.size))
  have HR2 : Hid ((w1.alloc (.cells #[pf g] 91)).drew.heap[w.heap.size + 1 + 1]? = some (.cells #[.string to] 9) ∧ (w1.alloc (.cells #[pf g] 91)).drew.heap[w.heap.size + 1 + 1 + 1]? = some (.cells #[pf g] 91)) := Lib.hid (by
    have h3 := heap_alloc_new w1 (.cells #[pf g] 91)
    rw [hs1] at h3
    exact ⟨(hb2.block _ (by omega)).trans HR1.out.2.2.1, h3⟩)
  clear hb2
  go_region
  all_goals
    clear x0 x1 x2 c0' z0 z1 z2 z3 hlk1 hlk2 hbx hs1 hDl
    generalize (w1.alloc (.cells #[pf g] 91)).drew = w2 at *
    have x2 : w2.cell? ⟨w.heap.size + 1 + 1, 0, none⟩ = some (.string to) := cell_of_row _ _ 0 _ _ _ HR2.out.1
    have x3 : w2.cell? ⟨w.heap.size + 1 + 1 + 1, 0, none⟩ = some (pf g) := cell_of_row _ _ 0 _ _ _ HR2.out.2
    go_wp2_with (fail)
    refine (fnRight to w2 hs).mono ?_
    rintro e w3 ⟨rfl, rfl⟩
    rw [HN.out]
    go_wp2_with (fail)
    go_ret
    exact ⟨rfl, HB2.out⟩
theorem fdel_no {F : List Ent} {n : ByteArray} (h : ∀ e ∈ F, e.nm ≠ n) : fdel (fsOf F) n = fsOf F := by
  induction F with
  | nil => rfl
  | cons a r ih =>
    simp only [fsOf, List.map_cons, fdel]
    rw [if_neg (fun e => h a (by simp) e.symm)]
    have := ih (fun e he => h e (by simp [he]))
    simp only [fsOf] at this
    rw [this]
theorem mRename (h : DkAt w B D M d F) (ok : FsOk d (fsOf F)) (nm to : ByteArray) (hs : to.size ≤ 140737488355328) : Calls Try.prog 44 #[pD D, .string nm, .string to] w (MEnds B D M F w (opRename d (fsOf F) nm to)) := by
  unfold opRename
  cases hg : fget (fsOf F) nm with
  | none => exact (dkRename_none h nm to (fget_no hg)).mono fun e w' ⟨he, hb⟩ => by subst he; exact MEnds.same h hb
  | some f =>
    obtain ⟨P, g, v, Q, rfl, hfi⟩ := fget_mid hg
    simp only
    cases hn : nameD to
    · rw [if_pos rfl]
      exact (dkRename_bad h hfi hs hn).mono fun e w' ⟨he, hb⟩ => by subst he; exact MEnds.same h hb
    · rw [if_neg (by decide)]
      by_cases hto : nm = to
      · rw [if_pos hto]
        exact (dkRename_same h ok.ok hfi hs hn hto).mono fun e w' hr => MEnds.change hr id id rfl
      · rw [if_neg hto]
        cases hg2 : fget (fsOf (P ++ ⟨nm, g, v, f⟩ :: Q)) to with
        | none =>
          have hno := fget_no hg2
          have hfl : flen (fsOf (P ++ ⟨nm, g, v, f⟩ :: Q)) to = 0 := by unfold flen; rw [hg2]
          rw [hfl, fdel_no hno]
          refine (dkRename (d1 := { d.begin with used := d.used - ((0 : Nat) : Int) }) (P1 := P) (Q1 := Q) h ok.ok hfi hs hn hto rfl (fun w4 h4 => ?_) hno).mono fun e w' hr => MEnds.change hr id id ?_
          · refine (dkDrop_none h4 to hno).mono fun e w5 ⟨he, hw⟩ => ?_
            subst hw
            have e1 : ({ d.begin with used := d.used - ((0 : Nat) : Int) } : Dk) = d.begin := by
              unfold Dk.begin
              simp
            rw [e1]
            exact ⟨he, h4, DkCh.refl _ _ _ _⟩
          · rw [fdel_at (e := ⟨nm, g, v, f⟩) hfi]
            simp [fsOf]
        | some f2 =>
          have hl2 := ok.len hg2
          have hfl : flen (fsOf (P ++ ⟨nm, g, v, f⟩ :: Q)) to = f2.bs.length := by unfold flen; rw [hg2]
          rw [hfl]
          obtain ⟨P2, g2, v2, Q2, e2, hfi2⟩ := fget_mid hg2
          have hnd := h.names
          obtain ⟨P1, Q1, e1⟩ : ∃ P1 Q1, P2 ++ Q2 = P1 ++ ⟨nm, g, v, f⟩ :: Q1 := by
            have hm : (⟨nm, g, v, f⟩ : Ent) ∈ P2 ++ ⟨to, g2, v2, f2⟩ :: Q2 := by rw [← e2]; simp
            have hm2 : (⟨nm, g, v, f⟩ : Ent) ∈ P2 ++ Q2 := by
              rcases List.mem_append.1 hm with hm | hm
              · simp [hm]
              · rcases List.mem_cons.1 hm with hm | hm
                · injection hm with hm; exact absurd hm hto
                · simp [hm]
            exact List.append_of_mem hm2
          have hno1 : ∀ e ∈ P1 ++ ⟨nm, g, v, f⟩ :: Q1, e.nm ≠ to := fun e he => by
            rw [← e1] at he
            rw [e2] at hnd
            rw [List.map_append, List.map_cons, List.nodup_append, List.nodup_cons] at hnd
            obtain ⟨_, ⟨h5, _⟩, h6⟩ := hnd
            rcases List.mem_append.1 he with he | he
            · exact h6 e.nm (List.mem_map.2 ⟨e, he, rfl⟩) to (by simp)
            · intro e3
              exact h5 (List.mem_map.2 ⟨e, he, e3⟩)
          have hfi1 : ∀ x ∈ P1, x.nm ≠ nm := by
            have hnd2 : ((P2 ++ Q2).map (·.nm)).Nodup := by
              rw [e2] at hnd
              rw [List.map_append, List.map_cons] at hnd
              rw [List.map_append]
              exact hnd.sublist (by simp)
            rw [e1, List.map_append, List.map_cons, List.nodup_append] at hnd2
            intro x hx
            exact hnd2.2.2 x.nm (List.mem_map.2 ⟨x, hx, rfl⟩) nm (by simp)
          refine (dkRename (d1 := { d.begin with used := d.used - (f2.bs.length : Int) }) (P1 := P1) (Q1 := Q1) h ok.ok hfi hs hn hto rfl (fun w4 h4 => ?_) hno1).mono fun e w' hr => MEnds.change hr id id ?_
          · rw [e2] at h4 ⊢
            refine (dkDrop_some h4 hfi2 ⟨hl2, ok.ok.used.2⟩).mono fun e w5 ⟨he, h5, hc5⟩ => ?_
            rw [e1] at h5 hc5
            exact ⟨he, h5, hc5⟩
          · have e3 : fdel (fsOf (P ++ ⟨nm, g, v, f⟩ :: Q)) to = fsOf (P1 ++ ⟨nm, g, v, f⟩ :: Q1) := by rw [e2, fdel_at (e := ⟨to, g2, v2, f2⟩) hfi2, e1]
            rw [e3, fdel_at (e := ⟨nm, g, v, f⟩) hfi1]
            simp [fsOf]
theorem mSetRoom (h : DkAt w B D M d F) (n : Int) : Calls Try.prog 23 #[pD D, .int .i64 n] w (MEnds B D M F w (opSetRoom d (fsOf F) n)) := by
  unfold opSetRoom
  by_cases hn : 0 ≤ n ∧ n ≤ 1073741824
  · rw [if_pos hn]
    exact (dkSetRoom h n hn).mono fun e w' ⟨he, h1, h2⟩ => ⟨F, he, h1, DkCh.of1 h2, rfl⟩
  · rw [if_neg hn]
    exact (dkSetRoom_no D n hn w).mono fun e w' ⟨he, h1⟩ => by subst he h1; exact MEnds.same h (Below.refl _ _)
theorem mFail (h : DkAt w B D M d F) (n : Int) : Calls Try.prog 24 #[pD D, .int .i64 n] w (MEnds B D M F w (opFail d (fsOf F) n)) := by
  unfold opFail
  by_cases hn : n < 1
  · rw [if_pos hn]
    exact (dkFail_no D n hn w).mono fun e w' ⟨he, h1⟩ => by subst he h1; exact MEnds.same h (Below.refl _ _)
  · rw [if_neg hn]
    exact (dkFail h n (by omega)).mono fun e w' ⟨he, h1, h2⟩ => ⟨F, he, h1, DkCh.of1 h2, rfl⟩
theorem mArm (h : DkAt w B D M d F) (n k : Int) : Calls Try.prog 25 #[pD D, .int .i64 n, .int .i64 k] w (MEnds B D M F w (opArm d (fsOf F) n k)) := by
  unfold opArm
  by_cases hn : n < 1
  · rw [if_pos hn]
    exact (dkArm_no D n k hn w).mono fun e w' ⟨he, h1⟩ => by subst he h1; exact MEnds.same h (Below.refl _ _)
  · rw [if_neg hn]
    exact (dkArm h n k (by omega)).mono fun e w' ⟨he, h1, h2⟩ => ⟨F, he, h1, DkCh.of1 h2, rfl⟩
theorem mPower (h : DkAt w B D M d F) (ok : FsOk d (fsOf F)) (keep : Int) : Calls Try.prog 21 #[pD D, .int .i64 keep] w (MEnds B D M F w (opPower d (fsOf F) keep)) :=
  (dkPower h ok.dk keep).mono fun e w' ⟨he, h1, h2⟩ => ⟨_, he, by rw [← ftotal_of, fsOf_pow] at h1; exact h1, h2, fsOf_pow keep F⟩
end
end Go.Proofs.Ytolomfdommnklaa
