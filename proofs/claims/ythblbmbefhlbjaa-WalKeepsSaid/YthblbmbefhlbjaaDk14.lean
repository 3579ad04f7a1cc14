/- Layer 2: what each change does, told of the files and numbers alone; the contracts in these words. -/
import Derived.Test.YthblbmbefhlbjaaDk13
namespace Go.Proofs.Ythblbmbefhlbjaa
open Go.RowKit Go.MapKept

def ftotal (fs : Fs) : Nat := (fs.map fun e => e.2.bs.length).sum
theorem ftotal_of (F : List Ent) : ftotal (fsOf F) = total F := by
  unfold ftotal total fsOf
  rw [List.map_map]; rfl
theorem ftotal_app (a b : Fs) : ftotal (a ++ b) = ftotal a + ftotal b := by simp [ftotal]
theorem ftotal_cons (a : ByteArray × Fl) (b : Fs) : ftotal (a :: b) = a.2.bs.length + ftotal b := by simp [ftotal]
/-- numbers that fit the files -/
structure FsOk (d : Dk) (fs : Fs) : Prop where
  ok : d.Ok
  tot : d.used = (ftotal fs : Int)
  safe : ∀ e ∈ fs, e.2.safe ≤ e.2.bs.length
  names : (fs.map (·.1)).Nodup
theorem FsOk.dk {d : Dk} {F : List Ent} (h : FsOk d (fsOf F)) : DkOk d F :=
  ⟨h.ok, by rw [h.tot, ftotal_of], fun e he => h.safe (e.nm, e.f) (List.mem_map.2 ⟨e, he, rfl⟩)⟩
theorem FsOk.len {d : Dk} {fs : Fs} (h : FsOk d fs) {n : ByteArray} {f : Fl} (hf : fget fs n = some f) : (f.bs.length : Int) ≤ d.used := by
  rw [h.tot]
  have : f.bs.length ≤ ftotal fs := by
    clear h
    induction fs with
    | nil => cases hf
    | cons a r ih =>
      rw [ftotal_cons]
      unfold fget at hf
      split at hf
      · injection hf with hf; subst hf; omega
      · have := ih hf; omega
  omega
theorem fget_mid {F : List Ent} {n : ByteArray} {f : Fl} (h : fget (fsOf F) n = some f) : ∃ P g v Q, F = P ++ ⟨n, g, v, f⟩ :: Q ∧ ∀ x ∈ P, x.nm ≠ n := by
  rcases aget_split F n with ⟨_, h2⟩ | ⟨P, e, Q, rfl, rfl, _, h3⟩
  · rw [fget_none h2] at h; cases h
  · rw [fget_at h3] at h
    injection h with h
    subst h
    exact ⟨P, e.g, e.v, Q, rfl, h3⟩
theorem fget_no {F : List Ent} {n : ByteArray} (h : fget (fsOf F) n = none) : ∀ e ∈ F, e.nm ≠ n := by
  rcases aget_split F n with ⟨_, h2⟩ | ⟨P, e, Q, rfl, rfl, _, h3⟩
  · exact h2
  · rw [fget_at h3] at h; cases h
abbrev Out := (Int ⊕ Int) × Dk × Fs
/-- a change that is done as a whole, or not at all -/
def opChange (d : Dk) (fs : Fs) (x : Int) (d1 d2 : Dk) (done : Fs) : Out :=
  if d.armedIn = 1 then (.inr (d.ops + 1), if dOdd d then (d1, done) else (d2, fs)) else (.inl x, d1, done)
def opTrunc (d : Dk) (fs : Fs) (nm : ByteArray) (n : Int) : Out :=
  match fget fs nm with
  | none => (.inl 6, d, fs)
  | some f => if n < 0 ∨ (f.bs.length : Int) < n then (.inl 3, d, fs) else opChange d fs 0 { d.begin with used := d.used - ((f.bs.length : Int) - (n.toNat : Int)) } d.begin (fput fs nm (trFl n.toNat f))
def opSync (d : Dk) (fs : Fs) (nm : ByteArray) : Out :=
  match fget fs nm with
  | none => (.inl 6, d, fs)
  | some f => opChange d fs (syncErr (d.failIn == 1)) d.syncs.begin d.syncs.begin (fput fs nm (syncFl (d.failIn == 1) f))
def opRemove (d : Dk) (fs : Fs) (nm : ByteArray) : Out :=
  match fget fs nm with
  | none => (.inl 6, d, fs)
  | some f => opChange d fs 0 { d.begin with used := d.used - (f.bs.length : Int) } d.begin (fdel fs nm)
/-- how many bytes a file has -/
def flen (fs : Fs) (nm : ByteArray) : Nat := match fget fs nm with | some f => f.bs.length | none => 0
def opRename (d : Dk) (fs : Fs) (nm to : ByteArray) : Out :=
  match fget fs nm with
  | none => (.inl 6, d, fs)
  | some f => if nameD to = false then (.inl 16, d, fs) else if nm = to then opChange d fs 0 d.begin d.begin fs
    else opChange d fs 0 { d.begin with used := d.used - (flen fs to : Int) } d.begin (fdel (fdel fs to) nm ++ [(to, f)])
def opSetRoom (d : Dk) (fs : Fs) (n : Int) : Out := if 0 ≤ n ∧ n ≤ 1073741824 then (.inl 0, { d with room := n }, fs) else (.inl 3, d, fs)
def opFail (d : Dk) (fs : Fs) (n : Int) : Out := if n < 1 then (.inl 3, d, fs) else (.inl 0, { d with failIn := n }, fs)
def opArm (d : Dk) (fs : Fs) (n k : Int) : Out := if n < 1 then (.inl 3, d, fs) else (.inl 0, { d with armedIn := n, armKeep := k }, fs)
def powFs (keep : Int) (fs : Fs) : Fs := fs.map fun e => (e.1, powFl keep e.2)
def opPower (d : Dk) (fs : Fs) (keep : Int) : Out := (.inl 0, { d with used := (ftotal (powFs keep fs) : Int), failIn := 0, armedIn := 0 }, powFs keep fs)
/-- how a method ends -/
def endM : Int ⊕ Int → Ending
  | .inl x => .returned (.int .i64 x)
  | .inr op => .panicked [{ v := crashI op, recovered := false }]
def MEnds (B D M : Nat) (F : List Ent) (w : World) (r : Out) (e : Ending) (w' : World) : Prop :=
  ∃ F', e = endM r.1 ∧ DkAt w' B D M r.2.1 F' ∧ DkCh D M F F' w w' ∧ fsOf F' = r.2.2
theorem fsOf_pow (keep : Int) (F : List Ent) : fsOf (F.map (powE keep)) = powFs keep (fsOf F) := by
  unfold fsOf powFs
  rw [List.map_map, List.map_map]; rfl
section
variable {w : World} {B D M : Nat} {d : Dk} {F : List Ent}
theorem MEnds.same {d : Dk} {w' : World} {x : Int} (h : DkAt w B D M d F) (hb : Below w.heap.size w w') : MEnds B D M F w (.inl x, d, fsOf F) (.returned (.int .i64 x)) w' := ⟨F, rfl, h.below hb, DkCh.of_below hb, rfl⟩
/-- out of a change's ends -/
theorem MEnds.change {d1 d2 : Dk} {F1 : List Ent} {e : Ending} {w' : World} {x : Int} {Rgo Rno : World → Prop} (h : ChOut (.int .i64 x) d Rgo Rno e w')
    (h1 : Rgo w' → DkAt w' B D M d1 F1 ∧ DkCh D M F F1 w w') (h2 : Rno w' → DkAt w' B D M d2 F ∧ DkCh D M F F w w') {fs : Fs} (hf : fsOf F1 = fs) : MEnds B D M F w (opChange d (fsOf F) x d1 d2 fs) e w' := by
  subst hf
  unfold opChange
  rcases h with ⟨ha, rfl, hr⟩ | ⟨ha, rfl, ⟨ho, hr⟩ | ⟨ho, hr⟩⟩
  · rw [if_neg ha]
    exact ⟨F1, rfl, (h1 hr).1, (h1 hr).2, rfl⟩
  · rw [if_pos ha, if_pos ho]
    exact ⟨F1, rfl, (h1 hr).1, (h1 hr).2, rfl⟩
  · rw [if_pos ha, if_neg (by rw [ho]; decide)]
    exact ⟨F, rfl, (h2 hr).1, (h2 hr).2, rfl⟩

theorem mSync (h : DkAt w B D M d F) (ok : FsOk d (fsOf F)) (nm : ByteArray) : Calls Try.prog 44 #[pD D, .string nm] w (MEnds B D M F w (opSync d (fsOf F) nm)) := by
  unfold opSync
  cases hg : fget (fsOf F) nm with
  | none => exact (dkSync_none h nm (fget_no hg)).mono fun e w' ⟨he, hb⟩ => by subst he; exact MEnds.same h hb
  | some f =>
    obtain ⟨P, g, v, Q, rfl, hfi⟩ := fget_mid hg
    have e1 : fsOf (P ++ ⟨nm, g, v, syncFl (d.failIn == 1) f⟩ :: Q) = fput (fsOf (P ++ ⟨nm, g, v, f⟩ :: Q)) nm (syncFl (d.failIn == 1) f) := (fput_at (e := ⟨nm, g, v, f⟩) _ hfi g v).symm
    by_cases ha : d.armedIn = 1
    · cases ho : dOdd d
      · refine (dkSync_even h ok.ok ha ho hfi).mono fun e w' ⟨he, h1, h2⟩ => ?_
        simp only [opChange, if_pos ha, ho]
        exact ⟨_, he, h1, h2, rfl⟩
      · refine (dkSync_odd h ok.ok ha ho hfi).mono fun e w' ⟨he, h1, h2⟩ => ?_
        simp only [opChange, if_pos ha, ho]
        exact ⟨_, he, h1, h2, e1⟩
    · refine (dkSync_go h ok.ok ha hfi).mono fun e w' ⟨he, h1, h2⟩ => ?_
      simp only [opChange, if_neg ha]
      exact ⟨_, he, h1, h2, e1⟩

theorem mTrunc (h : DkAt w B D M d F) (ok : FsOk d (fsOf F)) (nm : ByteArray) (n : Int) : Calls Try.prog 65 #[pD D, .string nm, .int .i64 n] w (MEnds B D M F w (opTrunc d (fsOf F) nm n)) := by
  unfold opTrunc
  cases hg : fget (fsOf F) nm with
  | none => exact (dkTruncate_none h nm n (fget_no hg)).mono fun e w' ⟨he, hb⟩ => by subst he; exact MEnds.same h hb
  | some f =>
    have hl := ok.len hg
    obtain ⟨P, g, v, Q, rfl, hfi⟩ := fget_mid hg
    obtain ⟨A0, c0, rfl⟩ := own_form (show w.ownsRow B 5 1 v f.bs.length (u8s f.bs) from (h.files ⟨nm, g, v, f⟩ (by simp)).own)
    simp only
    by_cases h1 : n < 0
    · rw [if_pos (.inl h1)]
      exact (dkTruncate_neg h hfi n h1).mono fun e w' ⟨he, hb⟩ => by subst he; exact MEnds.same h hb
    · by_cases h2 : (f.bs.length : Int) < n
      · rw [if_pos (.inr h2)]
        exact (dkTruncate_far h hfi n h2).mono fun e w' ⟨he, hb⟩ => by subst he; exact MEnds.same h hb
      · rw [if_neg (by omega)]
        have hk := dkTruncate h hfi n.toNat (by omega) ok.ok hl
        rw [show ((n.toNat : Nat) : Int) = n by omega] at hk
        refine hk.mono fun e w' hr => ?_
        rw [show ((n.toNat : Nat) : Int) = n by omega]
        exact MEnds.change hr (fun hh => by unfold TrR at hh; rw [show ((n.toNat : Nat) : Int) = n by omega] at hh; exact hh) id (fput_at (e := ⟨nm, g, _, f⟩) _ hfi g _).symm
theorem fdel_no {F : List Ent} {n : ByteArray} (h : ∀ e ∈ F, e.nm ≠ n) : fdel (fsOf F) n = fsOf F := by
  induction F with
  | nil => rfl
  | cons a r ih =>
    simp only [fsOf, List.map_cons, fdel]
    rw [if_neg (fun e => h a (by simp) e.symm)]
    have := ih (fun e he => h e (by simp [he]))
    simp only [fsOf] at this
    rw [this]
theorem mSetRoom (h : DkAt w B D M d F) (n : Int) : Calls Try.prog 24 #[pD D, .int .i64 n] w (MEnds B D M F w (opSetRoom d (fsOf F) n)) := by
  unfold opSetRoom
  by_cases hn : 0 ≤ n ∧ n ≤ 1073741824
  · rw [if_pos hn]
    exact (dkSetRoom h n hn).mono fun e w' ⟨he, h1, h2⟩ => ⟨F, he, h1, DkCh.of1 h2, rfl⟩
  · rw [if_neg hn]
    exact (dkSetRoom_no D n hn w).mono fun e w' ⟨he, h1⟩ => by subst he h1; exact MEnds.same h (Below.refl _ _)
theorem mFail (h : DkAt w B D M d F) (n : Int) : Calls Try.prog 25 #[pD D, .int .i64 n] w (MEnds B D M F w (opFail d (fsOf F) n)) := by
  unfold opFail
  by_cases hn : n < 1
  · rw [if_pos hn]
    exact (dkFail_no D n hn w).mono fun e w' ⟨he, h1⟩ => by subst he h1; exact MEnds.same h (Below.refl _ _)
  · rw [if_neg hn]
    exact (dkFail h n (by omega)).mono fun e w' ⟨he, h1, h2⟩ => ⟨F, he, h1, DkCh.of1 h2, rfl⟩
theorem mArm (h : DkAt w B D M d F) (n k : Int) : Calls Try.prog 26 #[pD D, .int .i64 n, .int .i64 k] w (MEnds B D M F w (opArm d (fsOf F) n k)) := by
  unfold opArm
  by_cases hn : n < 1
  · rw [if_pos hn]
    exact (dkArm_no D n k hn w).mono fun e w' ⟨he, h1⟩ => by subst he h1; exact MEnds.same h (Below.refl _ _)
  · rw [if_neg hn]
    exact (dkArm h n k (by omega)).mono fun e w' ⟨he, h1, h2⟩ => ⟨F, he, h1, DkCh.of1 h2, rfl⟩
theorem mPower (h : DkAt w B D M d F) (ok : FsOk d (fsOf F)) (keep : Int) : Calls Try.prog 27 #[pD D, .int .i64 keep] w (MEnds B D M F w (opPower d (fsOf F) keep)) :=
  (dkPower h ok.dk keep).mono fun e w' ⟨he, h1, h2⟩ => ⟨_, he, by rw [← ftotal_of, fsOf_pow] at h1; exact h1, h2, fsOf_pow keep F⟩
end
end Go.Proofs.Ythblbmbefhlbjaa
