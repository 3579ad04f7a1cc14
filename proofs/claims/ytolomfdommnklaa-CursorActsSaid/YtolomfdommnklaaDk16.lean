/- Layer 2: what the law's call does, whatever it is asked, in one contract; what stays right. -/
import Derived.Test.YtolomfdommnklaaDk15
namespace Go.Proofs.Ytolomfdommnklaa
open Go.RowKit Go.MapKept

def appO (d : Dk) (fs : Fs) (a : ByteArray) (l : List UInt8) : OutN :=
  if nameD a = false then ((0, .inl 16), d, fs)
  else if d.armedIn = 1 then ((0, .inr (d.ops + 1)), { d.begin with used := d.used + (appK d l.length : Int) }, layF fs a (l.take (appK d l.length)))
  else (((appN d l.length : Int), .inl (appE d l.length)), { d.begin with used := d.used + (appN d l.length : Int) }, layF fs a (l.take (appN d l.length)))
def liftO (r : Out) : OutN := ((0, r.1), r.2.1, r.2.2)
def callD (d : Dk) (fs : Fs) (kd n k : Int) (a b : ByteArray) (l : List UInt8) : OutN :=
  if kd = 0 then appO d fs a l
  else if kd = 1 then liftO (opTrunc d fs a n)
  else if kd = 2 then liftO (opSync d fs a)
  else if kd = 3 then liftO (opRename d fs a b)
  else if kd = 4 then liftO (opRemove d fs a)
  else if kd = 5 then liftO (opSetRoom d fs n)
  else if kd = 6 then liftO (opFail d fs n)
  else if kd = 7 then liftO (opArm d fs n k)
  else if kd = 8 then liftO (opPower d fs k)
  else ((0, .inl 0), d, fs)
section
variable {w : World} {B D M : Nat} {d : Dk} {F : List Ent}
end

/-! what stays right -/
theorem fget_mem : ∀ {fs : Fs} {n : ByteArray} {f : Fl}, fget fs n = some f → (n, f) ∈ fs
  | (a, v) :: r, n, f, h => by
    unfold fget at h
    split at h
    · rename_i e; injection h with h; subst h e; simp
    · exact List.mem_cons_of_mem _ (fget_mem h)
theorem fput_names_some : ∀ {fs : Fs} {n : ByteArray} {f : Fl} (v : Fl), fget fs n = some f → (fput fs n v).map (·.1) = fs.map (·.1)
  | (a, u) :: r, n, f, v, h => by
    unfold fget at h
    unfold fput
    split
    · rename_i e; simp [e]
    · rename_i e
      rw [if_neg e] at h
      simp [fput_names_some v h]
theorem fput_new : ∀ {fs : Fs} {n : ByteArray} (v : Fl), fget fs n = none → fput fs n v = fs ++ [(n, v)]
  | [], n, v, h => rfl
  | (a, u) :: r, n, v, h => by
    unfold fget at h
    unfold fput
    split
    · rename_i e; rw [if_pos e] at h; cases h
    · rename_i e
      rw [if_neg e] at h
      rw [fput_new v h]; rfl
theorem fget_none_names : ∀ {fs : Fs} {n : ByteArray}, fget fs n = none → n ∉ fs.map (·.1)
  | [], n, h => by simp
  | (a, u) :: r, n, h => by
    unfold fget at h
    split at h
    · cases h
    · rename_i e
      rw [List.map_cons, List.mem_cons]
      rintro (h2 | h2)
      · exact e h2
      · exact fget_none_names h h2
theorem mem_fput : ∀ {fs : Fs} {n : ByteArray} {v : Fl} {x : ByteArray × Fl}, x ∈ fput fs n v → x = (n, v) ∨ x ∈ fs
  | [], n, v, x, h => by simp [fput] at h; exact .inl h
  | (a, u) :: r, n, v, x, h => by
    unfold fput at h
    split at h
    · rcases List.mem_cons.1 h with h | h
      · exact .inl h
      · exact .inr (List.mem_cons_of_mem _ h)
    · rcases List.mem_cons.1 h with h | h
      · exact .inr (by rw [h]; simp)
      · rcases mem_fput h with h | h
        · exact .inl h
        · exact .inr (List.mem_cons_of_mem _ h)
theorem ftotal_fput : ∀ {fs : Fs} {n : ByteArray} {f : Fl} (v : Fl), fget fs n = some f → ftotal (fput fs n v) + f.bs.length = ftotal fs + v.bs.length
  | (a, u) :: r, n, f, v, h => by
    unfold fget at h
    unfold fput
    split
    · rename_i e
      rw [if_pos e] at h
      injection h with h
      subst h
      rw [ftotal_cons, ftotal_cons]; simp only; omega
    · rename_i e
      rw [if_neg e] at h
      have := ftotal_fput v h
      rw [ftotal_cons, ftotal_cons]; omega
theorem fdel_sub : ∀ (fs : Fs) (n : ByteArray), (fdel fs n).Sublist fs
  | [], n => List.Sublist.refl _
  | (a, u) :: r, n => by
    unfold fdel
    split
    · exact List.sublist_cons_self _ _
    · exact (fdel_sub r n).cons_cons _
theorem ftotal_fdel : ∀ {fs : Fs} {n : ByteArray} {f : Fl}, fget fs n = some f → ftotal (fdel fs n) + f.bs.length = ftotal fs
  | (a, u) :: r, n, f, h => by
    unfold fget at h
    unfold fdel
    split
    · rename_i e
      rw [if_pos e] at h
      injection h with h
      subst h
      rw [ftotal_cons]; simp only; omega
    · rename_i e
      rw [if_neg e] at h
      have := ftotal_fdel h
      rw [ftotal_cons, ftotal_cons]; omega
theorem fdel_names_not : ∀ {fs : Fs} {n : ByteArray}, (fs.map (·.1)).Nodup → n ∉ (fdel fs n).map (·.1)
  | [], n, _ => by simp [fdel]
  | (a, u) :: r, n, h => by
    rw [List.map_cons, List.nodup_cons] at h
    unfold fdel
    split
    · rename_i e; subst e; exact h.1
    · rename_i e
      rw [List.map_cons, List.mem_cons]
      rintro (h2 | h2)
      · exact e h2
      · exact fdel_names_not h.2 h2
theorem fget_fdel_ne : ∀ {fs : Fs} {n m : ByteArray}, n ≠ m → fget (fdel fs n) m = fget fs m
  | [], n, m, _ => rfl
  | (a, u) :: r, n, m, h => by
    unfold fdel
    split
    · rename_i e
      conv => rhs; unfold fget
      rw [if_neg (fun e2 => h (by rw [e, e2]))]
    · unfold fget
      split
      · rfl
      · exact fget_fdel_ne h
theorem ftotal_flen {fs : Fs} (n : ByteArray) : ftotal (fdel fs n) + flen fs n = ftotal fs := by
  unfold flen
  cases h : fget fs n with
  | some f => exact ftotal_fdel h
  | none =>
    simp only
    induction fs with
    | nil => rfl
    | cons a r ih =>
      obtain ⟨a, u⟩ := a
      unfold fget at h
      unfold fdel
      split
      · rename_i e; rw [if_pos e] at h; cases h
      · rename_i e
        rw [if_neg e] at h
        have := ih h
        rw [ftotal_cons, ftotal_cons]; omega
theorem Dk.Ok.begin' {d : Dk} (ok : d.Ok) (h : d.ops + 1 ≤ 1152921504606846976) : d.begin.Ok := by
  have h1 := ok.armedIn
  have h2 := ok.ops
  refine ⟨ok.room, ok.used, ⟨by show 0 ≤ d.ops + 1; omega, h⟩, ok.failIn, ?_, ok.armKeep⟩
  unfold Dk.begin
  simp only
  split <;> omega
theorem Dk.Ok.used' {d : Dk} (ok : d.Ok) {u : Int} (h : 0 ≤ u ∧ u ≤ 1073741824) : ({ d with used := u } : Dk).Ok := ⟨ok.room, h, ok.ops, ok.failIn, ok.armedIn, ok.armKeep⟩
/-- out of a change: right before, right behind -/
theorem FsOk.change {d d1 d2 : Dk} {fs done : Fs} {x : Int} (h1 : FsOk d1 done) (h2 : FsOk d2 fs) : FsOk (opChange d fs x d1 d2 done).2.1 (opChange d fs x d1 d2 done).2.2 := by
  unfold opChange
  split
  · split
    · exact h1
    · exact h2
  · exact h1
theorem FsOk.nums {d d' : Dk} {fs : Fs} (h : FsOk d fs) (ok : d'.Ok) (hu : d'.used = d.used) : FsOk d' fs := ⟨ok, by rw [hu]; exact h.tot, h.safe, h.names⟩
theorem FsOk.put {d d' : Dk} {fs : Fs} {n : ByteArray} {f v : Fl} (h : FsOk d fs) (hg : fget fs n = some f) (hs : v.safe ≤ v.bs.length) (ok : d'.Ok) (hu : d'.used = d.used - f.bs.length + v.bs.length) : FsOk d' (fput fs n v) := by
  have h1 := ftotal_fput v hg
  have h2 := h.tot
  refine ⟨ok, by rw [hu]; omega, fun e he => ?_, by rw [fput_names_some v hg]; exact h.names⟩
  rcases mem_fput he with rfl | he
  · exact hs
  · exact h.safe e he
section
variable {d : Dk} {fs : Fs}
theorem trunc_ok (h : FsOk d fs) (ho : d.ops + 1 ≤ 1152921504606846976) (a : ByteArray) (n : Int) : FsOk (opTrunc d fs a n).2.1 (opTrunc d fs a n).2.2 := by
  unfold opTrunc
  cases hg : fget fs a with
  | none => exact h
  | some f =>
    simp only
    split
    · exact h
    · rename_i hn
      have hl := h.len hg
      have hu := h.ok.used
      have hsf := h.safe _ (fget_mem hg)
      simp only at hsf
      refine FsOk.change (FsOk.put (f := f) h hg ?_ ((h.ok.begin' ho).used' ⟨by omega, by omega⟩) ?_) (h.nums (h.ok.begin' ho) rfl)
      · simp only [trFl, List.length_take]; omega
      · simp only [trFl, List.length_take]; omega
theorem sync_ok (h : FsOk d fs) (ho : d.ops + 1 ≤ 1152921504606846976) (a : ByteArray) : FsOk (opSync d fs a).2.1 (opSync d fs a).2.2 := by
  unfold opSync
  cases hg : fget fs a with
  | none => exact h
  | some f =>
    have hsf := h.safe _ (fget_mem hg)
    simp only at hsf
    have hk : d.syncs.begin.Ok := h.ok.syncs.begin' ho
    refine FsOk.change (FsOk.put (f := f) h hg ?_ hk ?_) (h.nums hk rfl)
    · unfold syncFl; split
      · exact hsf
      · exact Nat.le_refl _
    · show d.used = _
      unfold syncFl; split <;> simp <;> omega
theorem remove_ok (h : FsOk d fs) (ho : d.ops + 1 ≤ 1152921504606846976) (a : ByteArray) : FsOk (opRemove d fs a).2.1 (opRemove d fs a).2.2 := by
  unfold opRemove
  cases hg : fget fs a with
  | none => exact h
  | some f =>
    have hl := h.len hg
    have hu := h.ok.used
    have h1 := ftotal_fdel hg
    have h2 := h.tot
    refine FsOk.change ⟨(h.ok.begin' ho).used' ⟨by omega, by omega⟩, ?_, fun e he => h.safe e ((fdel_sub fs a).subset he), h.names.sublist ((fdel_sub fs a).map _)⟩ (h.nums (h.ok.begin' ho) rfl)
    show d.used - _ = _
    omega
theorem rename_ok (h : FsOk d fs) (ho : d.ops + 1 ≤ 1152921504606846976) (a b : ByteArray) : FsOk (opRename d fs a b).2.1 (opRename d fs a b).2.2 := by
  unfold opRename
  cases hg : fget fs a with
  | none => exact h
  | some f =>
    simp only
    split
    · exact h
    · split
      · exact FsOk.change (h.nums (h.ok.begin' ho) rfl) (h.nums (h.ok.begin' ho) rfl)
      · rename_i hne
        have hg2 : fget (fdel fs b) a = some f := by rw [fget_fdel_ne (fun e => hne e.symm)]; exact hg
        have h1 := ftotal_fdel hg2
        have h2 := ftotal_flen (fs := fs) b
        have h3 := h.tot
        have hu := h.ok.used
        have hsf := h.safe _ (fget_mem hg)
        simp only at hsf
        refine FsOk.change ⟨(h.ok.begin' ho).used' ⟨by omega, by omega⟩, ?_, fun e he => ?_, ?_⟩ (h.nums (h.ok.begin' ho) rfl)
        · show d.used - _ = _
          rw [ftotal_app, ftotal_cons]
          simp only [ftotal, List.map_nil, List.sum_nil] at *
          omega
        · rcases List.mem_append.1 he with he | he
          · exact h.safe e ((fdel_sub fs b).subset ((fdel_sub _ a).subset he))
          · rw [List.mem_singleton.1 he]; exact hsf
        · have hn1 : ((fdel fs b).map (·.1)).Nodup := h.names.sublist ((fdel_sub fs b).map _)
          have hn2 : ((fdel (fdel fs b) a).map (·.1)).Nodup := hn1.sublist ((fdel_sub _ a).map _)
          rw [List.map_append, List.nodup_append]
          refine ⟨hn2, by simp, fun x hx y hy e => ?_⟩
          simp at hy
          subst hy e
          have := fdel_names_not (n := x) h.names
          exact this (((fdel_sub (fdel fs x) a).map _).subset hx)
theorem power_ok (h : FsOk d fs) (k : Int) : FsOk (opPower d fs k).2.1 (opPower d fs k).2.2 := by
  unfold opPower
  have hle : ftotal (powFs k fs) ≤ ftotal fs := by
    have hs := h.safe
    clear h
    induction fs with
    | nil => exact Nat.le_refl _
    | cons a r ih =>
      have h1 := ih (fun e he => hs e (List.mem_cons_of_mem _ he))
      have h2 := hs a (by simp)
      unfold powFs at h1 ⊢
      rw [List.map_cons, ftotal_cons, ftotal_cons]
      have h5 : (powFl k a.2).bs.length ≤ a.2.bs.length := by simp only [powFl, List.length_take]; omega
      simp only at h5 ⊢
      omega
  have h3 := h.tot
  have h4 := h.ok.used
  refine ⟨⟨h.ok.room, ⟨by simp only; omega, by simp only; omega⟩, h.ok.ops, ⟨by simp, by simp⟩, ⟨by simp, by simp⟩, h.ok.armKeep⟩, rfl, fun e he => ?_, ?_⟩
  · obtain ⟨x, hx, rfl⟩ := List.mem_map.1 he
    have h2 := h.safe x hx
    have := powN_le (keep := k) h2
    simp only [powFl, List.length_take]
    omega
  · unfold powFs
    rw [List.map_map]
    exact h.names
theorem lay_ok (h : FsOk d fs) (ho : d.ops + 1 ≤ 1152921504606846976) (a : ByteArray) (l : List UInt8) (N : Nat) (hN : N ≤ l.length) (hr : d.used + (N : Int) ≤ 1073741824) : FsOk { d.begin with used := d.used + (N : Int) } (layF fs a (l.take N)) := by
  have hu := h.ok.used
  have ht := h.tot
  have hk : ({ d.begin with used := d.used + (N : Int) } : Dk).Ok := (h.ok.begin' ho).used' ⟨by omega, hr⟩
  unfold layF
  cases hg : fget fs a with
  | some f =>
    have hsf := h.safe _ (fget_mem hg)
    simp only at hsf
    refine FsOk.put h hg (by simp; omega) hk ?_
    simp
    omega
  | none =>
    rw [fput_new _ hg]
    refine ⟨hk, ?_, fun e he => ?_, ?_⟩
    · rw [ftotal_app, ftotal_cons]
      simp only [ftotal, List.map_nil, List.sum_nil, List.length_take] at *
      omega
    · rcases List.mem_append.1 he with he | he
      · exact h.safe e he
      · rw [List.mem_singleton.1 he]; exact Nat.zero_le _
    · rw [List.map_append, List.nodup_append]
      refine ⟨h.names, by simp, fun x hx y hy e => ?_⟩
      simp at hy
      subst hy e
      exact fget_none_names hg hx
theorem appN_room (h : FsOk d fs) (m : Nat) : d.used + (appN d m : Int) ≤ 1073741824 := by
  have h1 := h.ok.used
  have h2 := h.ok.room
  unfold appN
  omega
theorem callD_ok (h : FsOk d fs) (ho : d.ops + 1 ≤ 1152921504606846976) (kd n k : Int) (hn : -9223372036854775808 ≤ n ∧ n ≤ 9223372036854775807) (hk : -9223372036854775808 ≤ k ∧ k ≤ 9223372036854775807) (a b : ByteArray) (l : List UInt8) :
    FsOk (callD d fs kd n k a b l).2.1 (callD d fs kd n k a b l).2.2 := by
  unfold callD
  split
  · unfold appO
    split
    · exact h
    · split
      · exact lay_ok h ho a l _ (by unfold appK appN; omega) (by have := appN_room h l.length; unfold appK; omega)
      · exact lay_ok h ho a l _ (by unfold appN; omega) (appN_room h l.length)
  split
  · exact trunc_ok h ho a n
  split
  · exact sync_ok h ho a
  split
  · exact rename_ok h ho a b
  split
  · exact remove_ok h ho a
  split
  · unfold liftO opSetRoom
    split
    · rename_i hh; exact h.nums ⟨hh, h.ok.used, h.ok.ops, h.ok.failIn, h.ok.armedIn, h.ok.armKeep⟩ rfl
    · exact h
  split
  · unfold liftO opFail
    split
    · exact h
    · exact h.nums ⟨h.ok.room, h.ok.used, h.ok.ops, ⟨by simp only; omega, hn.2⟩, h.ok.armedIn, h.ok.armKeep⟩ rfl
  split
  · unfold liftO opArm
    split
    · exact h
    · exact h.nums ⟨h.ok.room, h.ok.used, h.ok.ops, h.ok.failIn, ⟨by simp only; omega, hn.2⟩, hk⟩ rfl
  split
  · exact power_ok h k
  · exact h
/-- at most one change more is counted -/
theorem opChange_ops {x : Int} {d1 d2 : Dk} {done : Fs} {u : Int} (h1 : d1.ops ≤ u) (h2 : d2.ops ≤ u) : (opChange d fs x d1 d2 done).2.1.ops ≤ u := by
  unfold opChange
  split
  · split <;> assumption
  · assumption
theorem callD_ops (kd n k : Int) (a b : ByteArray) (l : List UInt8) : (callD d fs kd n k a b l).2.1.ops ≤ d.ops + 1 := by
  have e1 : d.begin.ops = d.ops + 1 := rfl
  unfold callD
  split
  · unfold appO
    split
    · simp only; omega
    · split <;> exact Int.le_refl _
  split
  · unfold liftO opTrunc
    cases fget fs a with
    | none => simp only; omega
    | some f =>
      simp only
      split
      · simp only; omega
      · exact opChange_ops (Int.le_refl _) (Int.le_refl _)
  split
  · unfold liftO opSync
    cases fget fs a with
    | none => simp only; omega
    | some f => exact opChange_ops (Int.le_refl _) (Int.le_refl _)
  split
  · unfold liftO opRename
    cases fget fs a with
    | none => simp only; omega
    | some f =>
      simp only
      split
      · simp only; omega
      · split <;> exact opChange_ops (Int.le_refl _) (Int.le_refl _)
  split
  · unfold liftO opRemove
    cases fget fs a with
    | none => simp only; omega
    | some f => exact opChange_ops (Int.le_refl _) (Int.le_refl _)
  split
  · unfold liftO opSetRoom; split <;> simp only <;> omega
  split
  · unfold liftO opFail; split <;> simp only <;> omega
  split
  · unfold liftO opArm; split <;> simp only <;> omega
  split
  · unfold liftO opPower; simp only; omega
  · simp only; omega
end
end Go.Proofs.Ytolomfdommnklaa
