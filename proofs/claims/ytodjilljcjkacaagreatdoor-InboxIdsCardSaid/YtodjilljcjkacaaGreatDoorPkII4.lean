/- Laid together: Dk10, Dk15, Dk16, CrcLit, CrcMath, Crc, CrcAlive, CrcSeal, EntryMath, Entry, EntryPut, EntryGet, BytesEqual, EntryAlive, CrcOpen, CrcBursts, CrcTurns, EntryTurnsMath, ScanMath, ScanJoin. -/
import Derived.Test.YtodjilljcjkacaaGreatDoorPkII3
import Derived.Lib.SlBytesConst
import Derived.Laws.BitsAllLaws
import Derived.RegionTactic
import Derived.BigRegion
import Derived.Deep.RegionWith
import Derived.Deep.RegionLaw

/- Layer 2: the law's call of Append, walked. -/
namespace Go.Proofs.YtodjilljcjkacaaGreatDoor
open Go.RowKit Go.MapKept

section
variable {w : World} {B D M : Nat} {d : Dk} {F : List Ent}
theorem DkCh.boxes {F' : List Ent} {w1 w2 w3 : World} {s : Nat} (c : DkCh D M F F' w1 w2) (hs : ∀ k, DFoot D M F k → k < s) (hs2 : s + 4 ≤ w1.heap.size) {d' : Dk} (h2 : DkAt w2 B D M d' F') (c3 : Ch (BxS s) w2 w3) : DkAt w3 B D M d' F' :=
  h2.ch c3 (fun k hk hb => by
    have hb1 := hb.1
    have hb2 := hb.2
    rcases hk with hk | hk | hk
    · have := hs k (.inl hk); omega
    · have := hs k (.inr (.inl hk)); omega
    · rcases c.foot k hk with h5 | h5
      · have := hs k (.inr (.inr h5)); omega
      · omega)
/-- an append's error -/
def appE (d : Dk) (m : Nat) : Int := if appN d m < m then 4 else 0
end
end Go.Proofs.YtodjilljcjkacaaGreatDoor
/- Layer 2: the law's call of any change, walked. -/
namespace Go.Proofs.YtodjilljcjkacaaGreatDoor
open Go.RowKit Go.MapKept

abbrev OutN := (Int × (Int ⊕ Int)) × Dk × Fs
section
variable {w : World} {B D M : Nat} {d : Dk} {F : List Ent}
end
end Go.Proofs.YtodjilljcjkacaaGreatDoor
/- Layer 2: what the law's call does, whatever it is asked, in one contract; what stays right. -/
namespace Go.Proofs.YtodjilljcjkacaaGreatDoor
open Go.RowKit Go.MapKept

def appO (d : Dk) (fs : Fs) (a : ByteArray) (l : List UInt8) : OutN :=
  if nameD a = false then ((0, .inl 16), d, fs)
  else if d.armedIn = 1 then ((0, .inr (d.ops + 1)), { d.begin with used := d.used + (appK d l.length : Int) }, layF fs a (l.take (appK d l.length)))
  else (((appN d l.length : Int), .inl (appE d l.length)), { d.begin with used := d.used + (appN d l.length : Int) }, layF fs a (l.take (appN d l.length)))
def liftO (r : Out) : OutN := ((0, r.1), r.2.1, r.2.2)
def callD (d : Dk) (fs : Fs) (kd n k : Int) (a b : ByteArray) (l : List UInt8) : OutN :=
  if kd = 0 then appO d fs a l
  else if kd = 1 then liftO (opTrunc d fs a n)
  else if kd = 2 then liftO (opSync d fs a)
  else if kd = 3 then liftO (opRename d fs a b)
  else if kd = 4 then liftO (opRemove d fs a)
  else if kd = 5 then liftO (opSetRoom d fs n)
  else if kd = 6 then liftO (opFail d fs n)
  else if kd = 7 then liftO (opArm d fs n k)
  else if kd = 8 then liftO (opPower d fs k)
  else ((0, .inl 0), d, fs)
section
variable {w : World} {B D M : Nat} {d : Dk} {F : List Ent}
end

/-! what stays right -/
theorem fget_mem : ∀ {fs : Fs} {n : ByteArray} {f : Fl}, fget fs n = some f → (n, f) ∈ fs
  | (a, v) :: r, n, f, h => by
    unfold fget at h
    split at h
    · rename_i e; injection h with h; subst h e; simp
    · exact List.mem_cons_of_mem _ (fget_mem h)
theorem fput_names_some : ∀ {fs : Fs} {n : ByteArray} {f : Fl} (v : Fl), fget fs n = some f → (fput fs n v).map (·.1) = fs.map (·.1)
  | (a, u) :: r, n, f, v, h => by
    unfold fget at h
    unfold fput
    split
    · rename_i e; simp [e]
    · rename_i e
      rw [if_neg e] at h
      simp [fput_names_some v h]
theorem fput_new : ∀ {fs : Fs} {n : ByteArray} (v : Fl), fget fs n = none → fput fs n v = fs ++ [(n, v)]
  | [], n, v, h => rfl
  | (a, u) :: r, n, v, h => by
    unfold fget at h
    unfold fput
    split
    · rename_i e; rw [if_pos e] at h; cases h
    · rename_i e
      rw [if_neg e] at h
      rw [fput_new v h]; rfl
theorem fget_none_names : ∀ {fs : Fs} {n : ByteArray}, fget fs n = none → n ∉ fs.map (·.1)
  | [], n, h => by simp
  | (a, u) :: r, n, h => by
    unfold fget at h
    split at h
    · cases h
    · rename_i e
      rw [List.map_cons, List.mem_cons]
      rintro (h2 | h2)
      · exact e h2
      · exact fget_none_names h h2
theorem mem_fput : ∀ {fs : Fs} {n : ByteArray} {v : Fl} {x : ByteArray × Fl}, x ∈ fput fs n v → x = (n, v) ∨ x ∈ fs
  | [], n, v, x, h => by simp [fput] at h; exact .inl h
  | (a, u) :: r, n, v, x, h => by
    unfold fput at h
    split at h
    · rcases List.mem_cons.1 h with h | h
      · exact .inl h
      · exact .inr (List.mem_cons_of_mem _ h)
    · rcases List.mem_cons.1 h with h | h
      · exact .inr (by rw [h]; simp)
      · rcases mem_fput h with h | h
        · exact .inl h
        · exact .inr (List.mem_cons_of_mem _ h)
theorem ftotal_fput : ∀ {fs : Fs} {n : ByteArray} {f : Fl} (v : Fl), fget fs n = some f → ftotal (fput fs n v) + f.bs.length = ftotal fs + v.bs.length
  | (a, u) :: r, n, f, v, h => by
    unfold fget at h
    unfold fput
    split
    · rename_i e
      rw [if_pos e] at h
      injection h with h
      subst h
      rw [ftotal_cons, ftotal_cons]; simp only; omega
    · rename_i e
      rw [if_neg e] at h
      have := ftotal_fput v h
      rw [ftotal_cons, ftotal_cons]; omega
theorem fdel_sub : ∀ (fs : Fs) (n : ByteArray), (fdel fs n).Sublist fs
  | [], n => List.Sublist.refl _
  | (a, u) :: r, n => by
    unfold fdel
    split
    · exact List.sublist_cons_self _ _
    · exact (fdel_sub r n).cons_cons _
theorem ftotal_fdel : ∀ {fs : Fs} {n : ByteArray} {f : Fl}, fget fs n = some f → ftotal (fdel fs n) + f.bs.length = ftotal fs
  | (a, u) :: r, n, f, h => by
    unfold fget at h
    unfold fdel
    split
    · rename_i e
      rw [if_pos e] at h
      injection h with h
      subst h
      rw [ftotal_cons]; simp only; omega
    · rename_i e
      rw [if_neg e] at h
      have := ftotal_fdel h
      rw [ftotal_cons, ftotal_cons]; omega
theorem fdel_names_not : ∀ {fs : Fs} {n : ByteArray}, (fs.map (·.1)).Nodup → n ∉ (fdel fs n).map (·.1)
  | [], n, _ => by simp [fdel]
  | (a, u) :: r, n, h => by
    rw [List.map_cons, List.nodup_cons] at h
    unfold fdel
    split
    · rename_i e; subst e; exact h.1
    · rename_i e
      rw [List.map_cons, List.mem_cons]
      rintro (h2 | h2)
      · exact e h2
      · exact fdel_names_not h.2 h2
theorem fget_fdel_ne : ∀ {fs : Fs} {n m : ByteArray}, n ≠ m → fget (fdel fs n) m = fget fs m
  | [], n, m, _ => rfl
  | (a, u) :: r, n, m, h => by
    unfold fdel
    split
    · rename_i e
      conv => rhs; unfold fget
      rw [if_neg (fun e2 => h (by rw [e, e2]))]
    · unfold fget
      split
      · rfl
      · exact fget_fdel_ne h
theorem ftotal_flen {fs : Fs} (n : ByteArray) : ftotal (fdel fs n) + flen fs n = ftotal fs := by
  unfold flen
  cases h : fget fs n with
  | some f => exact ftotal_fdel h
  | none =>
    simp only
    induction fs with
    | nil => rfl
    | cons a r ih =>
      obtain ⟨a, u⟩ := a
      unfold fget at h
      unfold fdel
      split
      · rename_i e; rw [if_pos e] at h; cases h
      · rename_i e
        rw [if_neg e] at h
        have := ih h
        rw [ftotal_cons, ftotal_cons]; omega
theorem Dk.Ok.begin' {d : Dk} (ok : d.Ok) (h : d.ops + 1 ≤ 1152921504606846976) : d.begin.Ok := by
  have h1 := ok.armedIn
  have h2 := ok.ops
  refine ⟨ok.room, ok.used, ⟨by show 0 ≤ d.ops + 1; omega, h⟩, ok.failIn, ?_, ok.armKeep⟩
  unfold Dk.begin
  simp only
  split <;> omega
theorem Dk.Ok.used' {d : Dk} (ok : d.Ok) {u : Int} (h : 0 ≤ u ∧ u ≤ 1073741824) : ({ d with used := u } : Dk).Ok := ⟨ok.room, h, ok.ops, ok.failIn, ok.armedIn, ok.armKeep⟩
/-- out of a change: right before, right behind -/
theorem FsOk.change {d d1 d2 : Dk} {fs done : Fs} {x : Int} (h1 : FsOk d1 done) (h2 : FsOk d2 fs) : FsOk (opChange d fs x d1 d2 done).2.1 (opChange d fs x d1 d2 done).2.2 := by
  unfold opChange
  split
  · split
    · exact h1
    · exact h2
  · exact h1
theorem FsOk.nums {d d' : Dk} {fs : Fs} (h : FsOk d fs) (ok : d'.Ok) (hu : d'.used = d.used) : FsOk d' fs := ⟨ok, by rw [hu]; exact h.tot, h.safe, h.names⟩
theorem FsOk.put {d d' : Dk} {fs : Fs} {n : ByteArray} {f v : Fl} (h : FsOk d fs) (hg : fget fs n = some f) (hs : v.safe ≤ v.bs.length) (ok : d'.Ok) (hu : d'.used = d.used - f.bs.length + v.bs.length) : FsOk d' (fput fs n v) := by
  have h1 := ftotal_fput v hg
  have h2 := h.tot
  refine ⟨ok, by rw [hu]; omega, fun e he => ?_, by rw [fput_names_some v hg]; exact h.names⟩
  rcases mem_fput he with rfl | he
  · exact hs
  · exact h.safe e he
section
variable {d : Dk} {fs : Fs}
theorem trunc_ok (h : FsOk d fs) (ho : d.ops + 1 ≤ 1152921504606846976) (a : ByteArray) (n : Int) : FsOk (opTrunc d fs a n).2.1 (opTrunc d fs a n).2.2 := by
  unfold opTrunc
  cases hg : fget fs a with
  | none => exact h
  | some f =>
    simp only
    split
    · exact h
    · rename_i hn
      have hl := h.len hg
      have hu := h.ok.used
      have hsf := h.safe _ (fget_mem hg)
      simp only at hsf
      refine FsOk.change (FsOk.put (f := f) h hg ?_ ((h.ok.begin' ho).used' ⟨by omega, by omega⟩) ?_) (h.nums (h.ok.begin' ho) rfl)
      · simp only [trFl, List.length_take]; omega
      · simp only [trFl, List.length_take]; omega
theorem sync_ok (h : FsOk d fs) (ho : d.ops + 1 ≤ 1152921504606846976) (a : ByteArray) : FsOk (opSync d fs a).2.1 (opSync d fs a).2.2 := by
  unfold opSync
  cases hg : fget fs a with
  | none => exact h
  | some f =>
    have hsf := h.safe _ (fget_mem hg)
    simp only at hsf
    have hk : d.syncs.begin.Ok := h.ok.syncs.begin' ho
    refine FsOk.change (FsOk.put (f := f) h hg ?_ hk ?_) (h.nums hk rfl)
    · unfold syncFl; split
      · exact hsf
      · exact Nat.le_refl _
    · show d.used = _
      unfold syncFl; split <;> simp <;> omega
theorem remove_ok (h : FsOk d fs) (ho : d.ops + 1 ≤ 1152921504606846976) (a : ByteArray) : FsOk (opRemove d fs a).2.1 (opRemove d fs a).2.2 := by
  unfold opRemove
  cases hg : fget fs a with
  | none => exact h
  | some f =>
    have hl := h.len hg
    have hu := h.ok.used
    have h1 := ftotal_fdel hg
    have h2 := h.tot
    refine FsOk.change ⟨(h.ok.begin' ho).used' ⟨by omega, by omega⟩, ?_, fun e he => h.safe e ((fdel_sub fs a).subset he), h.names.sublist ((fdel_sub fs a).map _)⟩ (h.nums (h.ok.begin' ho) rfl)
    show d.used - _ = _
    omega
theorem rename_ok (h : FsOk d fs) (ho : d.ops + 1 ≤ 1152921504606846976) (a b : ByteArray) : FsOk (opRename d fs a b).2.1 (opRename d fs a b).2.2 := by
  unfold opRename
  cases hg : fget fs a with
  | none => exact h
  | some f =>
    simp only
    split
    · exact h
    · split
      · exact FsOk.change (h.nums (h.ok.begin' ho) rfl) (h.nums (h.ok.begin' ho) rfl)
      · rename_i hne
        have hg2 : fget (fdel fs b) a = some f := by rw [fget_fdel_ne (fun e => hne e.symm)]; exact hg
        have h1 := ftotal_fdel hg2
        have h2 := ftotal_flen (fs := fs) b
        have h3 := h.tot
        have hu := h.ok.used
        have hsf := h.safe _ (fget_mem hg)
        simp only at hsf
        refine FsOk.change ⟨(h.ok.begin' ho).used' ⟨by omega, by omega⟩, ?_, fun e he => ?_, ?_⟩ (h.nums (h.ok.begin' ho) rfl)
        · show d.used - _ = _
          rw [ftotal_app, ftotal_cons]
          simp only [ftotal, List.map_nil, List.sum_nil] at *
          omega
        · rcases List.mem_append.1 he with he | he
          · exact h.safe e ((fdel_sub fs b).subset ((fdel_sub _ a).subset he))
          · rw [List.mem_singleton.1 he]; exact hsf
        · have hn1 : ((fdel fs b).map (·.1)).Nodup := h.names.sublist ((fdel_sub fs b).map _)
          have hn2 : ((fdel (fdel fs b) a).map (·.1)).Nodup := hn1.sublist ((fdel_sub _ a).map _)
          rw [List.map_append, List.nodup_append]
          refine ⟨hn2, by simp, fun x hx y hy e => ?_⟩
          simp at hy
          subst hy e
          have := fdel_names_not (n := x) h.names
          exact this (((fdel_sub (fdel fs x) a).map _).subset hx)
theorem power_ok (h : FsOk d fs) (k : Int) : FsOk (opPower d fs k).2.1 (opPower d fs k).2.2 := by
  unfold opPower
  have hle : ftotal (powFs k fs) ≤ ftotal fs := by
    have hs := h.safe
    clear h
    induction fs with
    | nil => exact Nat.le_refl _
    | cons a r ih =>
      have h1 := ih (fun e he => hs e (List.mem_cons_of_mem _ he))
      have h2 := hs a (by simp)
      unfold powFs at h1 ⊢
      rw [List.map_cons, ftotal_cons, ftotal_cons]
      have h5 : (powFl k a.2).bs.length ≤ a.2.bs.length := by simp only [powFl, List.length_take]; omega
      simp only at h5 ⊢
      omega
  have h3 := h.tot
  have h4 := h.ok.used
  refine ⟨⟨h.ok.room, ⟨by simp only; omega, by simp only; omega⟩, h.ok.ops, ⟨by simp, by simp⟩, ⟨by simp, by simp⟩, h.ok.armKeep⟩, rfl, fun e he => ?_, ?_⟩
  · obtain ⟨x, hx, rfl⟩ := List.mem_map.1 he
    have h2 := h.safe x hx
    have := powN_le (keep := k) h2
    simp only [powFl, List.length_take]
    omega
  · unfold powFs
    rw [List.map_map]
    exact h.names
theorem lay_ok (h : FsOk d fs) (ho : d.ops + 1 ≤ 1152921504606846976) (a : ByteArray) (l : List UInt8) (N : Nat) (hN : N ≤ l.length) (hr : d.used + (N : Int) ≤ 1073741824) : FsOk { d.begin with used := d.used + (N : Int) } (layF fs a (l.take N)) := by
  have hu := h.ok.used
  have ht := h.tot
  have hk : ({ d.begin with used := d.used + (N : Int) } : Dk).Ok := (h.ok.begin' ho).used' ⟨by omega, hr⟩
  unfold layF
  cases hg : fget fs a with
  | some f =>
    have hsf := h.safe _ (fget_mem hg)
    simp only at hsf
    refine FsOk.put h hg (by simp; omega) hk ?_
    simp
    omega
  | none =>
    rw [fput_new _ hg]
    refine ⟨hk, ?_, fun e he => ?_, ?_⟩
    · rw [ftotal_app, ftotal_cons]
      simp only [ftotal, List.map_nil, List.sum_nil, List.length_take] at *
      omega
    · rcases List.mem_append.1 he with he | he
      · exact h.safe e he
      · rw [List.mem_singleton.1 he]; exact Nat.zero_le _
    · rw [List.map_append, List.nodup_append]
      refine ⟨h.names, by simp, fun x hx y hy e => ?_⟩
      simp at hy
      subst hy e
      exact fget_none_names hg hx
theorem appN_room (h : FsOk d fs) (m : Nat) : d.used + (appN d m : Int) ≤ 1073741824 := by
  have h1 := h.ok.used
  have h2 := h.ok.room
  unfold appN
  omega
theorem callD_ok (h : FsOk d fs) (ho : d.ops + 1 ≤ 1152921504606846976) (kd n k : Int) (hn : -9223372036854775808 ≤ n ∧ n ≤ 9223372036854775807) (hk : -9223372036854775808 ≤ k ∧ k ≤ 9223372036854775807) (a b : ByteArray) (l : List UInt8) :
    FsOk (callD d fs kd n k a b l).2.1 (callD d fs kd n k a b l).2.2 := by
  unfold callD
  split
  · unfold appO
    split
    · exact h
    · split
      · exact lay_ok h ho a l _ (by unfold appK appN; omega) (by have := appN_room h l.length; unfold appK; omega)
      · exact lay_ok h ho a l _ (by unfold appN; omega) (appN_room h l.length)
  split
  · exact trunc_ok h ho a n
  split
  · exact sync_ok h ho a
  split
  · exact rename_ok h ho a b
  split
  · exact remove_ok h ho a
  split
  · unfold liftO opSetRoom
    split
    · rename_i hh; exact h.nums ⟨hh, h.ok.used, h.ok.ops, h.ok.failIn, h.ok.armedIn, h.ok.armKeep⟩ rfl
    · exact h
  split
  · unfold liftO opFail
    split
    · exact h
    · exact h.nums ⟨h.ok.room, h.ok.used, h.ok.ops, ⟨by simp only; omega, hn.2⟩, h.ok.armedIn, h.ok.armKeep⟩ rfl
  split
  · unfold liftO opArm
    split
    · exact h
    · exact h.nums ⟨h.ok.room, h.ok.used, h.ok.ops, h.ok.failIn, ⟨by simp only; omega, hn.2⟩, hk⟩ rfl
  split
  · exact power_ok h k
  · exact h
/-- at most one change more is counted -/
theorem opChange_ops {x : Int} {d1 d2 : Dk} {done : Fs} {u : Int} (h1 : d1.ops ≤ u) (h2 : d2.ops ≤ u) : (opChange d fs x d1 d2 done).2.1.ops ≤ u := by
  unfold opChange
  split
  · split <;> assumption
  · assumption
theorem callD_ops (kd n k : Int) (a b : ByteArray) (l : List UInt8) : (callD d fs kd n k a b l).2.1.ops ≤ d.ops + 1 := by
  have e1 : d.begin.ops = d.ops + 1 := rfl
  unfold callD
  split
  · unfold appO
    split
    · simp only; omega
    · split <;> exact Int.le_refl _
  split
  · unfold liftO opTrunc
    cases fget fs a with
    | none => simp only; omega
    | some f =>
      simp only
      split
      · simp only; omega
      · exact opChange_ops (Int.le_refl _) (Int.le_refl _)
  split
  · unfold liftO opSync
    cases fget fs a with
    | none => simp only; omega
    | some f => exact opChange_ops (Int.le_refl _) (Int.le_refl _)
  split
  · unfold liftO opRename
    cases fget fs a with
    | none => simp only; omega
    | some f =>
      simp only
      split
      · simp only; omega
      · split <;> exact opChange_ops (Int.le_refl _) (Int.le_refl _)
  split
  · unfold liftO opRemove
    cases fget fs a with
    | none => simp only; omega
    | some f => exact opChange_ops (Int.le_refl _) (Int.le_refl _)
  split
  · unfold liftO opSetRoom; split <;> simp only <;> omega
  split
  · unfold liftO opFail; split <;> simp only <;> omega
  split
  · unfold liftO opArm; split <;> simp only <;> omega
  split
  · unfold liftO opPower; simp only; omega
  · simp only; omega
end
end Go.Proofs.YtodjilljcjkacaaGreatDoor
/- A literal's bytes. -/
namespace Go.Proofs.YtodjilljcjkacaaGreatDoor
open Go.RowKit

/-- a literal's bytes, made out of a text -/
theorem Bs.litText (w : World) (l : List UInt8) (t : TypeId) (C : Array Value) (g n : Nat) (f : Nat × Nat) (hg : g = w.heap.size) (hC : C = (u8s l).toArray) (hn : n = l.length) (hl : l.length ≤ maxLen) : Bs (w.alloc (.cells C t f)) (some ⟨g, 0, none⟩) n n l := by
  subst hg hC hn
  exact Bs.of_block (f := f) (t := t) (cur := u8s l) (by show (w.heap.push _)[w.heap.size]? = _; simp) (by rw [List.take_of_length_le (by simp)]) rfl (Nat.le_refl _) hl
end Go.Proofs.YtodjilljcjkacaaGreatDoor
/- Layer 1: the sum as plain arithmetic on numbers, without the program. -/
namespace Go.Proofs.YtodjilljcjkacaaGreatDoor.Crc

def step (x : Nat) : Nat := if x % 2 = 1 then 3988292384 ^^^ (x / 2) else x / 2
def it : Nat → Nat → Nat
  | 0, x => x
  | n + 1, x => it n (step x)
def row (i : Nat) : Nat := it 8 i
def upd (x : Nat) (l : List UInt8) : Nat := l.foldl (fun x c => row ((x % 256) ^^^ c.toNat) ^^^ (x / 256)) x
/-- the sum of some bytes, of which s is the sum, and of l behind them -/
def sum (s : Nat) (l : List UInt8) : Nat := 4294967295 ^^^ upd (4294967295 ^^^ s) l

theorem it_add (n m : Nat) : ∀ x, it (n + m) x = it m (it n x) := by
  induction n with
  | zero => intro x; rw [Nat.zero_add]; rfl
  | succ n ih => intro x; rw [Nat.succ_add]; exact ih (step x)
theorem step_lt {x : Nat} (h : x < 4294967296) : step x < 4294967296 := by
  unfold step
  split
  · exact Nat.xor_lt_two_pow (n := 32) (by omega) (by omega)
  · omega
theorem it_lt (n : Nat) : ∀ {x : Nat}, x < 4294967296 → it n x < 4294967296 := by
  induction n with
  | zero => intro x h; exact h
  | succ n ih => intro x h; exact ih (step_lt h)
/-- bytes as one number, the first the lowest -/
def num : List UInt8 → Nat
  | [] => 0
  | c :: l => c.toNat ^^^ 2 ^ 8 * num l
theorem upd_append (x : Nat) (a b : List UInt8) : upd x (a ++ b) = upd (upd x a) b := List.foldl_append ..
theorem upd_snoc (x : Nat) (a : List UInt8) (c : UInt8) : upd x (a ++ [c]) = row (((upd x a) % 256) ^^^ c.toNat) ^^^ ((upd x a) / 256) := by rw [upd_append]; rfl
theorem row_lt {x : Nat} (h : x < 4294967296) : row x < 4294967296 := it_lt 8 h
theorem upd_lt (l : List UInt8) : ∀ {x : Nat}, x < 4294967296 → upd x l < 4294967296 := by
  induction l with
  | nil => intro x h; exact h
  | cons c l ih =>
    intro x h
    have := c.toNat_lt
    refine ih (Nat.xor_lt_two_pow (n := 32) (row_lt (Nat.xor_lt_two_pow (n := 32) (by omega) (by omega))) (by omega))
theorem sum_lt {s : Nat} (l : List UInt8) (h : s < 4294967296) : sum s l < 4294967296 :=
  Nat.xor_lt_two_pow (n := 32) (by omega) (upd_lt l (Nat.xor_lt_two_pow (n := 32) (by omega) (by omega)))
theorem xor_cancel (a b : Nat) : a ^^^ (a ^^^ b) = b := by rw [← Nat.xor_assoc, Nat.xor_self, Nat.zero_xor]
theorem sum_append (s : Nat) (a b : List UInt8) : sum s (a ++ b) = sum (sum s a) b := by
  unfold sum
  rw [upd_append, xor_cancel]

end Go.Proofs.YtodjilljcjkacaaGreatDoor.Crc
/- Layer 1: crc's sums, walked. -/
namespace Go.Proofs.YtodjilljcjkacaaGreatDoor
open Go.RowKit

theorem it_snoc (n : Nat) (x : Nat) : Crc.it (n + 1) x = Crc.step (Crc.it n x) := Crc.it_add n 1 x

set_option maxRecDepth 100000 in
theorem crcRow (i : Nat) (w : World) (hi : i < 256) : Calls Tryz.prog 185 #[.int .u8 (i : Int)] w fun e w' => e = .returned (.int .u32 (Crc.row i : Nat)) ∧ w = w' := by
  go_enter Tryz.func185, Tryz.ntmps185
  go_wp2
  go_loop [3, 6] (fun x k => ∃ n : Nat, n ≤ 8 ∧ k = .int .i64 n ∧ x = .int .u32 (Crc.it n i : Nat)) (fun _ k => 8 - (intOf k).toNat)
  case atStart => exact ⟨0, Nat.zero_le _, rfl, rfl⟩
  case round =>
    obtain ⟨n, hn, rfl, rfl⟩ := hrel
    have hl : Crc.it n i < 4294967296 := Crc.it_lt n (by omega)
    have HS := Lib.hid (it_snoc n i)
    generalize hxx : Crc.it n i = x at *
    have HX := Lib.hid hxx; clear hxx
    by_cases hlt : n < 8
    · go_wp2
      all_goals
        go_round
        case rel =>
          refine ⟨n + 1, by omega, by go_num, ?_⟩
          rw [HS.out]
          unfold Crc.step
          have hx := Lib.hid trivial
          first
          | (rw [if_pos (by have : (((x : Int) % 2) == 1) = true := by assumption
                            have := beq_iff_eq.1 this; omega)]
             rw [show (3988292384 : Int) = ((3988292384 : Nat) : Int) from rfl, show (x : Int) / 2 = ((x / 2 : Nat) : Int) from by omega, u32_xor_nat _ _ (by omega) (by omega)])
          | (rw [if_neg (by have : (((x : Int) % 2) == 1) = false := by assumption
                            have := beq_eq_false_iff_ne.1 this; omega)]
             rw [show (x : Int) / 2 = ((x / 2 : Nat) : Int) from by omega])
        case measure => simp [intOf]; omega
    · obtain rfl : n = 8 := by omega
      go_wp2
      go_ret
      rw [← HX.out]
      exact ⟨rfl, rfl⟩

theorem u32_not (s : Nat) (hs : s < 4294967296) : bits BinOp.xor IntKind.u32 IntKind.u32.max (s : Int) = ((4294967295 ^^^ s : Nat) : Int) := by
  rw [show IntKind.u32.max = ((4294967295 : Nat) : Int) from by decide]
  exact u32_xor_nat _ _ (by omega) hs

set_option maxRecDepth 100000 in
theorem crcUpdate (s : Nat) (A : Option Addr) (n c : Nat) (l : List UInt8) (w : World) (hs : s < 4294967296) (hB : Bs w A n c l) :
    Calls Tryz.prog 170 #[.int .u32 (s : Int), .slice A n c] w fun e w' => e = .returned (.int .u32 (Crc.sum s l : Nat)) ∧ w = w' := by
  have hn := hB.nmax
  have HB := Lib.hid hB; clear hB
  have h1 := u32_not s hs
  go_enter Tryz.func170, Tryz.ntmps170
  go_wp2_with (fail)
  clear h1
  go_loop [5, 7, 12] (fun x _ k => ∃ m : Nat, m ≤ n ∧ k = .int .i64 m ∧ x = .int .u32 (Crc.upd (4294967295 ^^^ s) (l.take m) : Nat)) (fun _ _ k => n - (intOf k).toNat)
  case atStart => exact ⟨0, Nat.zero_le _, rfl, rfl⟩
  case round =>
    obtain ⟨m, hm, rfl, rfl⟩ := hrel
    have hl : Crc.upd (4294967295 ^^^ s) (l.take m) < 4294967296 := Crc.upd_lt _ (Nat.xor_lt_two_pow (n := 32) (by omega) (by omega))
    by_cases hlt : m < n
    · obtain ⟨b, o, rfl, hb, hc⟩ := HB.out.at_ (by omega)
      have hml : m < l.length := by have := HB.out.len; omega
      have hcell := hc m _ (List.getElem?_eq_getElem hml)
      have HC := Lib.hid (Crc.upd_snoc (4294967295 ^^^ s) (l.take m) l[m])
      have HT := Lib.hid (List.take_succ_eq_append_getElem hml)
      generalize l[m] = d at *
      generalize Crc.upd (4294967295 ^^^ s) (l.take m) = x at *
      have hd := d.toNat_lt
      have hxd : (x % 256) ^^^ d.toNat < 256 := Nat.xor_lt_two_pow (n := 8) (by omega) (by omega)
      have hr : Crc.row ((x % 256) ^^^ d.toNat) < 4294967296 := Crc.row_lt (by omega)
      have h2 : bits BinOp.xor IntKind.u8 ((x : Int) % 256) (d.toNat : Int) = (((x % 256) ^^^ d.toNat : Nat) : Int) := by
        rw [show ((x : Int) % 256) = ((x % 256 : Nat) : Int) from by omega]
        exact u8_xor_nat _ _ (by omega) hd
      have HR := Lib.hid (crcRow _ w hxd)
      have h3 : bits BinOp.xor IntKind.u32 ((Crc.row ((x % 256) ^^^ d.toNat) : Nat) : Int) ((x : Int) / 256) = ((Crc.row ((x % 256) ^^^ d.toNat) ^^^ (x / 256) : Nat) : Int) := by
        rw [show ((x : Int) / 256) = ((x / 256 : Nat) : Int) from by omega]
        exact u32_xor_nat _ _ hr (by omega)
      generalize Crc.row ((x % 256) ^^^ d.toNat) = r at *
      generalize (x % 256) ^^^ d.toNat = y at *
      clear hc hxd hr hd hl
      go_wp2_with (go_at_call 185; refine (HR.out).mono ?_; rintro e w' ⟨rfl, rfl⟩)
      go_round
      case rel =>
        refine ⟨m + 1, by omega, by go_num, ?_⟩
        rw [HT.out, HC.out]
      case measure => simp [intOf]; omega
    · obtain rfl : m = n := by omega
      have hl2 : l.take m = l := List.take_of_length_le (by have := HB.out.len; omega)
      rw [hl2] at hl ⊢
      clear hl2
      have h4 := u32_not _ hl
      go_wp2
      go_ret
      exact ⟨rfl, rfl⟩

theorem crcSum (A : Option Addr) (n c : Nat) (l : List UInt8) (w : World) (hB : Bs w A n c l) :
    Calls Tryz.prog 171 #[.slice A n c] w fun e w' => e = .returned (.int .u32 (Crc.sum 0 l : Nat)) ∧ w = w' := by
  have HB := Lib.hid hB; clear hB
  go_enter Tryz.func171, Tryz.ntmps171
  go_wp2_with (fail)
  refine (crcUpdate 0 A n c l w (by omega) HB.out).mono ?_
  rintro e w' ⟨rfl, rfl⟩
  go_wp2
  go_ret
  exact ⟨rfl, rfl⟩
end Go.Proofs.YtodjilljcjkacaaGreatDoor
/- Layer 1: the examples. -/
namespace Go.Proofs.YtodjilljcjkacaaGreatDoor
open Go.RowKit

end Go.Proofs.YtodjilljcjkacaaGreatDoor
/- Layer 1: Seal and Open, walked. -/
namespace Go.Proofs.YtodjilljcjkacaaGreatDoor
open Go.RowKit

/-- a number's bytes, the highest first -/
def be4 (x : Nat) : List UInt8 := [UInt8.ofNat (x / 16777216), UInt8.ofNat (x / 65536), UInt8.ofNat (x / 256), UInt8.ofNat x]
theorem be4_length (x : Nat) : (be4 x).length = 4 := rfl
theorem be4_cells (x : Nat) (hx : x < 4294967296) : #[Value.int .u8 ((x : Int) / 16777216), .int .u8 ((x : Int) / 65536 % 256), .int .u8 ((x : Int) / 256 % 256), .int .u8 ((x : Int) % 256)] = (u8s (be4 x)).toArray := by
  simp [be4, u8s]
  omega

theorem four {l : List UInt8} (h : l.length = 4) : ∃ p q r s, l = [p, q, r, s] := by
  match l, h with
  | [p, q, r, s], _ => exact ⟨p, q, r, s, rfl⟩

end Go.Proofs.YtodjilljcjkacaaGreatDoor
/- Layer 13: records, as plain lists. -/
namespace Go.Proofs.YtodjilljcjkacaaGreatDoor
open Go.RowKit

/-- a number of bytes that a record may have -/
def okLen (n : Nat) : Bool := decide (1 ≤ n) && decide (n ≤ 65536)
/-- the record of l -/
def record (l : List UInt8) : List UInt8 := be4 l.length ++ be4 (Crc.sum 0 (be4 l.length ++ l)) ++ l
/-- a number, the highest byte first -/
def beNum (l : List UInt8) : Nat := l.foldl (fun x c => x * 256 + c.toNat) 0
theorem beNum_snoc (l : List UInt8) (c : UInt8) : beNum (l ++ [c]) = beNum l * 256 + c.toNat := by simp [beNum]
theorem beNum_go (l : List UInt8) : ∀ x N : Nat, x < N → l.foldl (fun x c => x * 256 + c.toNat) x < N * 256 ^ l.length := by
  induction l with
  | nil => intro x N h; simpa using h
  | cons c l ih =>
    intro x N h
    have hc := c.toNat_lt
    have h2 := ih (x * 256 + c.toNat) (N * 256) (by omega)
    simp only [List.foldl_cons, List.length_cons, Nat.pow_succ]
    rw [Nat.mul_assoc, Nat.mul_comm 256] at h2
    exact h2
theorem beNum_lt (l : List UInt8) : beNum l < 256 ^ l.length := by
  have := beNum_go l 0 1 (by omega)
  simpa [beNum] using this
theorem beNum_be4 {x : Nat} (hx : x < 4294967296) : beNum (be4 x) = x := by
  simp [beNum, be4]
  omega
/-- why there is no record at the head of l; 0: there is one -/
def getErr (l : List UInt8) : Int :=
  if l.length < 8 then 7 else if okLen (beNum (l.take 4)) = false then 9 else if l.length - 8 < beNum (l.take 4) then 7
  else if Crc.sum 0 (l.take 4 ++ (l.drop 8).take (beNum (l.take 4))) = beNum ((l.drop 4).take 4) then 0 else 8
/-- its bytes -/
def getGet (l : List UInt8) : List UInt8 := if getErr l = 0 then (l.drop 8).take (beNum (l.take 4)) else []
/-- how many bytes it has -/
def getLen (l : List UInt8) : Nat := if getErr l = 0 then 8 + beNum (l.take 4) else 0
end Go.Proofs.YtodjilljcjkacaaGreatDoor
/- Layer 13: entry's small functions, walked. -/
namespace Go.Proofs.YtodjilljcjkacaaGreatDoor
open Go.RowKit

theorem rightLength_yes (n : Int) (w : World) (h1 : 1 ≤ n) (h2 : n ≤ 65536) : Calls Tryz.prog 133 #[.int .i64 n] w fun e w' => e = .returned (.bool true) ∧ w = w' := by
  have d1 : decide ((1 : Int) ≤ n) = true := by simpa using h1
  have d2 : decide (n ≤ (65536 : Int)) = true := by simpa using h2
  go_enter Tryz.func133, Tryz.ntmps133
  go_wp2
  go_ret
  exact ⟨rfl, rfl⟩
theorem rightLength_no (n : Int) (w : World) (h : n < 1 ∨ 65536 < n) : Calls Tryz.prog 133 #[.int .i64 n] w fun e w' => e = .returned (.bool false) ∧ w = w' := by
  by_cases h1 : n < 1
  · have d1 : decide ((1 : Int) ≤ n) = false := by simp; omega
    clear h
    go_enter Tryz.func133, Tryz.ntmps133
    go_wp2
    go_ret
    exact ⟨rfl, rfl⟩
  · have d1 : decide ((1 : Int) ≤ n) = true := by simp; omega
    have d2 : decide (n ≤ (65536 : Int)) = false := by simp; omega
    clear h h1
    go_enter Tryz.func133, Tryz.ntmps133
    go_wp2
    go_ret
    exact ⟨rfl, rfl⟩
theorem okLen_yes {n : Nat} (h : okLen n = true) : 1 ≤ n ∧ n ≤ 65536 := by simpa [okLen] using h
theorem okLen_no {n : Nat} (h : okLen n = false) : n < 1 ∨ 65536 < n := by
  simp [okLen] at h
  omega
theorem entrySize_yes (n : Nat) (w : World) (h : okLen n = true) : Calls Tryz.prog 135 #[.int .i64 (n : Int)] w fun e w' => e = .returned (.int .i64 (8 + (n : Int))) ∧ w = w' := by
  have h1 := okLen_yes h
  have HH := Lib.hid h1
  have b : n ≤ 65536 := h1.2
  clear h1 h
  go_enter Tryz.func135, Tryz.ntmps135
  go_wp2_with (fail)
  refine (rightLength_yes n w (by have := HH.out; omega) (by have := HH.out; omega)).mono ?_
  rintro e w' ⟨rfl, rfl⟩
  go_wp2
  go_ret
  exact ⟨rfl, rfl⟩
theorem entrySumOf (A : Option Addr) (n c : Nat) (l : List UInt8) (B : Option Addr) (m d : Nat) (k : List UInt8) (w : World) (hA : Bs w A n c l) (hB : Bs w B m d k) :
    Calls Tryz.prog 134 #[.slice A n c, .slice B m d] w fun e w' => e = .returned (.int .u32 (Crc.sum 0 (l ++ k) : Nat)) ∧ w = w' := by
  have HA := Lib.hid hA
  have HB := Lib.hid hB
  have HS := Lib.hid (Crc.sum_append 0 l k)
  clear hA hB
  go_enter Tryz.func134, Tryz.ntmps134
  go_wp2_with (fail)
  refine (crcSum A n c l w HA.out).mono ?_
  rintro e w' ⟨rfl, rfl⟩
  go_wp2_with (fail)
  refine (crcUpdate _ B m d k w (Crc.sum_lt _ (by omega)) HB.out).mono ?_
  rintro e w' ⟨rfl, rfl⟩
  go_wp2
  go_ret
  rw [HS.out]
  exact ⟨rfl, rfl⟩

set_option maxRecDepth 100000 in
theorem entryHighest (x : Nat) (w : World) (hx : x < 4294967296) : Calls Tryz.prog 154 #[.int .u32 (x : Int)] w fun e w' => ∃ p q r s, be4 x = [p, q, r, s] ∧ e = .returned (.agg #[.int .u8 (p.toNat : Int), .int .u8 (q.toNat : Int), .int .u8 (r.toNat : Int), .int .u8 (s.toNat : Int)]) ∧ Below w.heap.size w w' := by
  have HE := Lib.hid (be4_cells x hx)
  go_enter Tryz.func154, Tryz.ntmps154
  go_wp2
  refine bodyPost_ret (v := .agg #[Value.int .u8 ((x : Int) / 16777216), .int .u8 ((x : Int) / 65536 % 256), .int .u8 ((x : Int) / 256 % 256), .int .u8 ((x : Int) % 256)]) (by simp [results, Tryz.results154, go_sem]) rfl ⟨_, _, _, _, rfl, ?_, (Below.refl _ _).alloc (Nat.le_refl _) _⟩
  rw [HE.out]
  rfl

theorem or_byte (x c : Nat) (hx : x < 16777216) (hc : c < 256) : bits BinOp.or IntKind.u32 ((x : Int) * 256) (c : Int) = ((x * 256 + c : Nat) : Int) := by
  rw [show ((x : Int) * 256) = ((x * 256 : Nat) : Int) from by omega, u32_or_nat _ _ (by omega) (by omega)]
  congr 1
  apply Nat.eq_of_testBit_eq
  intro i
  rw [show x * 256 + c = 2 ^ 8 * x + c from by omega, Nat.testBit_two_pow_mul_add _ (by omega), Nat.testBit_or, show x * 256 = 2 ^ 8 * x from by omega, Nat.testBit_two_pow_mul]
  by_cases h : i < 8
  · simp [h, show ¬ 8 ≤ i from by omega]
  · have : Nat.testBit c i = false := Nat.testBit_lt_two_pow (Nat.lt_of_lt_of_le hc (by
      have : 2 ^ 8 ≤ 2 ^ i := Nat.pow_le_pow_right (by omega) (by omega)
      simpa using this))
    simp [h, this, show 8 ≤ i from by omega]

set_option maxRecDepth 100000 in
theorem entryNumber (A : Option Addr) (c : Nat) (l : List UInt8) (w : World) (hB : Bs w A 4 c l) :
    Calls Tryz.prog 132 #[.slice A 4 c] w fun e w' => e = .returned (.int .u32 (beNum l : Nat)) ∧ w = w' := by
  have HB := Lib.hid hB; clear hB
  go_enter Tryz.func132, Tryz.ntmps132
  go_wp2_with (fail)
  go_loop [3, 5, 8] (fun x _ k => ∃ m : Nat, m ≤ 4 ∧ k = .int .i64 m ∧ x = .int .u32 (beNum (l.take m) : Nat)) (fun _ _ k => 4 - (intOf k).toNat)
  case atStart => exact ⟨0, Nat.zero_le _, rfl, rfl⟩
  case round =>
    obtain ⟨m, hm, rfl, rfl⟩ := hrel
    by_cases hlt : m < 4
    · obtain ⟨b, o, rfl, hb, hc⟩ := HB.out.at_ (by omega)
      have hml : m < l.length := by have := HB.out.len; omega
      have hcell := hc m _ (List.getElem?_eq_getElem hml)
      have hlt3 : beNum (l.take m) < 16777216 := Nat.lt_of_lt_of_le (beNum_lt _) (by
        have : (l.take m).length ≤ 3 := by rw [List.length_take]; omega
        have h := Nat.pow_le_pow_right (n := 256) (by omega) this
        simpa using h)
      have HC := Lib.hid (beNum_snoc (l.take m) l[m])
      have HT := Lib.hid (List.take_succ_eq_append_getElem hml)
      generalize l[m] = d at *
      generalize beNum (l.take m) = x at *
      have hd := d.toNat_lt
      have h2 := or_byte x d.toNat hlt3 hd
      clear hc
      go_wp2_with (fail)
      go_round
      case rel =>
        refine ⟨m + 1, by omega, by go_num, ?_⟩
        rw [HT.out, HC.out]
        congr 1
      case measure => simp [intOf]; omega
    · obtain rfl : m = 4 := by omega
      have hl2 : l.take 4 = l := List.take_of_length_le (by have := HB.out.len; omega)
      rw [hl2]
      clear hl2
      go_wp2
      go_ret
      exact ⟨rfl, rfl⟩
end Go.Proofs.YtodjilljcjkacaaGreatDoor
/- Layer 13: Put, walked. -/
namespace Go.Proofs.YtodjilljcjkacaaGreatDoor
open Go.RowKit

/-- what a call gives that answers bytes and an error, and leaves what was there -/
def RetE (err : Int) (l : List UInt8) (w : World) (e : Ending) (w' : World) : Prop :=
  ∃ A c, e = .returned (.tuple #[.slice A l.length c, .int .i64 err]) ∧ Bs w' A l.length c l ∧ Below w.heap.size w w'

set_option maxRecDepth 100000 in
set_option maxHeartbeats 1000000 in
theorem entryPut_no (A : Option Addr) (n c : Nat) (w : World) (hn : okLen n = false) :
    Calls Tryz.prog 110 #[.slice A n c] w (RetE 9 [] w) := by
  have H := Lib.hid (okLen_no hn)
  clear hn
  go_enter Tryz.func110, Tryz.ntmps110
  go_wp2_with (fail)
  refine (rightLength_no n w (by have := H.out; omega)).mono ?_
  rintro e w' ⟨rfl, rfl⟩
  go_wp2
  go_ret2
  exact ⟨none, 0, rfl, Bs.none_ _, Below.refl _ _⟩

set_option maxRecDepth 100000 in
set_option maxHeartbeats 2000000 in
theorem entryPut_yes (A : Option Addr) (n c : Nat) (l : List UInt8) (w : World) (hB : Bs w A n c l) (hn : okLen n = true) :
    Calls Tryz.prog 110 #[.slice A n c] w (RetE 0 (record l) w) := by
  have HN := Lib.hid hn
  have HB := Lib.hid hB
  have HL := Lib.hid hB.len
  have h1 := (okLen_yes hn).1
  have h2 := (okLen_yes hn).2
  have tok1 : True := trivial
  have tok2 : True := trivial
  have tok3 : True := trivial
  have hmk : ∀ w : World, (Instr.makeSlice 40 (.int .i64 0) (.int .i64 (8 + (n : Int)))).run Tryz.prog w = .ok (.slice (some ⟨w.heap.size, 0, none⟩) 0 (8 + n)) (w.alloc (.cells (Array.replicate (8 + n) (.int .u8 0)) 5)) := by
    intro w
    have := run_mk (P := Tryz.prog) 40 5 Tryz.underlying40 byteInfo 0 (8 + n) (Nat.zero_le _) (by omega) w
    rwa [show ((8 + n : Nat) : Int) = 8 + (n : Int) from by omega] at this
  clear hn hB
  go_enter Tryz.func110, Tryz.ntmps110
  go_wp2_with (fail)
  refine (rightLength_yes n w (by omega) (by omega)).mono ?_
  rintro e w' ⟨rfl, rfl⟩
  go_wp2_with (fail)
  refine (entryHighest n w (by omega)).mono ?_
  rintro e w1 ⟨p, q, r, s, hbe, rfl, hb1⟩
  have HBE := Lib.hid hbe
  have HB1 := Lib.hid hb1
  have hz1 := hb1.size
  clear hbe hb1
  go_wp2_with (fail)
  have X2 := Lib.hid (Bs.lit w1 [p, q, r, s] 205 #[.int .u8 (p.toNat : Int), .int .u8 (q.toNat : Int), .int .u8 (r.toNat : Int), .int .u8 (s.toNat : Int)] w1.heap.size rfl rfl rfl (by simp [maxLen]))
  have B2 := Lib.hid (HB1.out.alloc hz1 (.cells #[.int .u8 (p.toNat : Int), .int .u8 (q.toNat : Int), .int .u8 (r.toNat : Int), .int .u8 (s.toNat : Int)] 205))
  generalize w1.alloc (.cells #[.int .u8 (p.toNat : Int), .int .u8 (q.toNat : Int), .int .u8 (r.toNat : Int), .int .u8 (s.toNat : Int)] 205) = w2 at *
  have hz2 := B2.out.size
  refine (entrySumOf _ _ _ _ _ _ _ l w2 X2.out (HB.out.below B2.out)).mono ?_
  rintro e w' ⟨rfl, rfl⟩
  have hs := Crc.sum_lt (s := 0) ([p, q, r, s] ++ l) (by omega)
  obtain ⟨x, hx⟩ : ∃ x, x = Crc.sum 0 ([p, q, r, s] ++ l) := ⟨_, rfl⟩
  rw [← hx] at hs ⊢
  have HX := Lib.hid hx
  clear hx
  go_wp2_with (fail)
  refine (entryHighest x w2 hs).mono ?_
  rintro e w3 ⟨p', q', r', s', hbe, rfl, hb3⟩
  have HBE2 := Lib.hid hbe
  have X3 := Lib.hid (X2.out.below hb3)
  have B3 := Lib.hid (B2.out.trans (hb3.mono hz2))
  have hz3 := B3.out.size
  clear hbe hb3
  go_wp2_with (fail)
  have X4 := Lib.hid (X3.out.alloc (.cells #[.int .u8 (p'.toNat : Int), .int .u8 (q'.toNat : Int), .int .u8 (r'.toNat : Int), .int .u8 (s'.toNat : Int)] 205))
  have Y4 := Lib.hid (Bs.lit w3 [p', q', r', s'] 205 #[.int .u8 (p'.toNat : Int), .int .u8 (q'.toNat : Int), .int .u8 (r'.toNat : Int), .int .u8 (s'.toNat : Int)] w3.heap.size rfl rfl rfl (by simp [maxLen]))
  have B4 := Lib.hid (B3.out.alloc hz3 (.cells #[.int .u8 (p'.toNat : Int), .int .u8 (q'.toNat : Int), .int .u8 (r'.toNat : Int), .int .u8 (s'.toNat : Int)] 205))
  have hz34 : w3.heap.size < (w3.alloc (.cells #[.int .u8 (p'.toNat : Int), .int .u8 (q'.toNat : Int), .int .u8 (r'.toNat : Int), .int .u8 (s'.toNat : Int)] 205)).heap.size := by simp
  generalize w3.alloc (.cells #[.int .u8 (p'.toNat : Int), .int .u8 (q'.toNat : Int), .int .u8 (r'.toNat : Int), .int .u8 (s'.toNat : Int)] 205) = w4 at *
  have hz4 := B4.out.size
  refine (entrySize_yes n w4 HN.out).mono ?_
  rintro e w' ⟨rfl, rfl⟩
  go_wp2_with (first
    | (at_builtin; have _t := tok1; go_loud ((refine wpList_app rfl (.tmp 23) (.tmp 24) 40 rfl w4.heap.size 5 Tryz.underlying40 byteInfo _ [] rfl (Own.made 5 w4 _ (8 + n) (Nat.le_refl _) (by simp only [maxLen]; omega) (by simp)) _ 4 4 [p, q, r, s] rfl (X4.out.alloc _) (by simp) (by simp) ?_; intro v5 w5 hown5 hb5 hg5; have b5 : Below w4.heap.size w4 w5 := ((Below.refl _ _).alloc (Nat.le_refl _) _).trans hb5; clear tok1 hb5 hg5 _t)))
    | (at_builtin; have _t := tok2; go_loud ((refine wpList_app rfl (.tmp 26) (.tmp 27) 40 rfl w4.heap.size 5 Tryz.underlying40 byteInfo _ ([] ++ [p, q, r, s]) rfl hown5 _ 4 4 [p', q', r', s'] rfl (Y4.out.below b5) (by simp) b5.size ?_; intro v6 w6 hown6 hb6 hg6; have b6 : Below w4.heap.size w4 w6 := b5.trans hb6; clear tok2 hb6 hg6 _t)))
    | (at_builtin; have _t := tok3; go_loud ((refine wpList_app rfl (.tmp 29) (.tmp 30) 40 rfl w4.heap.size 5 Tryz.underlying40 byteInfo _ ([] ++ [p, q, r, s] ++ [p', q', r', s']) rfl hown6 _ n c l rfl ((HB.out.below B4.out).below b6) (by simp; omega) b6.size ?_; intro v7 w7 hown7 hb7 hg7; have b7 : Below w4.heap.size w4 w7 := b6.trans hb7; clear tok3 hb7 hg7 _t))))
  go_ret2
  have e : [] ++ [p, q, r, s] ++ [p', q', r', s'] ++ l = record l := by
    unfold record
    rw [HL.out, HBE.out, ← HX.out, HBE2.out]
    rfl
  rw [e] at hown7
  obtain ⟨A8, c8, rfl, hB8, _⟩ := hown7.bs
  exact ⟨A8, c8, rfl, hB8, B4.out.trans (b7.mono hz4)⟩

theorem entryPut (A : Option Addr) (n c : Nat) (l : List UInt8) (w : World) (hB : Bs w A n c l) :
    Calls Tryz.prog 110 #[.slice A n c] w (RetE (if okLen l.length then 0 else 9) (if okLen l.length then record l else []) w) := by
  rw [hB.len]
  cases h : okLen n with
  | true => exact entryPut_yes A n c l w hB h
  | false => exact entryPut_no A n c w h
end Go.Proofs.YtodjilljcjkacaaGreatDoor
/- Layer 13: Get, walked. -/
namespace Go.Proofs.YtodjilljcjkacaaGreatDoor
open Go.RowKit

/-- the same, where the bytes lie in memory of their own -/
def RetGN (l : List UInt8) (n : Int) (err : Int) (w : World) (e : Ending) (w' : World) : Prop :=
  ∃ A c, e = .returned (.tuple #[.slice A l.length c, .int .i64 n, .int .i64 err]) ∧ Bs w' A l.length c l ∧ (∀ b, A = some b → w.heap.size ≤ b.block) ∧ Below w.heap.size w w'
theorem RetGN.none {n err : Int} {w w' : World} (hb : Below w.heap.size w w') : RetGN [] n err w (.returned (.tuple #[.slice none 0 0, .int .i64 n, .int .i64 err])) w' :=
  ⟨Option.none, 0, rfl, Bs.none_ _, (fun _ h => by cases h), hb⟩
theorem get_err {l : List UInt8} {err : Int} (h : getErr l = err) (h0 : err ≠ 0) : getGet l = [] ∧ getLen l = 0 := by
  have : ¬ getErr l = 0 := by omega
  exact ⟨by unfold getGet; rw [if_neg this], by unfold getLen; rw [if_neg this]⟩

set_option maxRecDepth 100000 in
set_option maxHeartbeats 1000000 in
theorem entryGetN (A : Option Addr) (n c : Nat) (l : List UInt8) (w : World) (hB : Bs w A n c l) (hN : n ≤ 140737488351232) :
    Calls Tryz.prog 96 #[.slice A n c] w (RetGN (getGet l) (getLen l) (getErr l) w) := by
  have hlen := hB.len
  have hcm := hB.max
  have hle := hB.le
  by_cases h8 : n < 8
  · have e : getErr l = 7 := by unfold getErr; rw [if_pos (by omega)]
    rw [(get_err e (by omega)).1, (get_err e (by omega)).2, e]
    clear e hlen hB
    go_enter Tryz.func96, Tryz.ntmps96
    go_wp2
    go_ret3
    exact RetGN.none (Below.refl _ _)
  · obtain ⟨b, o, rfl, hb, _⟩ := hB.at_ (by omega)
    have H4 := Lib.hid (hB.take (j := 4) (by omega))
    have h5 := (hB.drop (i := 4) (by omega)).take (j := 4) (by omega)
    rw [if_neg (by omega), Option.map_some, Addr.add_lit] at h5
    have H5 := Lib.hid h5
    have h6 := hB.drop (i := 8) (by omega)
    rw [Option.map_some, Addr.add_lit] at h6
    obtain ⟨k, hk⟩ : ∃ k, n = k + 8 := ⟨n - 8, by omega⟩
    subst hk
    rw [show k + 8 - 8 = k from by omega] at h6
    obtain ⟨R, hR⟩ : ∃ R, (if c = 8 then some (⟨b, o, none⟩ : Addr) else some ⟨b, o + 8, none⟩) = R := ⟨_, rfl⟩
    rw [hR] at h6
    have H6 := Lib.hid h6
    have e0 : (k : Int) ≤ (k : Int) + 8 := by omega
    have e9 : ¬ c = 4 := by omega
    have hxlt : beNum (l.take 4) < 4294967296 := by
      have := beNum_lt (l.take 4)
      rw [show (l.take 4).length = 4 from H4.out.len] at this
      simpa using this
    have HE : Hid (getErr l = if okLen (beNum (l.take 4)) = false then 9 else if k < beNum (l.take 4) then 7 else if Crc.sum 0 (l.take 4 ++ (l.drop 8).take (beNum (l.take 4))) = beNum ((l.drop 4).take 4) then 0 else 8) := by
      show getErr l = _
      unfold getErr
      rw [if_neg (by omega), hlen, show k + 8 - 8 = k from by omega]
    have CN := fun W h => entryNumber (some ⟨b, o, none⟩) c (l.take 4) W h
    have HG : Hid (getErr l = 0 → getGet l = (l.drop 8).take (beNum (l.take 4)) ∧ getLen l = 8 + beNum (l.take 4)) := fun h => ⟨by unfold getGet; rw [if_pos h], by unfold getLen; rw [if_pos h]⟩
    have CN2 := fun W h => entryNumber (some ⟨b, o + 4, none⟩) (c - 4) ((l.drop 4).take 4) W h
    generalize beNum (l.take 4) = x at *
    generalize beNum ((l.drop 4).take 4) = y at *
    have HCN := Lib.hid CN
    have HCN2 := Lib.hid CN2
    have HBB := Lib.hid hB
    clear hB h5 h6 CN CN2 hlen
    by_cases hx : okLen x = false
    · have e := HE.out
      rw [if_pos hx] at e
      rw [(get_err e (by omega)).1, (get_err e (by omega)).2, e]
      have HX := Lib.hid (okLen_no hx)
      clear e hx
      go_enter Tryz.func96, Tryz.ntmps96
      go_wp2_with (fail)
      go_quiet (fail)
      go_wp2_with (fail)
      refine (HCN.out _ (H4.out.drewN _)).mono ?_
      rintro e w' ⟨rfl, rfl⟩
      go_wp2_with (fail)
      refine (rightLength_no x _ (by have := HX.out; omega)).mono ?_
      rintro e w' ⟨rfl, rfl⟩
      go_wp2
      go_ret3
      exact RetGN.none (drawN_below (Below.refl _ _) _)
    · have hx1 : okLen x = true := by
        cases h : okLen x with
        | true => rfl
        | false => exact absurd h hx
      have hx2 := okLen_yes hx1
      have e := HE.out
      rw [if_neg hx] at e
      have HX := Lib.hid hx2
      have HX1 := Lib.hid hx1
      clear hx hx2 hx1
      by_cases hk : k < x
      · rw [if_pos hk] at e
        rw [(get_err e (by omega)).1, (get_err e (by omega)).2, e]
        clear e
        go_enter Tryz.func96, Tryz.ntmps96
        go_wp2_with (fail)
        go_quiet (fail)
        go_wp2_with (fail)
        refine (HCN.out _ (H4.out.drewN _)).mono ?_
        rintro e w' ⟨rfl, rfl⟩
        go_wp2_with (fail)
        refine (rightLength_yes x _ (by have := HX.out; omega) (by have := HX.out; omega)).mono ?_
        rintro e w' ⟨rfl, rfl⟩
        go_wp2
        go_ret3
        exact RetGN.none (drawN_below (Below.refl _ _) _)
      · rw [if_neg hk] at e
        have HX6 := Lib.hid (H6.out.take (j := x) (by omega))
        have e1 : (x : Int) ≤ (k : Int) := by omega
        have e2 : x ≤ c - 8 := by omega
        have CS := fun W h1 h2 => entrySumOf (some ⟨b, o, none⟩) 4 c (l.take 4) R x (c - 8) ((l.drop 8).take x) W h1 h2
        have hslt := Crc.sum_lt (s := 0) (l.take 4 ++ (l.drop 8).take x) (by omega)
        generalize Crc.sum 0 (l.take 4 ++ (l.drop 8).take x) = s at *
        have HCS := Lib.hid CS
        clear CS
        by_cases hs : s = y
        · rw [if_pos hs] at e
          have HEE := Lib.hid e
          have hne : ((s : Int) != (y : Int)) = false := by simp [hs]
          have hx65 : x ≤ 65536 := HX.out.2
          obtain ⟨Z, HZ, hzl, hmk⟩ := mk_zeros (x : Int) x rfl (by omega)
          have HZL := Lib.hid hzl
          have HMK := Lib.hid hmk
          clear e hs hzl hmk
          go_enter Tryz.func96, Tryz.ntmps96
          go_wp2_with (fail)
          go_quiet (fail)
          go_wp2_with (fail)
          refine (HCN.out _ (H4.out.drewN _)).mono ?_
          rintro e w' ⟨rfl, rfl⟩
          go_wp2_with (fail)
          refine (rightLength_yes x _ (by have := HX.out; omega) (by have := HX.out; omega)).mono ?_
          rintro e w' ⟨rfl, rfl⟩
          go_wp2_with (fail)
          refine (HCS.out _ (H4.out.drewN _) (HX6.out.drewN _)).mono ?_
          rintro e w' ⟨rfl, rfl⟩
          go_wp2_with (fail)
          refine (HCN2.out _ (H5.out.drewN _)).mono ?_
          rintro e w' ⟨rfl, rfl⟩
          have hw3 : Hid (Below w.heap.size w (w.drewN nq)) := Lib.hid (drawN_below (Below.refl _ _) nq)
          have HXX := Lib.hid (HX6.out.drewN nq)
          generalize w.drewN nq = w3 at *
          have hmk := HMK.out
          have hsz3 := hw3.out.size
          go_wp2_with (with_reducible show wpList _ _ _ _ _ _; refine wpList_cpyTo rfl (.tmp 39) (.tmp 40) 40 40 rfl 5 Tryz.underlying40 byteInfo w3.heap.size 0 _ _ _ rfl Z 5 (heap_alloc_new w3 _) R k x (c - 8) ((l.drop 8).take x) rfl (HXX.out.alloc _) (fun _ => rfl) (by omega) (by rw [HZL.out]; omega) ?_; intro w1 hw1 hb1)
          refine (entrySize_yes x _ HX1.out).mono ?_
          rintro e w' ⟨rfl, rfl⟩
          go_wp2
          go_ret3
          rw [(HG.out HEE.out).1, (HG.out HEE.out).2, HEE.out]
          have e : List.take 0 Z ++ ((l.drop 8).take x ++ List.drop (0 + x) Z) = (l.drop 8).take x := by
            have hz : List.drop (0 + x) Z = [] := List.drop_of_length_le (by rw [HZL.out]; omega)
            rw [List.take_zero, List.nil_append, hz, List.append_nil]
          have hw := hw1.out
          rw [e] at hw
          have hlk : ((l.drop 8).take x).length = x := HX6.out.len
          refine ⟨some ⟨w3.heap.size, 0, none⟩, x, ?_, ?_, (fun b hb => by injection hb with hb; subst hb; exact hsz3), hw3.out.trans ((((Below.refl _ w3).alloc (Nat.le_refl _) _).trans hb1).mono hsz3)⟩
          · rw [hlk, show ((8 + x : Nat) : Int) = 8 + (x : Int) from by omega]
            rfl
          · have := Bs.block hw hlk (by unfold maxLen; omega)
            rwa [hlk]
        · rw [if_neg hs] at e
          rw [(get_err e (by omega)).1, (get_err e (by omega)).2, e]
          have hne : ((s : Int) != (y : Int)) = true := by rw [bne_iff_ne]; omega
          clear e hs
          go_enter Tryz.func96, Tryz.ntmps96
          go_wp2_with (fail)
          go_quiet (fail)
          go_wp2_with (fail)
          refine (HCN.out _ (H4.out.drewN _)).mono ?_
          rintro e w' ⟨rfl, rfl⟩
          go_wp2_with (fail)
          refine (rightLength_yes x _ (by have := HX.out; omega) (by have := HX.out; omega)).mono ?_
          rintro e w' ⟨rfl, rfl⟩
          go_wp2_with (fail)
          refine (HCS.out _ (H4.out.drewN _) (HX6.out.drewN _)).mono ?_
          rintro e w' ⟨rfl, rfl⟩
          go_wp2_with (fail)
          refine (HCN2.out _ (H5.out.drewN _)).mono ?_
          rintro e w' ⟨rfl, rfl⟩
          go_wp2
          go_ret3
          exact RetGN.none (drawN_below (Below.refl _ _) _)
end Go.Proofs.YtodjilljcjkacaaGreatDoor
/- bytes.Equal, walked. -/
namespace Go.Proofs.YtodjilljcjkacaaGreatDoor
open Go.RowKit

end Go.Proofs.YtodjilljcjkacaaGreatDoor
/- Layer 13: the example. -/
namespace Go.Proofs.YtodjilljcjkacaaGreatDoor
open Go.RowKit

end Go.Proofs.YtodjilljcjkacaaGreatDoor
/- Layer 1: Open, walked. -/
namespace Go.Proofs.YtodjilljcjkacaaGreatDoor
open Go.RowKit

end Go.Proofs.YtodjilljcjkacaaGreatDoor
/- The law CrcBursts, walked. -/
namespace Go.Proofs.YtodjilljcjkacaaGreatDoor
open Go.RowKit

end Go.Proofs.YtodjilljcjkacaaGreatDoor
/- The law CrcTurns, walked. -/
namespace Go.Proofs.YtodjilljcjkacaaGreatDoor
open Go.RowKit

end Go.Proofs.YtodjilljcjkacaaGreatDoor
/- Layer 13: what a record tells, and one with a bit turned. -/
namespace Go.Proofs.YtodjilljcjkacaaGreatDoor
open Go.RowKit

theorem get_parts (P S L b : List UInt8) (hP : P.length = 4) (hS : S.length = 4) (hn : beNum P = L.length) (hok : okLen L.length = true) :
    getErr (P ++ (S ++ (L ++ b))) = if Crc.sum 0 (P ++ L) = beNum S then 0 else 8 := by
  unfold getErr
  have h1 : (P ++ (S ++ (L ++ b))).length = 8 + L.length + b.length := by simp; omega
  have h2 : (P ++ (S ++ (L ++ b))).take 4 = P := by rw [← hP, List.take_left]
  have h3 : (P ++ (S ++ (L ++ b))).drop 4 = S ++ (L ++ b) := by rw [← hP, List.drop_left]
  have h4 : (P ++ (S ++ (L ++ b))).drop 8 = L ++ b := by
    rw [show (8 : Nat) = 4 + 4 from rfl, ← List.drop_drop, h3, ← hS, List.drop_left]
  have h5 : (S ++ (L ++ b)).take 4 = S := by rw [← hS, List.take_left]
  rw [h1, h2, h3, h4, h5, hn, List.take_left, if_neg (by omega), if_neg (by rw [hok]; decide), if_neg (by omega)]
theorem get_parts_get (P S L b : List UInt8) (hP : P.length = 4) (hS : S.length = 4) (hn : beNum P = L.length) (hok : okLen L.length = true) (h : Crc.sum 0 (P ++ L) = beNum S) :
    getErr (P ++ (S ++ (L ++ b))) = 0 ∧ getGet (P ++ (S ++ (L ++ b))) = L ∧ getLen (P ++ (S ++ (L ++ b))) = 8 + L.length := by
  have he := get_parts P S L b hP hS hn hok
  rw [if_pos h] at he
  have h2 : (P ++ (S ++ (L ++ b))).take 4 = P := by rw [← hP, List.take_left]
  have h3 : (P ++ (S ++ (L ++ b))).drop 4 = S ++ (L ++ b) := by rw [← hP, List.drop_left]
  have h4 : (P ++ (S ++ (L ++ b))).drop 8 = L ++ b := by
    rw [show (8 : Nat) = 4 + 4 from rfl, ← List.drop_drop, h3, ← hS, List.drop_left]
  refine ⟨he, ?_, ?_⟩
  · unfold getGet; rw [if_pos he, h2, h4, hn, List.take_left]
  · unfold getLen; rw [if_pos he, h2, hn]
theorem record_parts (l b : List UInt8) : record l ++ b = be4 l.length ++ (be4 (Crc.sum 0 (be4 l.length ++ l)) ++ (l ++ b)) := by
  unfold record
  simp only [List.append_assoc]
theorem record_length (l : List UInt8) : (record l).length = 8 + l.length := by
  unfold record
  simp only [List.length_append, be4_length]
theorem get_record (l b : List UInt8) (hok : okLen l.length = true) : getErr (record l ++ b) = 0 ∧ getGet (record l ++ b) = l ∧ getLen (record l ++ b) = 8 + l.length := by
  have h2 := okLen_yes hok
  rw [record_parts]
  exact get_parts_get _ _ l b (be4_length _) (be4_length _) (beNum_be4 (by omega)) hok (beNum_be4 (Crc.sum_lt _ (by omega))).symm
end Go.Proofs.YtodjilljcjkacaaGreatDoor
/- Layer 13: all records that bytes begin with, as plain lists. -/
namespace Go.Proofs.YtodjilljcjkacaaGreatDoor
open Go.RowKit

theorem getErr_len {l : List UInt8} (h : getErr l = 0) : 9 ≤ getLen l ∧ getLen l ≤ l.length ∧ getLen l = 8 + (getGet l).length ∧ okLen (getGet l).length = true := by
  unfold getLen getGet
  rw [if_pos h, if_pos h]
  unfold getErr at h
  by_cases h8 : l.length < 8
  · rw [if_pos h8] at h; omega
  rw [if_neg h8] at h
  by_cases ho : okLen (beNum (l.take 4)) = false
  · rw [if_pos ho] at h; omega
  rw [if_neg ho] at h
  have ho : okLen (beNum (l.take 4)) = true := by
    cases hh : okLen (beNum (l.take 4)) with
    | true => rfl
    | false => exact absurd hh ho
  have hx := okLen_yes ho
  by_cases hk : l.length - 8 < beNum (l.take 4)
  · rw [if_pos hk] at h; omega
  have e : ((l.drop 8).take (beNum (l.take 4))).length = beNum (l.take 4) := by rw [List.length_take, List.length_drop]; omega
  rw [e]
  exact ⟨by omega, by omega, rfl, ho⟩

/-- what l begins with: the records, how many bytes they have, why there is no further one -/
def scanF : Nat → List UInt8 → List (List UInt8) × Nat × Int
  | 0, _ => ([], 0, 0)
  | f + 1, l => if l.length = 0 then ([], 0, 0) else if getErr l = 0 then (getGet l :: (scanF f (l.drop (getLen l))).1, getLen l + (scanF f (l.drop (getLen l))).2.1, (scanF f (l.drop (getLen l))).2.2) else ([], 0, getErr l)
theorem scanF_more : ∀ (f g : Nat) (l : List UInt8), l.length ≤ f → l.length ≤ g → scanF f l = scanF g l
  | 0, 0, _, _, _ => rfl
  | 0, g + 1, l, h, _ => by
    have h0 : l.length = 0 := by omega
    simp [scanF, h0]
  | f + 1, 0, l, _, h => by
    have h0 : l.length = 0 := by omega
    simp [scanF, h0]
  | f + 1, g + 1, l, h1, h2 => by
    unfold scanF
    by_cases h0 : l.length = 0
    · rw [if_pos h0, if_pos h0]
    rw [if_neg h0, if_neg h0]
    by_cases he : getErr l = 0
    · have hl := getErr_len he
      rw [if_pos he, if_pos he, scanF_more f g (l.drop (getLen l)) (by rw [List.length_drop]; omega) (by rw [List.length_drop]; omega)]
    · rw [if_neg he, if_neg he]
def scan (l : List UInt8) : List (List UInt8) × Nat × Int := scanF l.length l
theorem scan_nil : scan [] = ([], 0, 0) := rfl
theorem scan_err {l : List UInt8} (h0 : 0 < l.length) (h : getErr l ≠ 0) : scan l = ([], 0, getErr l) := by
  unfold scan
  obtain ⟨n, hn⟩ : ∃ n, l.length = n + 1 := ⟨l.length - 1, by omega⟩
  rw [hn]
  unfold scanF
  rw [if_neg (by omega), if_neg h]
theorem scan_ok {l : List UInt8} (h : getErr l = 0) : scan l = (getGet l :: (scan (l.drop (getLen l))).1, getLen l + (scan (l.drop (getLen l))).2.1, (scan (l.drop (getLen l))).2.2) := by
  have hl := getErr_len h
  unfold scan
  obtain ⟨n, hn⟩ : ∃ n, l.length = n + 1 := ⟨l.length - 1, by omega⟩
  have e := scanF_more n (l.drop (getLen l)).length (l.drop (getLen l)) (by rw [List.length_drop]; omega) (Nat.le_refl _)
  rw [hn]
  conv => lhs; unfold scanF
  rw [if_neg (by omega), if_pos h, e]
theorem scanF_len : ∀ (f : Nat) (l : List UInt8), (scanF f l).2.1 ≤ l.length
  | 0, l => Nat.zero_le _
  | f + 1, l => by
    unfold scanF
    by_cases h0 : l.length = 0
    · rw [if_pos h0]; exact Nat.zero_le _
    rw [if_neg h0]
    by_cases he : getErr l = 0
    · have hl := getErr_len he
      have ih := scanF_len f (l.drop (getLen l))
      rw [List.length_drop] at ih
      rw [if_pos he]
      show getLen l + _ ≤ _
      omega
    · rw [if_neg he]; exact Nat.zero_le _
theorem scan_len (l : List UInt8) : (scan l).2.1 ≤ l.length := scanF_len _ _
/-- as far as place p: acc was found there -/
def ScanAt (l : List UInt8) (p : Nat) (acc : List (List UInt8)) : Prop :=
  p ≤ l.length ∧ 9 * acc.length ≤ p ∧ (scan l).1 = acc ++ (scan (l.drop p)).1 ∧ (scan l).2.1 = p + (scan (l.drop p)).2.1 ∧ (scan l).2.2 = (scan (l.drop p)).2.2 ∧ (∀ x ∈ acc, okLen x.length = true)
theorem ScanAt.start (l : List UInt8) : ScanAt l 0 [] := ⟨Nat.zero_le _, Nat.le_refl _, by simp, by simp, by simp, by simp⟩
theorem ScanAt.more {l : List UInt8} {p : Nat} {acc : List (List UInt8)} (h : ScanAt l p acc) (he : getErr (l.drop p) = 0) : ScanAt l (p + getLen (l.drop p)) (acc ++ [getGet (l.drop p)]) := by
  obtain ⟨h1, h2, h3, h4, h5, h6⟩ := h
  have hl := getErr_len he
  have hs := scan_ok he
  rw [List.length_drop] at hl
  rw [List.drop_drop] at hs
  refine ⟨by omega, by rw [List.length_append, List.length_singleton]; omega, ?_, ?_, ?_, fun x hx => ?_⟩
  · rw [h3, hs]; simp
  · rw [h4, hs]; simp; omega
  · rw [h5, hs]
  · rcases List.mem_append.1 hx with hx | hx
    · exact h6 x hx
    · simp at hx; rw [hx]; exact hl.2.2.2
theorem ScanAt.stop {l : List UInt8} {p : Nat} {acc : List (List UInt8)} (h : ScanAt l p acc) (hp : p < l.length) (he : getErr (l.drop p) ≠ 0) : scan l = (acc, p, getErr (l.drop p)) := by
  obtain ⟨h1, h2, h3, h4, h5, _⟩ := h
  have hs := scan_err (l := l.drop p) (by rw [List.length_drop]; omega) he
  rw [hs] at h3 h4 h5
  refine Prod.ext (by simpa using h3) (Prod.ext (by simpa using h4) h5)
theorem ScanAt.all {l : List UInt8} {p : Nat} {acc : List (List UInt8)} (h : ScanAt l p acc) (hp : p = l.length) : scan l = (acc, p, 0) := by
  obtain ⟨h1, h2, h3, h4, h5, _⟩ := h
  rw [hp, List.drop_length, scan_nil] at h3 h4 h5
  exact Prod.ext (by simpa using h3) (Prod.ext (by simpa [hp] using h4) h5)
end Go.Proofs.YtodjilljcjkacaaGreatDoor
/- Layer 13: two rows of records behind each other, as plain lists. -/
namespace Go.Proofs.YtodjilljcjkacaaGreatDoor
open Go.RowKit

end Go.Proofs.YtodjilljcjkacaaGreatDoor
