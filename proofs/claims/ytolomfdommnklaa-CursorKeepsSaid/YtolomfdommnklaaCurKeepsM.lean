/- Layer 15: what a save leaves in its file. -/
import Derived.Test.YtolomfdommnklaaCur6
namespace Go.Proofs.Ytolomfdommnklaa
open Go.RowKit Go.MapKept

theorem fget_fput_same : ∀ (fs : Fs) (k : ByteArray) (v : Fl), fget (fput fs k v) k = some v
  | [], k, v => by simp [fput, fget]
  | (a, u) :: r, k, v => by
    unfold fput
    split
    · simp [fget]
    · rename_i h
      unfold fget
      rw [if_neg h]
      exact fget_fput_same r k v
theorem fget_fput_other : ∀ (fs : Fs) {k n : ByteArray} (v : Fl), n ≠ k → fget (fput fs k v) n = fget fs n
  | [], k, n, v, h => by simp [fput, fget, h]
  | (a, u) :: r, k, n, v, h => by
    unfold fput
    split
    · rename_i hk
      subst hk
      unfold fget
      rw [if_neg h, if_neg h]
    · unfold fget
      split
      · rfl
      · exact fget_fput_other r v h
theorem fget_app_last : ∀ (fs : Fs) (k : ByteArray) (v : Fl), fget fs k = none → fget (fs ++ [(k, v)]) k = some v := fun _ _ v h => fget_app_new v h
/-- a change of another file -/
theorem change_other {d d1 d2 : Dk} {fs fs' : Fs} {x : Int} {n : ByteArray} (h : fget fs' n = fget fs n) : fget (opChange d fs x d1 d2 fs').2.2 n = fget fs n := by
  unfold opChange
  split
  · split
    · exact h
    · rfl
  · exact h
theorem trunc_other {d : Dk} {fs : Fs} {t n : ByteArray} (k : Int) (h : n ≠ t) : fget (opTrunc d fs t k).2.2 n = fget fs n := by
  unfold opTrunc
  split
  · rfl
  · split
    · rfl
    · exact change_other (fget_fput_other _ _ h)
theorem sync_other {d : Dk} {fs : Fs} {t n : ByteArray} (h : n ≠ t) : fget (opSync d fs t).2.2 n = fget fs n := by
  unfold opSync
  split
  · rfl
  · exact change_other (fget_fput_other _ _ h)
theorem remove_other {d : Dk} {fs : Fs} {t n : ByteArray} (h : n ≠ t) : fget (opRemove d fs t).2.2 n = fget fs n := by
  unfold opRemove
  split
  · rfl
  · exact change_other (fget_fdel_ne (fun e => h e.symm))
theorem app_other {d : Dk} {fs : Fs} {t n : ByteArray} (l : List UInt8) (h : n ≠ t) : fget (appO d fs t l).2.2 n = fget fs n := by
  unfold appO
  split
  · rfl
  · split
    · exact fget_fput_other _ _ h
    · exact fget_fput_other _ _ h
theorem lay__other {x : Int} {r : Out} {n : ByteArray} : fget (layF_ x r).2.2 n = fget r.2.2 n := by
  obtain ⟨y | op, s⟩ := r <;> rfl
theorem laySr_other {r : Out} {t n : ByteArray} (h : n ≠ t) : fget (laySr r t).2.2 n = fget r.2.2 n := by
  obtain ⟨y | op, s⟩ := r
  · show fget (if y = 0 then ((.inl 0, s) : Out) else layF_ 5 (opRemove s.1 s.2 t)).2.2 n = _
    split
    · rfl
    · rw [lay__other, remove_other h]
  · rfl
theorem layAr_other {r : OutN} {t n : ByteArray} (l : List UInt8) (h : n ≠ t) : fget (layAr r t l).2.2 n = fget r.2.2 n := by
  obtain ⟨⟨m, y | op⟩, s⟩ := r
  · show fget (if m < (l.length : Int) then layF_ 4 (opRemove s.1 s.2 t) else laySr (opSync s.1 s.2 t) t).2.2 n = _
    split
    · rw [lay__other, remove_other h]
    · rw [laySr_other h, sync_other h]
  · rfl
theorem layT_other {r : Out} {t n : ByteArray} (l : List UInt8) (h : n ≠ t) : fget (layT r t l).2.2 n = fget r.2.2 n := by
  obtain ⟨y | op, s⟩ := r
  · show fget (layAr (appO s.1 s.2 t l) t l).2.2 n = _
    rw [layAr_other l h, app_other l h]
  · rfl
theorem layD_other (d : Dk) (fs : Fs) {t n : ByteArray} (l : List UInt8) (h : n ≠ t) : fget (layD d fs t l).2.2 n = fget fs n := by
  unfold layD
  rw [layT_other l h, trunc_other 0 h]
/-- behind the cut there is no file, or an empty one -/
theorem trunc_zero {d : Dk} {fs : Fs} {t : ByteArray} {y : Int} (h : (opTrunc d fs t 0).1 = .inl y) : fget (opTrunc d fs t 0).2.2 t = none ∨ ∃ sf, fget (opTrunc d fs t 0).2.2 t = some ⟨[], sf⟩ := by
  unfold opTrunc at h ⊢
  split
  · rename_i hn; exact .inl hn
  · rename_i f hf
    rw [hf] at h
    simp only at h
    rw [if_neg (by omega)] at h ⊢
    unfold opChange at h ⊢
    split
    · rename_i ha; rw [if_pos ha] at h; cases h
    · refine .inr ⟨(trFl (0 : Int).toNat f).safe, ?_⟩
      show fget (fput fs t (trFl (0 : Int).toNat f)) t = _
      rw [fget_fput_same]
      rfl
theorem layF_empty {fs : Fs} {t : ByteArray} (l : List UInt8) (h : fget fs t = none ∨ ∃ sf, fget fs t = some ⟨[], sf⟩) : ∃ sf, fget (layF fs t l) t = some ⟨l, sf⟩ := by
  unfold layF
  rw [fget_fput_same]
  rcases h with h | ⟨sf, h⟩
  · rw [h]; exact ⟨0, rfl⟩
  · rw [h]; exact ⟨sf, rfl⟩
theorem layD_good {d : Dk} {fs : Fs} {t : ByteArray} {l : List UInt8} (hl : 0 < l.length) (h : (layD d fs t l).1 = .inl 0) : fget (layD d fs t l).2.2 t = some ⟨l, l.length⟩ := by
  unfold layD at h ⊢
  have h0 := fun y => trunc_zero (d := d) (fs := fs) (t := t) (y := y)
  generalize opTrunc d fs t 0 = r at h h0 ⊢
  obtain ⟨y | op, d1, fs1⟩ := r
  · have h1 : fget fs1 t = none ∨ ∃ sf, fget fs1 t = some ⟨[], sf⟩ := h0 y rfl
    clear h0
    replace h : (layAr (appO d1 fs1 t l) t l).1 = .inl 0 := h
    show fget (layAr (appO d1 fs1 t l) t l).2.2 t = _
    by_cases hn : nameD t = false
    · have e : appO d1 fs1 t l = ((0, .inl 16), d1, fs1) := by unfold appO; rw [if_pos hn]
      rw [e] at h
      replace h : (if (0 : Int) < (l.length : Int) then layF_ 4 (opRemove d1 fs1 t) else laySr (opSync d1 fs1 t) t).1 = .inl 0 := h
      rw [if_pos (by omega)] at h
      generalize opRemove d1 fs1 t = q at h
      obtain ⟨z | op, s⟩ := q <;> cases h
    · by_cases ha : d1.armedIn = 1
      · have e : appO d1 fs1 t l = ((0, .inr (d1.ops + 1)), { d1.begin with used := d1.used + (appK d1 l.length : Int) }, layF fs1 t (l.take (appK d1 l.length))) := by unfold appO; rw [if_neg hn, if_pos ha]
        rw [e] at h; cases h
      · have e : appO d1 fs1 t l = (((appN d1 l.length : Int), .inl (appE d1 l.length)), { d1.begin with used := d1.used + (appN d1 l.length : Int) }, layF fs1 t (l.take (appN d1 l.length))) := by unfold appO; rw [if_neg hn, if_neg ha]
        rw [e] at h ⊢
        generalize ({ d1.begin with used := d1.used + (appN d1 l.length : Int) } : Dk) = d2 at h ⊢
        by_cases hlt : appN d1 l.length < l.length
        · replace h : (if (appN d1 l.length : Int) < (l.length : Int) then layF_ 4 (opRemove d2 (layF fs1 t (l.take (appN d1 l.length))) t) else laySr (opSync d2 (layF fs1 t (l.take (appN d1 l.length))) t) t).1 = .inl 0 := h
          rw [if_pos (by omega)] at h
          generalize opRemove d2 (layF fs1 t (l.take (appN d1 l.length))) t = q at h
          obtain ⟨z | op, s⟩ := q <;> cases h
        · have hk : l.take (appN d1 l.length) = l := List.take_of_length_le (by omega)
          rw [hk] at h ⊢
          obtain ⟨sf, hf⟩ := layF_empty (t := t) l h1
          generalize layF fs1 t l = fs2 at h hf ⊢
          replace h : (if (appN d1 l.length : Int) < (l.length : Int) then layF_ 4 (opRemove d2 fs2 t) else laySr (opSync d2 fs2 t) t).1 = .inl 0 := h
          show fget (if (appN d1 l.length : Int) < (l.length : Int) then layF_ 4 (opRemove d2 fs2 t) else laySr (opSync d2 fs2 t) t).2.2 t = _
          rw [if_neg (by omega)] at h ⊢
          have hs : opSync d2 fs2 t = opChange d2 fs2 (syncErr (d2.failIn == 1)) d2.syncs.begin d2.syncs.begin (fput fs2 t (syncFl (d2.failIn == 1) ⟨l, sf⟩)) := by unfold opSync; rw [hf]
          rw [hs] at h ⊢
          unfold opChange at h ⊢
          split
          · rename_i ha2; rw [if_pos ha2] at h; cases h
          · rename_i ha2
            rw [if_neg ha2] at h
            cases hfl : (d2.failIn == 1)
            · rw [hfl] at h
              show fget (if syncErr false = 0 then ((.inl 0, d2.syncs.begin, fput fs2 t (syncFl false ⟨l, sf⟩)) : Out) else layF_ 5 (opRemove d2.syncs.begin (fput fs2 t (syncFl false ⟨l, sf⟩)) t)).2.2 t = _
              rw [if_pos (show syncErr false = 0 from rfl)]
              show fget (fput fs2 t (syncFl false ⟨l, sf⟩)) t = _
              rw [fget_fput_same]; rfl
            · rw [hfl] at h
              replace h : (if syncErr true = 0 then ((.inl 0, d2.syncs.begin, fput fs2 t (syncFl true ⟨l, sf⟩)) : Out) else layF_ 5 (opRemove d2.syncs.begin (fput fs2 t (syncFl true ⟨l, sf⟩)) t)).1 = .inl 0 := h
              rw [if_neg (by decide)] at h
              generalize opRemove d2.syncs.begin (fput fs2 t (syncFl true ⟨l, sf⟩)) t = q at h
              obtain ⟨z | op, s⟩ := q <;> cases h
  · cases h
/-- what a save leaves in its file: as it was, or the number -/
def KeepO (fs : Fs) (nm : ByteArray) (v : Fl) (r : Out) : Prop :=
  match r.1 with
  | .inl x => (x = 0 → fget r.2.2 nm = some v) ∧ (x ≠ 0 → fget r.2.2 nm = fget fs nm)
  | .inr _ => fget r.2.2 nm = fget fs nm ∨ fget r.2.2 nm = some v
theorem fdel_miss {fs : Fs} {n : ByteArray} (hd : (fs.map (·.1)).Nodup) : fget (fdel fs n) n = none := by
  induction fs with
  | nil => rfl
  | cons a r ih =>
    obtain ⟨a, u⟩ := a
    simp only [List.map_cons, List.nodup_cons] at hd
    unfold fdel
    split
    · rename_i h
      subst h
      have : ∀ q : Fs, n ∉ q.map (·.1) → fget q n = none := by
        intro q
        induction q with
        | nil => intro _; rfl
        | cons b q ihq =>
          obtain ⟨b, v⟩ := b
          intro hq
          simp only [List.map_cons, List.mem_cons, not_or] at hq
          unfold fget
          rw [if_neg hq.1]
          exact ihq hq.2
      exact this r hd.1
    · rename_i h
      unfold fget
      rw [if_neg h]
      exact ih hd.2
theorem saveD_keeps {d : Dk} {fs : Fs} {nm : ByteArray} {n : Nat} (hn : n ≤ 1099511627776) (h1 : nameD nm = true) (h2 : nameD (tmpN nm) = true)
    (hd : ((layD d fs (tmpN nm) (bytesD n)).2.2.map (·.1)).Nodup) : KeepO fs nm ⟨bytesD n, 12⟩ (saveD d fs nm (n : Int)) := by
  have hne := tmpN_ne nm
  unfold saveD
  rw [if_neg (by rw [h1, h2]; decide), if_pos ⟨by omega, by omega⟩, Int.toNat_natCast]
  have ho := layD_other d fs (bytesD n) hne
  have hg := layD_good (d := d) (fs := fs) (t := tmpN nm) (l := bytesD n) (by show 0 < 12; decide)
  rw [show (bytesD n).length = 12 from rfl] at hg
  generalize layD d fs (tmpN nm) (bytesD n) = r at ho hg hd ⊢
  obtain ⟨x | op, d1, fs1⟩ := r
  · show KeepO fs nm ⟨bytesD n, 12⟩ (if x = 0 then opRename d1 fs1 (tmpN nm) nm else ((.inl x, d1, fs1) : Out))
    have ho' : fget fs1 nm = fget fs nm := ho
    by_cases hx : x = 0
    · subst hx
      rw [if_pos rfl]
      have hg' : fget fs1 (tmpN nm) = some ⟨bytesD n, 12⟩ := hg rfl
      have hdone : fget (fdel (fdel fs1 nm) (tmpN nm) ++ [(nm, (⟨bytesD n, 12⟩ : Fl))]) nm = some ⟨bytesD n, 12⟩ :=
        fget_app_new _ (by rw [fget_fdel_ne (fun e => hne e.symm)]; exact fdel_miss hd)
      unfold opRename
      rw [hg']
      simp only
      rw [if_neg (by rw [h1]; decide), if_neg (fun e => hne e.symm)]
      unfold opChange
      split
      · unfold KeepO
        simp only
        split
        · exact .inr hdone
        · exact .inl ho'
      · exact ⟨fun _ => hdone, fun h => absurd rfl h⟩
    · rw [if_neg hx]
      exact ⟨fun h => absurd h hx, fun _ => ho'⟩
  · exact .inl ho
end Go.Proofs.Ytolomfdommnklaa
