/- Layer 14: Add on a disk that does as it is told, as plain functions. -/
import Derived.Test.YthblbmbefhlbjaaWalM
namespace Go.Proofs.Ythblbmbefhlbjaa
open Go.RowKit Go.MapKept

theorem trunc_opsP (d : Dk) (fs : Fs) (a : ByteArray) (n : Int) : (opTrunc d fs a n).2.1.ops ≤ d.ops + 1 := by
  have := callD_ops (d := d) (fs := fs) 1 n 0 a a []
  simpa [callD, liftO] using this
theorem sync_opsP (d : Dk) (fs : Fs) (a : ByteArray) : (opSync d fs a).2.1.ops ≤ d.ops + 1 := by
  have := callD_ops (d := d) (fs := fs) 2 0 0 a a []
  simpa [callD, liftO] using this
theorem app_opsP (d : Dk) (fs : Fs) (a : ByteArray) (l : List UInt8) : (appO d fs a l).2.1.ops ≤ d.ops + 1 := by
  have := callD_ops (d := d) (fs := fs) 0 0 0 a a l
  simpa [callD] using this
theorem app_okP {d : Dk} {fs : Fs} (h : FsOk d fs) (ho : d.ops + 1 ≤ 1152921504606846976) (a : ByteArray) (l : List UInt8) : FsOk (appO d fs a l).2.1 (appO d fs a l).2.2 := by
  have := callD_ok h ho 0 0 0 (by decide) (by decide) a a l
  simpa [callD] using this
theorem undo_ok {x : Int} {r : Out} {k : Int} (h : FsOk r.2.1 r.2.2) (ho : r.2.1.ops ≤ k) : FsOk (undo_ x r).2.1 (undo_ x r).2.2 ∧ (undo_ x r).2.1.ops ≤ k := by
  obtain ⟨y | op, d, fs⟩ := r
  · exact ⟨h, ho⟩
  · exact ⟨h, ho⟩
theorem addD_ok {d : Dk} {fs : Fs} (ok : FsOk d fs) (ho : d.ops + 8 ≤ 1152921504606846976) (nm : ByteArray) (g : Nat) (b : List UInt8) : FsOk (addD d fs nm g b).2.1 (addD d fs nm g b).2.2 ∧ (addD d fs nm g b).2.1.ops ≤ d.ops + 3 := by
  unfold addD
  split
  · have h2 := app_okP ok (by omega) nm (record b)
    have o2 := app_opsP d fs nm (record b)
    generalize appO d fs nm (record b) = r at h2 o2
    obtain ⟨⟨n, y | op⟩, d3, fs3⟩ := r
    · have o2' : d3.ops ≤ d.ops + 1 := o2
      show FsOk (if n < ((record b).length : Int) then undo_ 4 (opTrunc d3 fs3 nm (g : Int)) else addS nm g (opSync d3 fs3 nm)).2.1 (if n < ((record b).length : Int) then undo_ 4 (opTrunc d3 fs3 nm (g : Int)) else addS nm g (opSync d3 fs3 nm)).2.2 ∧ (if n < ((record b).length : Int) then undo_ 4 (opTrunc d3 fs3 nm (g : Int)) else addS nm g (opSync d3 fs3 nm)).2.1.ops ≤ d.ops + 3
      split
      · exact undo_ok (trunc_ok h2 (by show d3.ops + 1 ≤ _; omega) nm _) (by have := trunc_opsP d3 fs3 nm (g : Int); omega)
      · have h3 := sync_ok h2 (by show d3.ops + 1 ≤ _; omega) nm
        have o3 := sync_opsP d3 fs3 nm
        generalize opSync d3 fs3 nm = r at h3 o3
        obtain ⟨x2 | op, d4, fs4⟩ := r
        · have o3' : d4.ops ≤ d3.ops + 1 := o3
          show FsOk (if x2 = 0 then ((.inl 0, d4, fs4) : Out) else undo_ 5 (opTrunc d4 fs4 nm (g : Int))).2.1 (if x2 = 0 then ((.inl 0, d4, fs4) : Out) else undo_ 5 (opTrunc d4 fs4 nm (g : Int))).2.2 ∧ (if x2 = 0 then ((.inl 0, d4, fs4) : Out) else undo_ 5 (opTrunc d4 fs4 nm (g : Int))).2.1.ops ≤ d.ops + 3
          split
          · exact ⟨h3, by show d4.ops ≤ _; omega⟩
          · exact undo_ok (trunc_ok h3 (by show d4.ops + 1 ≤ _; omega) nm _) (by have := trunc_opsP d4 fs4 nm (g : Int); omega)
        · exact ⟨h3, by have o3' : d4.ops ≤ d3.ops + 1 := o3; show d4.ops ≤ _; omega⟩
    · exact ⟨h2, by have o2' : d3.ops ≤ d.ops + 1 := o2; show d3.ops ≤ _; omega⟩
  · exact ⟨ok, by show d.ops ≤ _; omega⟩
theorem openD_ok {d : Dk} {fs : Fs} (ok : FsOk d fs) (ho : d.ops + 8 ≤ 1152921504606846976) (nm : ByteArray) : FsOk (openD d fs nm).2.1 (openD d fs nm).2.2 ∧ (openD d fs nm).2.1.ops ≤ d.ops + 2 := by
  unfold openD
  split
  · exact ⟨ok, by show d.ops ≤ _; omega⟩
  · have h2 := trunc_ok ok (by omega) nm ((scan (bsOf fs nm)).2.1 : Int)
    have o2 := trunc_opsP d fs nm ((scan (bsOf fs nm)).2.1 : Int)
    generalize opTrunc d fs nm ((scan (bsOf fs nm)).2.1 : Int) = r at h2 o2
    obtain ⟨x | op, d3, fs3⟩ := r
    · have o2' : d3.ops ≤ d.ops + 1 := o2
      exact ⟨sync_ok h2 (by show d3.ops + 1 ≤ _; omega) nm, by show (opSync d3 fs3 nm).2.1.ops ≤ _; have := sync_opsP d3 fs3 nm; omega⟩
    · exact ⟨h2, by have o2' : d3.ops ≤ d.ops + 1 := o2; show d3.ops ≤ _; omega⟩

/-- a disk that does as it is told, with one log -/
structure WPlain (d : Dk) (fs : Fs) (nm : ByteArray) (rs : List (List UInt8)) : Prop where
  ha : d.armedIn = 0
  hf : d.failIn = 0
  hw : WalFs fs nm rs
  hu : d.used = ((recs rs).length : Int)
theorem app_plain {d : Dk} {fs : Fs} {nm : ByteArray} (l : List UInt8) (hn : nameD nm = true) (ha : d.armedIn = 0) :
    appO d fs nm l = (((appN d l.length : Int), .inl (appE d l.length)), { d.begin with used := d.used + (appN d l.length : Int) }, layF fs nm (l.take (appN d l.length))) := by
  unfold appO
  rw [if_neg (by rw [hn]; decide), if_neg (by omega)]
theorem layF_get {fs : Fs} {nm : ByteArray} {rs : List (List UInt8)} (h : WalFs fs nm rs) (b : List UInt8) : fget (layF fs nm b) nm = some ⟨recs rs ++ b, (recs rs).length⟩ := by
  unfold layF
  rw [fget_put_same]
  rcases h.2 with ⟨h1, rfl⟩ | h1
  · rw [h1]; rfl
  · rw [h1]
theorem trunc_plain {d : Dk} {fs : Fs} {nm : ByteArray} {f : Fl} {n : Nat} (h : fget fs nm = some f) (hn : n ≤ f.bs.length) (ha : d.armedIn = 0) :
    opTrunc d fs nm (n : Int) = (.inl 0, { d.begin with used := d.used - ((f.bs.length : Int) - (n : Int)) }, fput fs nm (trFl n f)) := by
  unfold opTrunc
  rw [h]
  simp only
  rw [if_neg (by omega)]
  unfold opChange
  rw [if_neg (by omega)]
  simp
theorem sync_plain {d : Dk} {fs : Fs} {nm : ByteArray} {f : Fl} (h : fget fs nm = some f) (ha : d.armedIn = 0) (hf : d.failIn = 0) :
    opSync d fs nm = (.inl 0, d.syncs.begin, fput fs nm ⟨f.bs, f.bs.length⟩) := by
  unfold opSync
  rw [h]
  simp only
  unfold opChange
  rw [if_neg (by omega)]
  have : (d.failIn == 1) = false := by rw [hf]; rfl
  rw [this]
  rfl
theorem addS_zero (nm : ByteArray) (g : Nat) (s : Dk × Fs) : addS nm g (.inl 0, s) = (.inl 0, s) := by simp [addS]
theorem addD_plain {d : Dk} {fs : Fs} {nm : ByteArray} {rs : List (List UInt8)} (h : WPlain d fs nm rs) (hn : nameD nm = true) (b : List UInt8) (hb : okLen b.length = true) :
    (addD d fs nm (recs rs).length b).2.1.room = d.room ∧
    ((((recs rs).length : Int) + ((record b).length : Int) ≤ d.room ∧ (addD d fs nm (recs rs).length b).1 = .inl 0 ∧ WPlain (addD d fs nm (recs rs).length b).2.1 (addD d fs nm (recs rs).length b).2.2 nm (rs ++ [b])) ∨
     (d.room < ((recs rs).length : Int) + ((record b).length : Int) ∧ (addD d fs nm (recs rs).length b).1 = .inl 4 ∧ WPlain (addD d fs nm (recs rs).length b).2.1 (addD d fs nm (recs rs).length b).2.2 nm rs)) := by
  have hk := addD_keeps d b hn h.hw
  have e0 : addD d fs nm (recs rs).length b = addA nm (recs rs).length (record b).length (appO d fs nm (record b)) := if_pos hb
  rw [app_plain _ hn h.ha] at e0
  have hg := layF_get h.hw ((record b).take (appN d (record b).length))
  have hu := h.hu
  have hnN : appN d (record b).length = min (record b).length (d.room - d.used).toNat := rfl
  obtain ⟨N, hN⟩ : ∃ N, N = appN d (record b).length := ⟨_, rfl⟩
  rw [← hN] at e0 hg hnN
  obtain ⟨m, hm⟩ : ∃ m, m = (record b).length := ⟨_, rfl⟩
  have hm8 : 8 ≤ m := by rw [hm, record_length]; omega
  rw [← hm] at e0 hnN ⊢
  have hlen : (recs rs ++ (record b).take N).length = (recs rs).length + N := by rw [List.length_append, List.length_take]; omega
  obtain ⟨d1, hd1⟩ : ∃ d1 : Dk, d1 = { d.begin with used := d.used + (N : Int) } := ⟨_, rfl⟩
  have a1 : d1.armedIn = 0 := by rw [hd1]; exact begin_rest h.ha
  have f1 : d1.failIn = 0 := by rw [hd1]; exact h.hf
  have r1 : d1.room = d.room := by rw [hd1]; rfl
  have u1 : d1.used = d.used + (N : Int) := by rw [hd1]
  rw [← hd1] at e0
  clear hd1
  by_cases hlt : N < m
  · have e1 : addD d fs nm (recs rs).length b = undo_ 4 (opTrunc d1 (layF fs nm ((record b).take N)) nm ((recs rs).length : Int)) := by
      rw [e0]; exact if_pos (show (N : Int) < (m : Int) by omega)
    rw [trunc_plain hg (by simp) a1] at e1
    simp only [hlen] at e1
    rw [e1] at hk
    rw [e1]
    refine ⟨r1, .inr ⟨by omega, rfl, ⟨begin_rest (d := d1) a1, f1, hk, ?_⟩⟩⟩
    show d1.used - ((((recs rs).length + N : Nat) : Int) - ((recs rs).length : Int)) = _
    omega
  · have hNm : N = m := by omega
    have e1 : addD d fs nm (recs rs).length b = addS nm (recs rs).length (opSync d1 (layF fs nm ((record b).take N)) nm) := by
      rw [e0]; exact if_neg (show ¬ (N : Int) < (m : Int) by omega)
    rw [sync_plain hg a1 f1] at e1
    have e2 : addD d fs nm (recs rs).length b = (.inl 0, (d1.syncs.begin, fput (layF fs nm ((record b).take N)) nm ⟨recs rs ++ (record b).take N, (recs rs ++ (record b).take N).length⟩)) := by
      rw [e1]; exact addS_zero _ _ _
    rw [e2] at hk
    rw [e2]
    refine ⟨r1, .inl ⟨by omega, rfl, ⟨begin_rest (d := d1.syncs) a1, syncs_rest (d := d1) f1, hk.2, ?_⟩⟩⟩
    show d1.used = _
    rw [recs_snoc, List.length_append, ← hm]
    omega
end Go.Proofs.Ythblbmbefhlbjaa
