/- The document's disk and the program's, as they are told: files in an order of one's own, and in the names' order. -/
import Derived.Test.YtolomfdommnklaaRk7
import Derived.Test.YtolomfdommnklaaDk16
import Derived.Sort.Walk0
namespace Go.Proofs.Ytolomfdommnklaa
open Go.RowKit Go.MapKept

theorem bl_iff {a b : ByteArray} : bl a b = true ↔ a.data.toList < b.data.toList := by
  unfold bl
  rw [bytesLess_eq, Lib.toList_data, Lib.toList_data, decide_eq_true_iff]
theorem bl_trans {a b c : ByteArray} (h1 : bl a b = true) (h2 : bl b c = true) : bl a c = true := by
  rw [bl_iff] at *
  exact List.lt_trans h1 h2
theorem bl_tot {a b : ByteArray} (h : bl a b = false) (hne : a ≠ b) : bl b a = true := by
  have h1 : ¬ a.data.toList < b.data.toList := fun h2 => by rw [bl_iff.2 h2] at h; cases h
  rw [bl_iff]
  rcases Std.le_total (a := a.data.toList) (b := b.data.toList) with h2 | h2
  · exact absurd (Std.lt_of_le_of_ne h2 (fun e => hne (ByteArray.ext (Array.toList_inj.1 e)))) h1
  · exact Std.lt_of_le_of_ne h2 (fun e => hne (ByteArray.ext (Array.toList_inj.1 e.symm)))
theorem bl_irr (a : ByteArray) : bl a a = false := by
  cases h : bl a a
  · rfl
  · rw [bl_iff] at h; exact absurd h (Std.lt_irrefl)
abbrev Srt (L : Fs) : Prop := L.Pairwise (fun a b => bl a.1 b.1 = true)
theorem fgetL_mid {A Q : Fs} {n : ByteArray} {f : Fl} (h : ∀ e ∈ A, e.1 ≠ n) : fget (A ++ (n, f) :: Q) n = some f := by
  induction A with
  | nil => simp [fget]
  | cons x A ih =>
    obtain ⟨m, g⟩ := x
    simp only [List.cons_append, fget]
    rw [if_neg (fun e => h (m, g) (by simp) e.symm)]
    exact ih (fun e he => h e (by simp [he]))
theorem fput_mid {A Q : Fs} {n : ByteArray} {f f' : Fl} (h : ∀ e ∈ A, e.1 ≠ n) : fput (A ++ (n, f) :: Q) n f' = A ++ (n, f') :: Q := by
  induction A with
  | nil => simp [fput]
  | cons x A ih =>
    obtain ⟨m, g⟩ := x
    simp only [List.cons_append, fput]
    rw [if_neg (fun e => h (m, g) (by simp) e.symm), ih (fun e he => h e (by simp [he]))]
theorem fdel_mid {A Q : Fs} {n : ByteArray} {f : Fl} (h : ∀ e ∈ A, e.1 ≠ n) : fdel (A ++ (n, f) :: Q) n = A ++ Q := by
  induction A with
  | nil => simp [fdel]
  | cons x A ih =>
    obtain ⟨m, g⟩ := x
    simp only [List.cons_append, fdel]
    rw [if_neg (fun e => h (m, g) (by simp) e.symm), ih (fun e he => h e (by simp [he]))]
theorem fdel_none {A : Fs} {n : ByteArray} (h : ∀ e ∈ A, e.1 ≠ n) : fdel A n = A := by
  induction A with
  | nil => rfl
  | cons x A ih =>
    obtain ⟨m, g⟩ := x
    simp only [fdel]
    rw [if_neg (fun e => h (m, g) (by simp) e.symm), ih (fun e he => h e (by simp [he]))]
theorem perm_cut {A0 Q0 A1 Q1 : Fs} {x : ByteArray × Fl} (h : (A0 ++ x :: Q0).Perm (A1 ++ x :: Q1)) : (A0 ++ Q0).Perm (A1 ++ Q1) :=
  ((List.perm_middle.symm.trans h).trans List.perm_middle).cons_inv
theorem perm_mid {A0 Q0 A1 Q1 : Fs} (x : ByteArray × Fl) (h : (A0 ++ Q0).Perm (A1 ++ Q1)) : (A0 ++ x :: Q0).Perm (A1 ++ x :: Q1) :=
  (List.perm_middle.trans (h.cons x)).trans List.perm_middle.symm
theorem fget_in {L : Fs} {n : ByteArray} {f : Fl} (h : fget L n = some f) : (n, f) ∈ L := by
  rcases fs_split L n with ⟨h1, _, _⟩ | ⟨A, f', Q, rfl, _, h2, _⟩
  · rw [h1] at h; cases h
  · rw [h2] at h; cases h; simp
theorem in_fget {L : Fs} {n : ByteArray} {f : Fl} (hn : (L.map (·.1)).Nodup) (h : (n, f) ∈ L) : fget L n = some f := by
  obtain ⟨A, Q, rfl⟩ := List.append_of_mem h
  refine fgetL_mid (fun e he e1 => ?_)
  rw [List.map_append, List.nodup_append] at hn
  exact hn.2.2 e.1 (List.mem_map.2 ⟨e, he, rfl⟩) n (by simp) e1
theorem fget_perm {L fs : Fs} (h : L.Perm fs) (hn : (fs.map (·.1)).Nodup) (n : ByteArray) : fget L n = fget fs n := by
  have hn' : (L.map (·.1)).Nodup := (h.map _).nodup_iff.2 hn
  cases h1 : fget fs n with
  | some f => exact in_fget hn' (h.mem_iff.2 (fget_in h1))
  | none =>
    cases h2 : fget L n with
    | none => rfl
    | some f => rw [in_fget hn (h.mem_iff.1 (fget_in h2))] at h1; cases h1
theorem fget_not {L : Fs} {n : ByteArray} (h : fget L n = none) : ∀ e ∈ L, e.1 ≠ n := by
  rcases fs_split L n with ⟨_, h2, _⟩ | ⟨_, f, _, _, _, h2, _⟩
  · exact h2
  · rw [h2] at h; cases h
/-- a file of one, and of the other -/
theorem both_split {L fs : Fs} {A0 Q0 : Fs} {n : ByteArray} {f : Fl} (h : L.Perm fs) (hn : (fs.map (·.1)).Nodup) (hL : L = A0 ++ (n, f) :: Q0) (hno : ∀ e ∈ A0, e.1 ≠ n) :
    ∃ A1 Q1, fs = A1 ++ (n, f) :: Q1 ∧ (∀ e ∈ A1, e.1 ≠ n) ∧ fget fs n = some f ∧ (A0 ++ Q0).Perm (A1 ++ Q1) := by
  have hg : fget fs n = some f := by rw [← fget_perm h hn, hL]; exact fgetL_mid hno
  rcases fs_split fs n with ⟨h1, _, _⟩ | ⟨A1, f', Q1, e, h2, h3, _⟩
  · rw [h1] at hg; cases hg
  · rw [h3] at hg
    cases hg
    refine ⟨A1, Q1, e, h2, h3, perm_cut (x := (n, f)) ?_⟩
    rw [← hL, ← e]
    exact h
theorem srt_put {L L' : Fs} {e : ByteArray × Fl} (hs : Srt L) (hno : ∀ x ∈ L, x.1 ≠ e.1) (hp : PutsTo L e L') : Srt L' ∧ L'.Perm (e :: L) := by
  obtain ⟨Pl, Ql, rfl, rfl, h1, h2⟩ := hp
  refine ⟨?_, List.perm_middle⟩
  unfold Srt at *
  rw [List.pairwise_append] at hs ⊢
  obtain ⟨hs1, hs2, hs3⟩ := hs
  refine ⟨hs1, List.pairwise_cons.2 ⟨h1, hs2⟩, fun a ha b hb => ?_⟩
  have hae : bl a.1 e.1 = true := by
    have hne : Pl ≠ [] := fun h => by rw [h] at ha; cases ha
    have hl := List.getLast?_eq_some_getLast hne
    have hy := bl_tot (h2 _ hl) (fun h => hno _ (List.mem_append_left _ (List.getLast_mem hne)) h.symm)
    have hsp : Pl = Pl.dropLast ++ [Pl.getLast hne] := (List.dropLast_concat_getLast hne).symm
    rw [hsp] at ha hs1
    rcases List.mem_append.1 ha with h | h
    · exact bl_trans ((List.pairwise_append.1 hs1).2.2 a h _ (by simp)) hy
    · rw [List.mem_singleton.1 h]; exact hy
  rcases List.mem_cons.1 hb with rfl | hb
  · exact hae
  · exact hs3 a ha b hb
theorem srt_cut {A Q : Fs} {x : ByteArray × Fl} (h : Srt (A ++ x :: Q)) : Srt (A ++ Q) := h.sublist (by simp)
theorem srt_sub {A Q : Fs} {n : ByteArray} {f f' : Fl} (h : Srt (A ++ (n, f) :: Q)) : Srt (A ++ (n, f') :: Q) := by
  unfold Srt at *
  rw [List.pairwise_append] at h ⊢
  obtain ⟨h1, h2, h3⟩ := h
  rw [List.pairwise_cons] at h2
  refine ⟨h1, List.pairwise_cons.2 ⟨fun x hx => h2.1 x hx, h2.2⟩, fun a ha b hb => ?_⟩
  rcases List.mem_cons.1 hb with rfl | hb
  · exact h3 a ha (n, f) (by simp)
  · exact h3 a ha b (by simp [hb])
theorem sumB_perm {L fs : Fs} (h : L.Perm fs) : sumB L = ftotal fs := (h.map _).sum_nat
/-- the program's disk tells what the document's does -/
structure Sim (d : Dk) (fs : Fs) (r : Rk) (L : Fs) : Prop where
  size : r.size = d.room
  count : r.count = d.ops
  armed : r.armed = d.armedIn
  keep : r.keep = d.armKeep
  fail : r.fail = d.failIn
  perm : L.Perm fs
  srt : Srt L
theorem Sim.odd {d : Dk} {fs : Fs} {r : Rk} {L : Fs} (h : Sim d fs r L) : rOdd r = dOdd d := by unfold rOdd dOdd; rw [h.keep]
theorem Sim.ok {d : Dk} {fs : Fs} {r : Rk} {L : Fs} (h : Sim d fs r L) (hk : FsOk d fs) : r.Ok := by
  have := hk.ok
  exact ⟨by rw [h.size]; have := hk.ok.room; omega, by rw [h.count]; exact hk.ok.ops, by rw [h.armed]; exact hk.ok.armedIn, by rw [h.keep]; exact hk.ok.armKeep, by rw [h.fail]; exact hk.ok.failIn⟩
theorem Sim.begin {d : Dk} {fs : Fs} {r : Rk} {L : Fs} (h : Sim d fs r L) {fs' L' : Fs} (hp : L'.Perm fs') (hs : Srt L') (u : Int) : Sim { d.begin with used := u } fs' r.begin L' :=
  ⟨h.size, by show r.count + 1 = d.ops + 1; rw [h.count], by show (if r.armed = 0 then 0 else r.armed - 1) = (if d.armedIn = 0 then 0 else d.armedIn - 1); rw [h.armed], h.keep, h.fail, hp, hs⟩
theorem Sim.begin0 {d : Dk} {fs : Fs} {r : Rk} {L : Fs} (h : Sim d fs r L) {fs' L' : Fs} (hp : L'.Perm fs') (hs : Srt L') : Sim d.begin fs' r.begin L' := h.begin hp hs d.begin.used
end Go.Proofs.Ytolomfdommnklaa
