/- The document's disk's methods, against what the program's do. -/
import Derived.Test.YtolomfdommnklaaRk8
namespace Go.Proofs.Ytolomfdommnklaa
open Go.RowKit Go.MapKept

/-- an answer, and the document's -/
def Agree (o : Int ⊕ Int) (r : Rk) (e : Int) (g : Bool) : Prop := (∃ x, o = .inl x ∧ e = x ∧ g = false) ∨ (∃ op, o = .inr op ∧ op = r.count ∧ g = true)
def RM (w : World) (B G : Nat) (E : Nat → Prop) (v : Value) (o : Out) (x : Ending) (w' : World) : Prop :=
  ∃ e g r' L' v' P', x = ret2 e g ∧ Agree o.1 r' e g ∧ Sim o.2.1 o.2.2 r' L' ∧ RkAt w' B G E r' L' v' P' ∧ Ch (RF G v) w w' ∧ (∀ k, v'.ownBlock = some k → v.ownBlock = some k ∨ w.heap.size ≤ k)
def RA (w : World) (B G : Nat) (E : Nat → Prop) (v : Value) (o : OutN) (x : Ending) (w' : World) : Prop :=
  ∃ n e g r' L' v' P', x = ret3 n e g ∧ Agree o.1.2 r' e g ∧ (g = false → n = o.1.1) ∧ Sim o.2.1 o.2.2 r' L' ∧ RkAt w' B G E r' L' v' P' ∧ Ch (RF G v) w w' ∧ (∀ k, v'.ownBlock = some k → v.ownBlock = some k ∨ w.heap.size ≤ k)
section
variable {w : World} {B G : Nat} {E : Nat → Prop} {r : Rk} {L : Fs} {v : Value} {P : List Value} {d : Dk} {fs : Fs}
theorem RM.of {r' : Rk} {L' : Fs} {e : Int} {g : Bool} {x : Ending} {w' : World} {o : Out} (h : Ret2 w B G E r' L' v e g x w') (ha : Agree o.1 r' e g ∧ Sim o.2.1 o.2.2 r' L') : RM w B G E v o x w' := by
  obtain ⟨v', P', h1, h2, h3, h4⟩ := h
  exact ⟨e, g, r', L', v', P', h1, ha.1, ha.2, h2, h3, h4⟩
theorem Sim.change (h : Sim d fs r L) {d1 d2 : Dk} {fs1 L' : Fs} {r' : Rk} {x e : Int} (h1 : rDo r = true → Sim d1 fs1 r' L') (h2 : rDo r = false → Sim d2 fs r' L') (hc : r'.count = d.ops + 1) (he : (r.armed == 1) = false → e = x) :
    Agree (opChange d fs x d1 d2 fs1).1 r' e (r.armed == 1) ∧ Sim (opChange d fs x d1 d2 fs1).2.1 (opChange d fs x d1 d2 fs1).2.2 r' L' := by
  unfold opChange
  by_cases ha : d.armedIn = 1
  · have hb : (r.armed == 1) = true := by rw [h.armed, ha]; rfl
    have hd : rDo r = dOdd d := by unfold rDo; rw [hb, h.odd]; rfl
    rw [if_pos ha]
    refine ⟨.inr ⟨_, rfl, hc.symm, hb⟩, ?_⟩
    cases ho : dOdd d
    · simp only [Bool.false_eq_true, if_false]; exact h2 (by rw [hd, ho])
    · simp only [if_true]; exact h1 (by rw [hd, ho])
  · have hb : (r.armed == 1) = false := by rw [h.armed, beq_eq_false_iff_ne]; exact ha
    have hd : rDo r = true := by unfold rDo; rw [hb]; rfl
    rw [if_neg ha]
    exact ⟨.inl ⟨_, rfl, he hb, hb⟩, h1 hd⟩
theorem Sim.get (h : Sim d fs r L) (ok : FsOk d fs) (n : ByteArray) : fget L n = fget fs n := fget_perm h.perm ok.names n
theorem begin_self (d : Dk) : { d.begin with used := d.begin.used } = d.begin := rfl

theorem rkTrunc (h : RkAt w B G E r L v P) (hs : Sim d fs r L) (ok : FsOk d fs) (nm : ByteArray) (n : Int) (hL : L.length ≤ 100000) (hE : ∀ k, E k → k < w.heap.size) :
    Calls Try.prog 46 #[pR G, .string nm, .int .i64 n] w (RM w B G E v (opTrunc d fs nm n)) := by
  have hg := hs.get ok nm
  rcases fs_split L nm with ⟨h1, _, _⟩ | ⟨A0, f, Q0, hl, hno, h1, _⟩
  · rw [h1] at hg
    unfold opTrunc
    rw [← hg]
    exact (rkTrunc_none h nm hL n h1).mono fun x w' hx => RM.of hx ⟨.inl ⟨6, rfl, rfl, rfl⟩, hs⟩
  · obtain ⟨A1, Q1, hfs, hno1, hg1, hp⟩ := both_split hs.perm ok.names hl hno
    unfold opTrunc
    rw [hg1]
    simp only
    subst hl
    by_cases hb : n < 0 ∨ (f.bs.length : Int) < n
    · rw [if_pos hb]
      exact (rkTrunc_bad h hno hL n hb).mono fun x w' hx => RM.of hx ⟨.inl ⟨3, rfl, rfl, rfl⟩, hs⟩
    · rw [if_neg hb]
      obtain ⟨N, rfl⟩ : ∃ N : Nat, n = (N : Int) := ⟨n.toNat, by omega⟩
      refine (rkTrunc_do h (hs.ok ok) hno hL hE N (by omega)).mono fun x w' hx => RM.of hx ?_
      refine hs.change (fun hd => ?_) (fun hd => ?_) (by show r.count + 1 = _; rw [hs.count]) (fun _ => rfl)
      · unfold cutL
        rw [if_pos hd, hfs, fput_mid hno1]
        exact hs.begin (perm_mid _ hp) (srt_sub hs.srt) _
      · unfold cutL
        rw [hd]
        simp only [Bool.false_eq_true, if_false]
        exact hs.begin0 hs.perm hs.srt
theorem rkRem (h : RkAt w B G E r L v P) (hs : Sim d fs r L) (ok : FsOk d fs) (nm : ByteArray) (hL : L.length ≤ 100000) (hB : B ≤ w.heap.size) (hE : ∀ k, E k → k < w.heap.size) :
    Calls Try.prog 48 #[pR G, .string nm] w (RM w B G E v (opRemove d fs nm)) := by
  have hg := hs.get ok nm
  rcases fs_split L nm with ⟨h1, _, _⟩ | ⟨A0, f, Q0, hl, hno, h1, _⟩
  · rw [h1] at hg
    unfold opRemove
    rw [← hg]
    exact (rkRem_none h nm hL h1).mono fun x w' hx => RM.of hx ⟨.inl ⟨6, rfl, rfl, rfl⟩, hs⟩
  · obtain ⟨A1, Q1, hfs, hno1, hg1, hp⟩ := both_split hs.perm ok.names hl hno
    unfold opRemove
    rw [hg1]
    simp only
    subst hl
    refine (rkRem_do h (hs.ok ok) hno hL hB hE).mono fun x w' hx => RM.of hx ?_
    refine hs.change (fun hd => ?_) (fun hd => ?_) (by show r.count + 1 = _; rw [hs.count]) (fun _ => rfl)
    · unfold remL
      rw [if_pos hd, hfs, fdel_mid hno1]
      exact hs.begin hp (srt_cut hs.srt) _
    · unfold remL
      rw [hd]
      simp only [Bool.false_eq_true, if_false]
      exact hs.begin0 hs.perm hs.srt
theorem Sim.syncs (h : Sim d fs r L) (ok : FsOk d fs) {fs' L' : Fs} (hp : L'.Perm fs') (hs : Srt L') : Sim d.syncs.begin fs' r.begin.fall L' :=
  ⟨h.size, by show r.count + 1 = d.ops + 1; rw [h.count], by show (if r.armed = 0 then 0 else r.armed - 1) = (if d.armedIn = 0 then 0 else d.armedIn - 1); rw [h.armed], h.keep, by
    show (if 0 < r.fail then r.fail - 1 else r.fail) = (if d.failIn = 0 then 0 else d.failIn - 1)
    have := ok.ok.failIn
    rw [h.fail]
    split <;> split <;> omega, hp, hs⟩
theorem rkSync (h : RkAt w B G E r L v P) (hs : Sim d fs r L) (ok : FsOk d fs) (nm : ByteArray) (hL : L.length ≤ 100000) :
    Calls Try.prog 49 #[pR G, .string nm] w (RM w B G E v (opSync d fs nm)) := by
  have hg := hs.get ok nm
  rcases fs_split L nm with ⟨h1, _, _⟩ | ⟨A0, f, Q0, hl, hno, h1, _⟩
  · rw [h1] at hg
    unfold opSync
    rw [← hg]
    exact (rkSync_none h nm hL h1).mono fun x w' hx => RM.of hx ⟨.inl ⟨6, rfl, rfl, rfl⟩, hs⟩
  · obtain ⟨A1, Q1, hfs, hno1, hg1, hp⟩ := both_split hs.perm ok.names hl hno
    unfold opSync
    rw [hg1]
    simp only
    subst hl
    have hff : (d.failIn == 1) = (r.fail == 1) := by rw [hs.fail]
    rw [hff]
    refine (rkSync_do h (hs.ok ok) hno hL).mono fun x w' hx => RM.of hx ?_
    refine hs.change (fun hd => ?_) (fun hd => ?_) (by show r.count + 1 = _; rw [hs.count]) (fun ha => ?_)
    · unfold synL
      cases hb : (r.fail == 1)
      · rw [if_pos ⟨rfl, hd⟩, hfs, fput_mid hno1]
        exact hs.syncs ok (perm_mid _ hp) (srt_sub hs.srt)
      · rw [if_neg (fun h => by cases h.1), hfs, fput_mid hno1]
        exact hs.syncs ok (perm_mid _ hp) hs.srt
    · unfold synL
      rw [if_neg (fun h => by rw [hd] at h; cases h.2)]
      exact hs.syncs ok hs.perm hs.srt
    · unfold synE syncErr
      rw [ha]
      cases hb : (r.fail == 1) <;> rfl
theorem drops_perm {L1 : Fs} {nt : ByteArray} (h : Drops L nt L1) (hp : L.Perm fs) (hn : (fs.map (·.1)).Nodup) (hs : Srt L) : L1.Perm (fdel fs nt) ∧ Srt L1 ∧ (∀ e ∈ L1, e.1 ≠ nt) ∧ ((fdel fs nt).map (·.1)).Nodup := by
  have hnd : ((fdel fs nt).map (·.1)).Nodup := hn.sublist ((fdel_sub fs nt).map _)
  have hnot := fdel_names_not (n := nt) hn
  have key : L1.Perm (fdel fs nt) ∧ Srt L1 := by
    rcases h with ⟨h1, rfl⟩ | ⟨A, f, Q, rfl, hno, rfl⟩
    · rw [fget_perm hp hn] at h1
      rw [fdel_none (fget_not h1)]
      exact ⟨hp, hs⟩
    · obtain ⟨A1, Q1, hfs, hno1, _, hpp⟩ := both_split hp hn rfl hno
      rw [hfs, fdel_mid hno1]
      exact ⟨hpp, srt_cut hs⟩
  exact ⟨key.1, key.2, fun e he e1 => hnot (List.mem_map.2 ⟨e, key.1.mem_iff.1 he, e1⟩), hnd⟩
theorem rkRen (h : RkAt w B G E r L v P) (hs : Sim d fs r L) (ok : FsOk d fs) (nm nt : ByteArray) (hz : nt.size ≤ 140737488355328) (hL : L.length ≤ 100000) (hB : B ≤ w.heap.size) (hE : ∀ k, E k → k < w.heap.size) :
    Calls Try.prog 50 #[pR G, .string nm, .string nt] w (RM w B G E v (opRename d fs nm nt)) := by
  have hg := hs.get ok nm
  cases h1 : fget L nm with
  | none =>
    rw [h1] at hg
    unfold opRename
    rw [← hg]
    exact (rkRen_none h nm nt hL h1).mono fun x w' hx => RM.of hx ⟨.inl ⟨6, rfl, rfl, rfl⟩, hs⟩
  | some f =>
    rw [h1] at hg
    have hne : fget L nm ≠ none := by rw [h1]; simp
    unfold opRename
    rw [← hg]
    simp only
    cases hn : nameD nt
    · rw [if_pos rfl]
      exact (rkRen_name h nm nt hz hL hne hn).mono fun x w' hx => RM.of hx ⟨.inl ⟨16, rfl, rfl, rfl⟩, hs⟩
    · rw [if_neg (by decide)]
      by_cases he : nm = nt
      · rw [if_pos he]
        refine (rkRen_do h (hs.ok ok) nm nt hz hL hne hn hB hE).mono fun x w' hx => ?_
        obtain ⟨L', hp, hx⟩ := hx
        refine RM.of hx ?_
        have hl : L' = L := hp.2 (fun h => h.2 he)
        subst hl
        exact hs.change (fun _ => hs.begin0 hs.perm hs.srt) (fun _ => hs.begin0 hs.perm hs.srt) (by show r.count + 1 = _; rw [hs.count]) (fun _ => rfl)
      · rw [if_neg he]
        refine (rkRen_do h (hs.ok ok) nm nt hz hL hne hn hB hE).mono fun x w' hx => ?_
        obtain ⟨L', hp, hx⟩ := hx
        refine RM.of hx ?_
        refine hs.change (fun hd => ?_) (fun hd => ?_) (by show r.count + 1 = _; rw [hs.count]) (fun _ => rfl)
        · obtain ⟨L1, A, f', Q, hdr, hl1, hno, hpt⟩ := hp.1 ⟨hd, he⟩
          obtain ⟨hp1, hs1, hn1, hnd⟩ := drops_perm hdr hs.perm ok.names hs.srt
          obtain ⟨A1, Q1, hfs, hno1, hg1, hpp⟩ := both_split hp1 hnd hl1 hno
          have hff : f' = f := by
            have h2 := hdr.get he
            rw [h1, hl1, fgetL_mid hno] at h2
            injection h2
          subst hff
          rw [hl1] at hs1
          have hnq : ∀ x ∈ A ++ Q, x.1 ≠ nt := fun x hx => hn1 x (by
            rw [hl1]
            rcases List.mem_append.1 hx with h | h
            · exact List.mem_append_left _ h
            · exact List.mem_append_right _ (List.mem_cons_of_mem _ h))
          obtain ⟨hs2, hp2⟩ := srt_put (srt_cut hs1) hnq hpt
          rw [hfs, fdel_mid hno1]
          refine hs.begin ?_ hs2 _
          exact (hp2.trans (hpp.cons _)).trans (List.perm_append_singleton _ _).symm
        · have hl : L' = L := hp.2 (fun h => by rw [hd] at h; cases h.1)
          subst hl
          exact hs.begin0 hs.perm hs.srt
theorem rkApp (h : RkAt w B G E r L v P) (hs : Sim d fs r L) (ok : FsOk d fs) (nm : ByteArray) (hz : nm.size ≤ 140737488355328) (A : Option Addr) (m c : Nat) (l : List UInt8) (hl : DvX (RF G v) w (.slice A m c) l) (hm : m ≤ 140737488355328) (hL : L.length ≤ 100000) (hB : B ≤ w.heap.size) (hE : ∀ k, E k → k < w.heap.size) :
    Calls Try.prog 47 #[pR G, .string nm, .slice A m c] w (RA w B G E v (appO d fs nm l)) := by
  have hu : (sumB L : Int) = d.used := by rw [sumB_perm hs.perm, ok.tot]
  have hN : appM r (sumB L) l.length = appN d l.length := by
    unfold appM appN
    rw [hs.size, hu]
  have hR : appR r (sumB L) l.length = if d.armedIn = 1 then appK d l.length else appN d l.length := by
    unfold appR appK
    rw [hN, hs.armed, hs.keep]
  unfold appO
  cases hn : nameD nm
  · rw [if_pos rfl]
    refine (rkAppend_name nm hz hn A m c).mono fun x w' hx => ?_
    obtain ⟨rfl, rfl⟩ := hx
    exact ⟨0, 16, false, r, L, v, P, rfl, .inl ⟨16, rfl, rfl, rfl⟩, fun _ => rfl, hs, h, Ch.refl _ _, fun k hk => .inl hk⟩
  · rw [if_neg (by decide)]
    refine (rkAppend h (hs.ok ok) nm hz hn A m c l hl hm hL (by have := ok.ok.used; omega) hB hE).mono fun x w' hx => ?_
    obtain ⟨L', v', P', hat, he, h', hc, hv⟩ := hx
    have key : ∀ N : Nat, appR r (sumB L) l.length = N → ∀ u : Int, Sim { d.begin with used := u } (layF fs nm (l.take N)) r.begin L' := fun N hNN u => by
      obtain ⟨L1, A0, f, Q0, hwhy, hl1, hno, hl'⟩ := hat
      rw [hNN] at hl'
      subst hl'
      unfold layF
      rcases hwhy with ⟨_, rfl⟩ | ⟨hg, hpt⟩
      · obtain ⟨A1, Q1, hfs, hno1, hg1, hp⟩ := both_split hs.perm ok.names hl1 hno
        rw [hg1, hfs, fput_mid hno1]
        have h5 := hs.srt
        rw [hl1] at h5
        exact hs.begin (perm_mid _ hp) (srt_sub h5) _
      · have hgf : fget fs nm = none := by rw [← hs.get ok]; exact hg
        obtain ⟨hs2, hp2⟩ := srt_put hs.srt (fget_not hg) hpt
        have hff : f = ⟨[], 0⟩ := by
          have h5 : (nm, f) ∈ (nm, (⟨[], 0⟩ : Fl)) :: L := hp2.mem_iff.1 (by rw [hl1]; simp)
          rcases List.mem_cons.1 h5 with h5 | h5
          · injection h5
          · exact absurd rfl (fget_not hg _ h5)
        subst hff
        rw [hl1] at hp2 hs2
        have hp3 : (A0 ++ Q0).Perm fs := ((List.perm_middle.symm.trans hp2).cons_inv).trans hs.perm
        rw [hgf, fput_new _ hgf]
        refine hs.begin ?_ (srt_sub hs2) _
        rw [List.nil_append]
        exact (List.perm_middle.trans (hp3.cons _)).trans (List.perm_append_singleton _ _).symm
    rw [hs.armed] at he
    by_cases ha : d.armedIn = 1
    · rw [if_pos ha] at he hR ⊢
      exact ⟨0, 0, true, r.begin, L', v', P', he, .inr ⟨_, rfl, (by show d.ops + 1 = r.count + 1; rw [hs.count]), rfl⟩, (fun h => by cases h), key _ hR _, h', hc, hv⟩
    · rw [if_neg ha] at he hR ⊢
      rw [hR] at he
      exact ⟨_, _, false, r.begin, L', v', P', he, .inl ⟨_, rfl, rfl, rfl⟩, fun _ => rfl, key _ hR _, h', hc, hv⟩
end
end Go.Proofs.Ytolomfdommnklaa
