/- Maps in memory: ranges, in whatever order. No condition. -/
import Derived.Test.YtolomfdommnklaaMaps2
namespace Go.Proofs.Ytolomfdommnklaa
open Go.RowKit Go.MapKept Go.ChangeMaps

/-- iterator I ranges over map M, which reads as L; those of left are still to come -/
def Rng {κ : Type} (kv : κ → Value) (w : World) (M I : Nat) (L left : List (κ × Value)) : Prop :=
  ∃ es clock since seen c0, w.heap[M]? = some (.map es clock) ∧ es.toList.map (fun e => (e.key, e.val)) = L.map (fun p => (kv p.1, p.2)) ∧ (∀ x ∈ es.toList, x.born < clock) ∧ (es.toList.map (·.born)).Nodup ∧
    w.heap[I]? = some (.mapIter (some M) since seen c0) ∧ (∀ x ∈ es.toList, x.born < since) ∧ since ≤ c0 ∧ since ≤ clock ∧ (leftOf es seen).toList.map (fun e => (e.key, e.val)) = left.map (fun p => (kv p.1, p.2))
section
variable {κ : Type} {kv : κ → Value} {w w' : World} {M I : Nat} {L left : List (κ × Value)}
theorem Rng.map (h : Rng kv w M I L left) : MapIs kv w M L := by
  obtain ⟨es, clock, since, seen, c0, h1, h2, h3, h4, _⟩ := h
  exact ⟨es, clock, h1, h2, h3, h4⟩
theorem Rng.lt (h : Rng kv w M I L left) : I < w.heap.size := by
  obtain ⟨es, clock, since, seen, c0, _, _, _, _, h5, _⟩ := h
  exact (Array.getElem?_eq_some_iff.1 h5).1
theorem Rng.ch {S : Nat → Prop} (h : Rng kv w M I L left) (c : Ch S w w') (h1 : ¬ S M) (h2 : ¬ S I) : Rng kv w' M I L left := by
  obtain ⟨es, clock, since, seen, c0, a1, a2, a3, a4, a5, a6⟩ := h
  exact ⟨es, clock, since, seen, c0, c.row a1 h1, a2, a3, a4, c.row a5 h2, a6⟩
theorem Rng.below (h : Rng kv w M I L left) (hb : Below w.heap.size w w') : Rng kv w' M I L left := h.ch (Ch.of_below (S := fun _ => False) hb) (fun h => h) (fun h => h)
/-- an iterator is no cells -/
theorem Rng.ne {g : Nat} {c : Array Value} {t : TypeId} {f : Nat × Nat} (h : Rng kv w M I L left) (hg : w.heap[g]? = some (.cells c t f)) : I ≠ g := fun e => by
  obtain ⟨es, clock, since, seen, c0, _, _, _, _, a5, _⟩ := h
  rw [e, hg] at a5
  cases a5
theorem Rng.neM {M2 : Nat} {κ2 : Type} {kv2 : κ2 → Value} {L2 : List (κ2 × Value)} (h : Rng kv w M I L left) (hm : MapIs kv2 w M2 L2) : I ≠ M2 := fun e => by
  obtain ⟨es, clock, since, seen, c0, _, _, _, _, a5, _⟩ := h
  obtain ⟨es2, clock2, hb, _⟩ := hm
  rw [e, hb] at a5
  cases a5
theorem filter_born {pre post : List MapEntry} {e : MapEntry} (h : ((pre ++ e :: post).map (·.born)).Nodup) : (pre ++ e :: post).filter (fun x => x.born != e.born) = pre ++ post := by
  rw [List.map_append, List.map_cons, List.nodup_append] at h
  obtain ⟨_, h2, h3⟩ := h
  rw [List.nodup_cons] at h2
  have h1 : pre.filter (fun x => x.born != e.born) = pre := List.filter_eq_self.2 (fun x hx => by
    have := h3 x.born (List.mem_map.2 ⟨x, hx, rfl⟩) e.born (by simp)
    simpa using this)
  have h4 : post.filter (fun x => x.born != e.born) = post := List.filter_eq_self.2 (fun x hx => by
    have : e.born ≠ x.born := fun he => h2.1 (by rw [he]; exact List.mem_map.2 ⟨x, hx, rfl⟩)
    simpa using this.symm)
  rw [List.filter_append, h1, List.filter_cons, h4]
  simp
theorem map_split {α β : Type} (f : α → β) : ∀ (pre : List β) (e : β) (post : List β) (l : List α), l.map f = pre ++ e :: post → ∃ lp x lq, l = lp ++ x :: lq ∧ lp.map f = pre ∧ f x = e ∧ lq.map f = post
  | [], e, post, [], h => by simp at h
  | [], e, post, a :: l, h => by
    simp only [List.map_cons, List.nil_append, List.cons.injEq] at h
    exact ⟨[], a, l, rfl, rfl, h.1, h.2⟩
  | p :: pre, e, post, [], h => by simp at h
  | p :: pre, e, post, a :: l, h => by
    simp only [List.map_cons, List.cons_append, List.cons.injEq] at h
    obtain ⟨lp, x, lq, h1, h2, h3, h4⟩ := map_split f pre e post l h.2
    exact ⟨a :: lp, x, lq, by rw [h1]; rfl, by simp [h.1, h2], h3, h4⟩
theorem run_rangeL {P : Program} {k e T : TypeId} (ht : P.underlying T = some (.map k e)) (h : MapIs kv w M L) :
    ∃ w', (Instr.range T (.map (some M))).run P w = .ok (.pointer (some ⟨w.heap.size, 0, none⟩)) w' ∧ Rng kv w' M w.heap.size L L ∧ Below w.heap.size w w' ∧ w'.heap.size = w.heap.size + 1 := by
  obtain ⟨es, clock, hb, h1, h2, h3⟩ := h
  have hbl : Below w.heap.size w (w.alloc (.mapIter (some M) clock #[] clock)) := (Below.refl _ _).alloc (Nat.le_refl _) _
  refine ⟨w.alloc (.mapIter (some M) clock #[] clock), ?_, ⟨es, clock, clock, #[], clock, (hbl.block M (Array.getElem?_eq_some_iff.1 hb).1).trans hb, h1, h2, h3, heap_alloc_new w _, h2, Nat.le_refl _, Nat.le_refl _, ?_⟩, hbl, by simp⟩
  · unfold Instr.range
    simp [Sem.run_bind, run_underlying ht, Result.andThen_ok, Go.MapKept.run_getObj_map hb, newObj, Sem.run]
  · rw [← h1]
    unfold leftOf
    rw [Array.toList_filter, List.filter_eq_self.2 (fun _ _ => by simp)]
theorem run_nextL {P : Program} (ty : TypeId) (h : Rng kv w M I L left) :
    (left = [] ∧ (Instr.next (.pointer (some ⟨I, 0, none⟩)) false ty).run P w = .ok (.tuple #[.bool false]) w) ∨
    ∃ lp key v lq w', left = lp ++ (key, v) :: lq ∧ (Instr.next (.pointer (some ⟨I, 0, none⟩)) false ty).run P w = .ok (.tuple #[.bool true, kv key, v]) w' ∧ Rng kv w' M I L (lp ++ lq) ∧ Ch (fun j => j = I) w w' ∧ w'.heap.size = w.heap.size ∧
      (Instr.entry (.pointer (some ⟨I, 0, none⟩))).run P w' = .ok (.tuple #[kv key, v]) w' := by
  obtain ⟨es, clock, since, seen, c0, a1, a2, a3, a4, a5, a6, a7, a9, a8⟩ := h
  rcases run_next_at (P := P) w ty I M since c0 seen es clock a5 a1 a6 a7 with ⟨h0, hrun⟩ | ⟨e, he, w1, hw1, hrun⟩
  · left
    refine ⟨?_, hrun⟩
    have : left.length = 0 := by
      have := congrArg List.length a8
      simp only [List.length_map] at this
      rw [← this]
      simpa using h0
    exact List.eq_nil_of_length_eq_zero this
  · right
    obtain ⟨pre, post, hpp⟩ := List.append_of_mem he
    have hm : left.map (fun p => (kv p.1, p.2)) = pre.map (fun e => (e.key, e.val)) ++ (e.key, e.val) :: post.map (fun e => (e.key, e.val)) := by rw [← a8, hpp]; simp
    obtain ⟨lp, ⟨key, v⟩, lq, h1, h2, h3, h4⟩ := map_split (fun p : κ × Value => (kv p.1, p.2)) _ _ _ left hm
    simp only [Prod.mk.injEq] at h3
    have hes : e ∈ es.toList := by
      unfold leftOf at he
      simp at he
      simpa using he.1
    have hsub : ((pre ++ e :: post).map (·.born)).Nodup := by
      rw [← hpp]
      unfold leftOf
      rw [Array.toList_filter]
      exact a4.sublist ((List.filter_sublist).map _)
    have hleft : (leftOf es (seen.push e.born)).toList = pre ++ post := by
      rw [← filter_born hsub, ← hpp]
      unfold leftOf
      rw [Array.toList_filter, Array.toList_filter, List.filter_filter]
      apply List.filter_congr
      intro x _
      simp only [Array.contains_push]
      cases hx : seen.contains x.born <;> simp [bne]
    have hI1 : w1.heap[I]? = some (.mapIter (some M) since seen c0) := by rcases hw1 with rfl | rfl <;> exact a5
    have hM1 : w1.heap[M]? = some (.map es clock) := by rcases hw1 with rfl | rfl <;> exact a1
    have hIM : M ≠ I := fun e => by rw [e, a5] at a1; cases a1
    have hset := heap_set (o' := Obj.mapIter (some M) since (seen.push e.born) clock) hI1
    have hM2 : (setBlock w1 I (.mapIter (some M) since (seen.push e.born) clock)).heap[M]? = some (.map es clock) := (hset.2 M hIM).trans hM1
    have hI2 : (setBlock w1 I (.mapIter (some M) since (seen.push e.born) clock)).heap[I]? = some (.mapIter (some M) since (seen.push e.born) clock) := hset.1
    refine ⟨lp, key, v, lq, setBlock w1 I (.mapIter (some M) since (seen.push e.born) clock), h1, ?_, ⟨es, clock, since, seen.push e.born, clock, hM2, a2, a3, a4, hI2, a6, a9, a9, ?_⟩, ?_, ?_, ?_⟩
    · rw [hrun, h3.1, h3.2]
    · rw [hleft]; simp [h2, h4]
    · have h5 : Ch (fun j => j = I) w1 (setBlock w1 I (.mapIter (some M) since (seen.push e.born) clock)) := ⟨rfl, rfl, rfl, by simp [setBlock], fun j _ hj => hset.2 j hj⟩
      rcases hw1 with rfl | rfl
      · exact h5
      · exact ⟨h5.os, h5.tape, h5.output, h5.size, h5.block⟩
    · rcases hw1 with rfl | rfl <;> simp [setBlock]
    · rw [h3.1, h3.2]
      exact run_entry_at _ I M since seen es clock e hI2 hM2 hes a4
/-- how many are still to come -/
def rngLeft (M I : Nat) (w : World) : Nat :=
  match w.heap[M]?, w.heap[I]? with
  | some (.map es _), some (.mapIter _ _ seen _) => (leftOf es seen).size
  | _, _ => 0
theorem Rng.left_eq (h : Rng kv w M I L left) : rngLeft M I w = left.length := by
  obtain ⟨es, clock, since, seen, c0, a1, _, _, _, a5, _, _, _, a8⟩ := h
  unfold rngLeft
  rw [a1, a5]
  have := congrArg List.length a8
  simpa using this
theorem wpList_rangeL {P : Program} {ops : Array Oper} {rest : List Oper} {o : Oper} {a : Act} {Q : Exit → Act → World → Prop} {k e : TypeId} (hg : o.guard = none) (m : Operand) (T : TypeId) (hop : o.op = Op.range T m) (ht : P.underlying T = some (.map k e)) (M : Nat) (L : List (κ × Value)) (hm : a.eval m = .map (some M)) (h : MapIs kv w M L)
    (hK : ∀ w', Rng kv w' M w.heap.size L L → Below w.heap.size w w' → w'.heap.size = w.heap.size + 1 → wpList P ops Q rest (a.put o.dst (.pointer (some ⟨w.heap.size, 0, none⟩))) w') : wpList P ops Q (o :: rest) a w := by
  refine wpList_plain hg fun K' hK' => ?_
  obtain ⟨w', hrun, r1, r2, r3⟩ := run_rangeL ht h
  unfold Oper.wp
  simp only [execOp, hop, hm, Sem.run_bind, hrun, Result.andThen_ok, Sem.run_pure]
  exact hK' _ _ (hK w' r1 r2 r3)
theorem wpList_nextL {P : Program} {ops : Array Oper} {rest : List Oper} {o : Oper} {a : Act} {Q : Exit → Act → World → Prop} (hg : o.guard = none) (it : Operand) (hop : o.op = Op.next it false) (M I : Nat) (L left : List (κ × Value)) (hit : a.eval it = .pointer (some ⟨I, 0, none⟩)) (h : Rng kv w M I L left)
    (hDone : left = [] → wpList P ops Q rest (a.put o.dst (.tuple #[.bool false])) w)
    (hMore : ∀ lp key v lq w', left = lp ++ (key, v) :: lq → Rng kv w' M I L (lp ++ lq) → Ch (fun j => j = I) w w' → w'.heap.size = w.heap.size → (Instr.entry (.pointer (some ⟨I, 0, none⟩))).run P w' = .ok (.tuple #[kv key, v]) w' → wpList P ops Q rest (a.put o.dst (.tuple #[.bool true, kv key, v])) w') : wpList P ops Q (o :: rest) a w := by
  refine wpList_plain hg fun K' hK' => ?_
  unfold Oper.wp
  rcases run_nextL (P := P) o.type h with ⟨h0, hrun⟩ | ⟨lp, key, v, lq, w', h1, hrun, h2, h3, h4, h5⟩
  · simp only [execOp, hop, hit, Sem.run_bind, hrun, Result.andThen_ok, Sem.run_pure]
    exact hK' _ _ (hDone h0)
  · simp only [execOp, hop, hit, Sem.run_bind, hrun, Result.andThen_ok, Sem.run_pure]
    exact hK' _ _ (hMore lp key v lq w' h1 h2 h3 h4 h5)
theorem wpList_nextL0 {P : Program} {ops : Array Oper} {rest : List Oper} {o : Oper} {a : Act} {Q : Exit → Act → World → Prop} (hg : o.guard = none) (it : Operand) (hop : o.op = Op.next it false) (M I : Nat) (L : List (κ × Value)) (hit : a.eval it = .pointer (some ⟨I, 0, none⟩)) (h : Rng kv w M I L [])
    (hK : wpList P ops Q rest (a.put o.dst (.tuple #[.bool false])) w) : wpList P ops Q (o :: rest) a w :=
  wpList_nextL hg it hop M I L [] hit h (fun _ => hK) (fun lp key v lq w' h1 => by simp at h1)
theorem wpList_nextL1 {P : Program} {ops : Array Oper} {rest : List Oper} {o : Oper} {a : Act} {Q : Exit → Act → World → Prop} (hg : o.guard = none) (it : Operand) (hop : o.op = Op.next it false) (M I : Nat) (L left : List (κ × Value)) (hit : a.eval it = .pointer (some ⟨I, 0, none⟩)) (h : Rng kv w M I L left) (hne : left ≠ [])
    (hMore : ∀ lp key v lq w', left = lp ++ (key, v) :: lq → Rng kv w' M I L (lp ++ lq) → Ch (fun j => j = I) w w' → w'.heap.size = w.heap.size → (Instr.entry (.pointer (some ⟨I, 0, none⟩))).run P w' = .ok (.tuple #[kv key, v]) w' → wpList P ops Q rest (a.put o.dst (.tuple #[.bool true, kv key, v])) w') : wpList P ops Q (o :: rest) a w :=
  wpList_nextL hg it hop M I L left hit h (fun h0 => absurd h0 hne) hMore
theorem step_updateL {P : Program} {ops : Array Oper} {o : Oper} {a : Act} {K' : Act → World → Prop} {Q : Exit → Act → World → Prop} {E : Prop} {k : TypeId} [DecidableEq κ] (hg : o.guard = none) (K : KeyK P k κ kv) (m x v : Operand) (T e : TypeId) (hop : o.op = Op.mapUpdate T m x v) (ht : P.underlying T = some (.map k e)) (M : Nat) (L : List (κ × Value)) (hm : a.eval m = .map (some M)) (h : MapIs kv w M L) (key : κ) (hx : a.eval x = kv key) (u : Value) (hv : a.eval v = u)
    (hK : ∀ w', MapIs kv w' M (aset L key u) → Ch (fun j => j = M) w w' → w'.heap.size = w.heap.size → K' (a.put o.dst undef) w') : if Region.wanted o (yielded ops a.tmps) = true then Oper.wp P o a w K' Q else E := by
  have hw : Region.wanted o (yielded ops a.tmps) = true := by simp [Region.wanted, hg]
  rw [if_pos hw]
  obtain ⟨w', hrun, h1, h2, h3⟩ := run_updateL K T e ht w M L h key u
  unfold Oper.wp
  simp only [execOp, hop, hm, hx, hv, Sem.run_bind, hrun, Result.andThen_ok, Sem.run_pure]
  exact hK w' h1 h2 h3
end
end Go.Proofs.Ytolomfdommnklaa
