/- Maps in memory, as lists of keys and values: look-up, store, delete, range. No condition. -/
import Derived.Test.YtolomfdommnklaaRowsG0
import Derived.MapKept
import Derived.Maps.RangeRun
import Derived.Maps.OwnOps
namespace Go.Proofs.Ytolomfdommnklaa
open Go.RowKit Go.MapKept

/-- keys of one kind -/
structure KeyK (P : Program) (k : TypeId) (κ : Type) [DecidableEq κ] (kv : κ → Value) where
  d : TypeDesc
  und : P.underlying k = some d
  key : ∀ a, IsKey d (kv a)
  same : ∀ a b, Instr.sameNow d (kv a) (kv b) = some (decide (a = b))
  bits : ∀ a, Instr.sameBits 10000 (kv a) (kv a) = true
noncomputable def keyString {P : Program} {k : TypeId} (h : P.underlying k = some .string) : KeyK P k ByteArray .string :=
  ⟨.string, h, fun _ => trivial, fun a b => by simp only [Instr.sameNow, Option.some.injEq]; rw [Bool.eq_iff_iff, bytes_beq, decide_eq_true_iff], fun a => by simp only [Instr.sameBits]; exact (bytes_beq a a).2 rfl⟩
noncomputable def keyByte {P : Program} {k : TypeId} (h : P.underlying k = some (.int .u8)) : KeyK P k UInt8 u8 :=
  ⟨.int .u8, h, fun _ => rfl, fun a b => by
    simp only [Instr.sameNow, if_true, Option.some.injEq]
    rw [Bool.eq_iff_iff]
    simp [← UInt8.toNat_inj]
    omega, fun a => by simp [Instr.sameBits]⟩

theorem modify_at {α : Type} (f : α → α) : ∀ (l : List α) (j : Nat) (h : j < l.length), l.modify j f = l.set j (f l[j])
  | _ :: _, 0, _ => rfl
  | a :: l, j + 1, h => by
    have := modify_at f l j (by simpa using h)
    simp [this]
/-- the list's words -/
def aget {κ : Type} [DecidableEq κ] : List (κ × Value) → κ → Option Value
  | [], _ => none
  | (a, v) :: r, k => if k = a then some v else aget r k
def aidx {κ : Type} [DecidableEq κ] : List (κ × Value) → κ → Option Nat
  | [], _ => none
  | (a, _) :: r, k => if k = a then some 0 else (aidx r k).map (· + 1)
def aset {κ : Type} [DecidableEq κ] : List (κ × Value) → κ → Value → List (κ × Value)
  | [], k, v => [(k, v)]
  | (a, u) :: r, k, v => if k = a then (k, v) :: r else (a, u) :: aset r k v
def adel {κ : Type} [DecidableEq κ] : List (κ × Value) → κ → List (κ × Value)
  | [], _ => []
  | (a, u) :: r, k => if k = a then r else (a, u) :: adel r k

/-- block M is a map that reads as L -/
def MapIs {κ : Type} (kv : κ → Value) (w : World) (M : Nat) (L : List (κ × Value)) : Prop :=
  ∃ es clock, w.heap[M]? = some (.map es clock) ∧ es.toList.map (fun e => (e.key, e.val)) = L.map (fun p => (kv p.1, p.2)) ∧ (∀ x ∈ es.toList, x.born < clock) ∧ (es.toList.map (·.born)).Nodup

section
variable {P : Program} {k : TypeId} {κ : Type} [DecidableEq κ] {kv : κ → Value}
theorem findNow_list (K : KeyK P k κ kv) (x : κ) : ∀ (es : List MapEntry) (L : List (κ × Value)) (i : Nat), es.map (fun e => (e.key, e.val)) = L.map (fun p => (kv p.1, p.2)) →
    Instr.findNow K.d (kv x) es i = some (match aidx L x, aget L x with | some j, some v => some (i + j, v) | _, _ => none)
  | [], [], _, _ => rfl
  | [], _ :: _, _, h => by cases h
  | _ :: _, [], _, h => by cases h
  | e :: es, (a, v) :: L, i, h => by
    simp only [List.map_cons, List.cons.injEq, Prod.mk.injEq] at h
    obtain ⟨⟨h1, h2⟩, h3⟩ := h
    rw [Instr.findNow, h1, K.same]
    by_cases hx : x = a
    · simp [hx, aidx, aget, h2]
    · have ih := findNow_list K x es L (i + 1) h3
      simp only [hx, decide_false, aidx, aget, if_false, ih]
      cases aidx L x <;> cases aget L x <;> simp
      omega
theorem aidx_aget (L : List (κ × Value)) (x : κ) : (aidx L x = none ↔ aget L x = none) := by
  induction L with
  | nil => simp [aidx, aget]
  | cons p r ih =>
    obtain ⟨a, v⟩ := p
    by_cases h : x = a
    · simp [aidx, aget, h]
    · simp [aidx, aget, h, ih]
theorem run_find (K : KeyK P k κ kv) (w : World) (x : κ) (es : List MapEntry) (L : List (κ × Value)) (h : es.map (fun e => (e.key, e.val)) = L.map (fun p => (kv p.1, p.2))) :
    (Instr.findKey k (kv x) es).run P w = .ok (match aidx L x, aget L x with | some j, some v => some (j, v) | _, _ => none) w := by
  have := findNow_list K x es L 0 h
  simp only [Nat.zero_add] at this
  exact run_findKey K.und this
/-- 'm[x]' -/
theorem run_lookupL (K : KeyK P k κ kv) (T e : TypeId) (ht : P.underlying T = some (.map k e)) (w : World) (M : Nat) (L : List (κ × Value)) (h : MapIs kv w M L) (x : κ) (z : Value) (hz : (zeroValue e).run P w = .ok z w) (ok : Bool) :
    (Instr.lookup T (.map (some M)) (kv x) ok).run P w = .ok (if ok then .tuple #[(aget L x).getD z, .bool (aget L x).isSome] else (aget L x).getD z) w := by
  obtain ⟨es, clock, hb, hL, _, _⟩ := h
  have hf := run_find K w x es.toList L hL
  have hc : (Instr.checkKey es.isEmpty 10000 k (kv x)).run P w = .ok () w := run_checkKey (w := w) (e := es.isEmpty) (n := 9999) K.und (K.key x)
  unfold Instr.lookup
  simp only [Sem.run_bind, run_underlying ht, Result.andThen_ok, Go.MapKept.run_getObj_map hb, Sem.run_pure, hc, hf]
  have ha := aidx_aget L x
  cases h1 : aidx L x with
  | none =>
    have h2 := ha.1 h1
    simp [h2, hz, Result.andThen]
  | some j =>
    cases h2 : aget L x with
    | none => rw [ha.2 h2] at h1; cases h1
    | some v => simp
/-- block M anew -/
abbrev reblock (w : World) (M : Nat) (o : Obj) : World := { w with heap := w.heap.setIfInBounds M o }
theorem reblock_row {w : World} {M : Nat} {o o' : Obj} (h : w.heap[M]? = some o) : (reblock w M o').heap[M]? = some o' := (heap_set h).1
theorem reblock_ch {w : World} {M : Nat} {o o' : Obj} (h : w.heap[M]? = some o) : Ch (fun j => j = M) w (reblock w M o') :=
  ⟨rfl, rfl, rfl, by simp, fun j _ hj => (heap_set h).2 j hj⟩
theorem reblock_size (w : World) (M : Nat) (o : Obj) : (reblock w M o).heap.size = w.heap.size := by simp

theorem aidx_set (L : List (κ × Value)) (x : κ) (v : Value) : (∀ j, aidx L x = some j → j < L.length ∧ (L.map (fun p => (kv p.1, p.2))).set j (kv x, v) = (aset L x v).map (fun p => (kv p.1, p.2))) ∧ (aidx L x = none → aset L x v = L ++ [(x, v)]) := by
  induction L with
  | nil => exact ⟨fun j h => by simp [aidx] at h, fun _ => rfl⟩
  | cons p r ih =>
    obtain ⟨a, u⟩ := p
    by_cases h : x = a
    · refine ⟨fun j hj => ?_, fun hj => by simp [aidx, h] at hj⟩
      simp only [aidx, h, if_true, Option.some.injEq] at hj
      subst hj
      simp [aset, h]
    · refine ⟨fun j hj => ?_, fun hj => ?_⟩
      · simp only [aidx, h, if_false, Option.map_eq_some_iff] at hj
        obtain ⟨i, hi, rfl⟩ := hj
        obtain ⟨h1, h2⟩ := ih.1 i hi
        exact ⟨by simp; omega, by simp [aset, h, h2]⟩
      · simp only [aidx, h, if_false, Option.map_eq_none_iff] at hj
        simp [aset, h, ih.2 hj]
theorem aidx_del (L : List (κ × Value)) (x : κ) : (∀ j, aidx L x = some j → (L.map (fun p => (kv p.1, p.2))).eraseIdx j = (adel L x).map (fun p => (kv p.1, p.2))) ∧ (aidx L x = none → adel L x = L) := by
  induction L with
  | nil => exact ⟨fun j h => by simp [aidx] at h, fun _ => rfl⟩
  | cons p r ih =>
    obtain ⟨a, u⟩ := p
    by_cases h : x = a
    · refine ⟨fun j hj => ?_, fun hj => by simp [aidx, h] at hj⟩
      simp only [aidx, h, if_true, Option.some.injEq] at hj
      subst hj
      simp [adel, h]
    · refine ⟨fun j hj => ?_, fun hj => ?_⟩
      · simp only [aidx, h, if_false, Option.map_eq_some_iff] at hj
        obtain ⟨i, hi, rfl⟩ := hj
        simp [adel, h, ih.1 i hi]
      · simp only [aidx, h, if_false, Option.map_eq_none_iff] at hj
        simp [adel, h, ih.2 hj]
/-- 'm[x] = v' -/
theorem run_updateL (K : KeyK P k κ kv) (T e : TypeId) (ht : P.underlying T = some (.map k e)) (w : World) (M : Nat) (L : List (κ × Value)) (h : MapIs kv w M L) (x : κ) (v : Value) :
    ∃ w', (Instr.mapUpdate T (.map (some M)) (kv x) v).run P w = .ok () w' ∧ MapIs kv w' M (aset L x v) ∧ Ch (fun j => j = M) w w' ∧ w'.heap.size = w.heap.size := by
  obtain ⟨es, clock, hb, hL, hbo, hnd⟩ := h
  have hf := run_find K w x es.toList L hL
  have hc : (Instr.checkKey false 10000 k (kv x)).run P w = .ok () w := run_checkKey (w := w) (e := false) (n := 9999) K.und (K.key x)
  have hs := aidx_set (kv := kv) L x v
  have hlen : es.toList.length = L.length := by have := congrArg List.length hL; simpa using this
  have ha := aidx_aget L x
  cases h1 : aidx L x with
  | none =>
    have h2 := ha.1 h1
    rw [h1] at hf
    refine ⟨reblock w M (.map (es.push { key := kv x, val := v, born := clock }) (clock + 1)), ?_, ⟨_, _, reblock_row hb, ?_, ?_, ?_⟩, reblock_ch hb, reblock_size _ _ _⟩
    · unfold Instr.mapUpdate
      simp only [Sem.run_bind, run_underlying ht, Result.andThen_ok, Go.MapKept.run_getObj_map hb, hc, hf]
      exact Go.MapKept.run_setObj_map _ hb
    · rw [hs.2 h1]
      simp [hL]
    · intro y hy
      simp only [Array.toList_push, List.mem_append, List.mem_singleton] at hy
      rcases hy with hy | rfl
      · have := hbo y hy; omega
      · exact Nat.lt_succ_self _
    · simp only [Array.toList_push, List.map_append, List.map_cons, List.map_nil]
      rw [List.nodup_append]
      refine ⟨hnd, by simp, fun a hm b hb' => ?_⟩
      obtain ⟨y, hy, rfl⟩ := List.mem_map.1 hm
      simp only [List.mem_singleton] at hb'
      have := hbo y hy
      omega
  | some j =>
    cases h2 : aget L x with
    | none => rw [ha.2 h2] at h1; cases h1
    | some u =>
      rw [h1, h2] at hf
      obtain ⟨hj, hset⟩ := hs.1 j h1
      have hjs : j < es.size := by have : es.size = es.toList.length := by simp
                                   omega
      have hkey : ((es[j]?).map (·.key)).getD (kv x) = kv x := by
        have e1 : (es.toList.map (fun e => (e.key, e.val)))[j]? = (L.map (fun p => (kv p.1, p.2)))[j]? := by rw [hL]
        rw [List.getElem?_map, List.getElem?_map] at e1
        have e2 : es.toList[j]? = es[j]? := by simp
        rw [e2, Array.getElem?_eq_getElem hjs] at e1
        have e3 : ∀ (L : List (κ × Value)) (j : Nat), aidx L x = some j → ∃ u, L[j]? = some (x, u) := by
          intro L
          induction L with
          | nil => intro j h; simp [aidx] at h
          | cons p r ih =>
            intro j h
            obtain ⟨a, u⟩ := p
            by_cases hx : x = a
            · simp only [aidx, hx, if_true, Option.some.injEq] at h
              subst h
              exact ⟨u, by simp [hx]⟩
            · simp only [aidx, hx, if_false, Option.map_eq_some_iff] at h
              obtain ⟨i, hi, rfl⟩ := h
              obtain ⟨u', hu⟩ := ih i hi
              exact ⟨u', by simpa using hu⟩
        obtain ⟨u', hu⟩ := e3 L j h1
        rw [hu] at e1
        simp only [Option.map_some, Option.some.injEq, Prod.mk.injEq] at e1
        rw [Array.getElem?_eq_getElem hjs]
        simp [e1.1]
      have hks : (Instr.keyThatStays (kv x) (kv x)).run P w = .ok (kv x) w := by unfold Instr.keyThatStays; rw [if_pos (K.bits x)]; rfl
      refine ⟨reblock w M (.map (es.modify j fun e => { e with key := kv x, val := v }) clock), ?_, ⟨_, _, reblock_row hb, ?_, ?_, ?_⟩, reblock_ch hb, reblock_size _ _ _⟩
      · unfold Instr.mapUpdate
        simp only [Sem.run_bind, run_underlying ht, Result.andThen_ok, Go.MapKept.run_getObj_map hb, hc, hf, hkey, hks]
        exact Go.MapKept.run_setObj_map _ hb
      · rw [← hset, ← hL]
        rw [Array.toList_modify, modify_at _ _ _ (by simpa using hjs)]
        simp [List.map_set]
      · intro y hy
        rw [Array.toList_modify, modify_at _ _ _ (by simpa using hjs)] at hy
        rcases List.mem_or_eq_of_mem_set hy with hy | rfl
        · exact hbo y hy
        · exact hbo es.toList[j] (List.getElem_mem _)
      · rw [Array.toList_modify, modify_at _ _ _ (by simpa using hjs)]
        simp only [List.map_set]
        have e3 : (es.toList.map (·.born)).set j es.toList[j].born = es.toList.map (·.born) := by
          apply List.ext_getElem (by simp)
          intro i h3 h4
          rw [List.getElem_set]
          split
          · subst j; simp
          · rfl
        rw [e3]
        exact hnd
/-- 'delete(m, x)' -/
theorem run_deleteL (K : KeyK P k κ kv) (T e ty : TypeId) (ht : P.underlying T = some (.map k e)) (w : World) (M : Nat) (L : List (κ × Value)) (h : MapIs kv w M L) (x : κ) :
    ∃ w', (Builtin.delete_ #[T, k] ty #[.map (some M), kv x]).run P w = .ok (.tuple #[]) w' ∧ MapIs kv w' M (adel L x) ∧ Ch (fun j => j = M) w w' ∧ w'.heap.size = w.heap.size := by
  obtain ⟨es, clock, hb, hL, hbo, hnd⟩ := h
  have hf := run_find K w x es.toList L hL
  have hc : (Instr.checkKey es.isEmpty 10000 k (kv x)).run P w = .ok () w := run_checkKey (w := w) (e := es.isEmpty) (n := 9999) K.und (K.key x)
  have hs := aidx_del (kv := kv) L x
  have ha := aidx_aget L x
  cases h1 : aidx L x with
  | none =>
    have h2 := ha.1 h1
    rw [h1] at hf
    refine ⟨reblock w M (.map es clock), ?_, ⟨_, _, reblock_row hb, by rw [hs.2 h1]; exact hL, hbo, hnd⟩, reblock_ch hb, reblock_size _ _ _⟩
    unfold Builtin.delete_
    simp [Sem.run_bind, run_underlying ht, Result.andThen_ok, Go.MapKept.run_getObj_map hb, hc, hf, Go.MapKept.run_setObj_map _ hb]
  | some j =>
    cases h2 : aget L x with
    | none => rw [ha.2 h2] at h1; cases h1
    | some u =>
      rw [h1, h2] at hf
      refine ⟨reblock w M (.map (es.eraseIdxIfInBounds j) clock), ?_, ⟨_, _, reblock_row hb, ?_, ?_, ?_⟩, reblock_ch hb, reblock_size _ _ _⟩
      · unfold Builtin.delete_
        simp [Sem.run_bind, run_underlying ht, Result.andThen_ok, Go.MapKept.run_getObj_map hb, hc, hf, Go.MapKept.run_setObj_map _ hb]
      · rw [Array.toList_eraseIdxIfInBounds, ← hs.1 j h1, ← hL, Go.ChangeMaps.map_eraseIdx]
      · intro y hy
        rw [Array.toList_eraseIdxIfInBounds] at hy
        exact hbo y (List.mem_of_mem_eraseIdx hy)
      · rw [Array.toList_eraseIdxIfInBounds, Go.ChangeMaps.map_eraseIdx]
        exact hnd.sublist (List.eraseIdx_sublist _ _)
end
end Go.Proofs.Ytolomfdommnklaa
