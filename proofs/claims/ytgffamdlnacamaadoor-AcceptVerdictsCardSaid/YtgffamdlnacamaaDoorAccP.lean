/- Laid together: HeldMore, Maps, Maps2, AccM, Acc1, Acc2, Acc3. -/
import Derived.Test.YtgffamdlnacamaaDoorLater
import Derived.Deep.RegionHeld3
import Derived.Test.YtgffamdlnacamaaDoorRowsG0
import Derived.MapKept
import Derived.Maps.RangeRun
import Derived.Maps.OwnOps
import Derived.Maps.RangeWalk
import Derived.Test.YtgffamdlnacamaaDoorAckP
import Derived.Test.YtgffamdlnacamaaDoorMshOneM
import Derived.Test.YtgffamdlnacamaaDoorFrame
import Derived.Test.YtgffamdlnacamaaDoorHdRow
import Derived.Test.YtgffamdlnacamaaDoorFrame2
import Derived.Test.YtgffamdlnacamaaDoorFrameWrapA
import Derived.Test.YtgffamdlnacamaaDoorCrcLit
import Derived.Test.YtgffamdlnacamaaDoorHdEq

/- A region that draws its order: what holds behind each operation may be said anew. No condition. -/
namespace Go.Proofs.YtgffamdlnacamaaDoor
open Go.RowKit

theorem wpAnyH_imp {P : Program} {md : Region.Mode} {ops : Array Oper} {Q : Exit → Act → World → Prop} {S S' : World → Prop} (h : ∀ w, S' w → S w) : ∀ (fuel : Nat) (listed : Array Bool) (a : Act) (w : World), wpAnyH P md ops Q S' fuel listed a w → wpAnyH P md ops Q S fuel listed a w
  | 0, _, _, _, hh => hh
  | fuel + 1, _, _, _, hh => ⟨hh.1, fun i hi => wpOp_mono (fun a' w' h' => ⟨h _ h'.1, wpAnyH_imp h fuel _ a' w' h'.2⟩) (hh.2 i hi)⟩
end Go.Proofs.YtgffamdlnacamaaDoor

/- Maps in memory, as lists of keys and values: look-up, store, delete, range. No condition. -/
namespace Go.Proofs.YtgffamdlnacamaaDoor
open Go.RowKit Go.MapKept

/-- keys of one kind -/
structure KeyK (P : Program) (k : TypeId) (κ : Type) [DecidableEq κ] (kv : κ → Value) where
  d : TypeDesc
  und : P.underlying k = some d
  key : ∀ a, IsKey d (kv a)
  same : ∀ a b, Instr.sameNow d (kv a) (kv b) = some (decide (a = b))
  bits : ∀ a, Instr.sameBits 10000 (kv a) (kv a) = true
noncomputable def keyString {P : Program} {k : TypeId} (h : P.underlying k = some .string) : KeyK P k ByteArray .string :=
  ⟨.string, h, fun _ => trivial, fun a b => by simp only [Instr.sameNow, Option.some.injEq]; rw [Bool.eq_iff_iff, bytes_beq, decide_eq_true_iff], fun a => by simp only [Instr.sameBits]; exact (bytes_beq a a).2 rfl⟩
noncomputable def keyByte {P : Program} {k : TypeId} (h : P.underlying k = some (.int .u8)) : KeyK P k UInt8 u8 :=
  ⟨.int .u8, h, fun _ => rfl, fun a b => by
    simp only [Instr.sameNow, if_true, Option.some.injEq]
    rw [Bool.eq_iff_iff]
    simp [← UInt8.toNat_inj]
    omega, fun a => by simp [Instr.sameBits]⟩

theorem modify_at {α : Type} (f : α → α) : ∀ (l : List α) (j : Nat) (h : j < l.length), l.modify j f = l.set j (f l[j])
  | _ :: _, 0, _ => rfl
  | a :: l, j + 1, h => by
    have := modify_at f l j (by simpa using h)
    simp [this]
/-- the list's words -/
def aget {κ : Type} [DecidableEq κ] : List (κ × Value) → κ → Option Value
  | [], _ => none
  | (a, v) :: r, k => if k = a then some v else aget r k
def aidx {κ : Type} [DecidableEq κ] : List (κ × Value) → κ → Option Nat
  | [], _ => none
  | (a, _) :: r, k => if k = a then some 0 else (aidx r k).map (· + 1)
def aset {κ : Type} [DecidableEq κ] : List (κ × Value) → κ → Value → List (κ × Value)
  | [], k, v => [(k, v)]
  | (a, u) :: r, k, v => if k = a then (k, v) :: r else (a, u) :: aset r k v
def adel {κ : Type} [DecidableEq κ] : List (κ × Value) → κ → List (κ × Value)
  | [], _ => []
  | (a, u) :: r, k => if k = a then r else (a, u) :: adel r k

/-- block M is a map that reads as L -/
def MapIs {κ : Type} (kv : κ → Value) (w : World) (M : Nat) (L : List (κ × Value)) : Prop :=
  ∃ es clock, w.heap[M]? = some (.map es clock) ∧ es.toList.map (fun e => (e.key, e.val)) = L.map (fun p => (kv p.1, p.2)) ∧ (∀ x ∈ es.toList, x.born < clock) ∧ (es.toList.map (·.born)).Nodup

section
variable {P : Program} {k : TypeId} {κ : Type} [DecidableEq κ] {kv : κ → Value}
theorem findNow_list (K : KeyK P k κ kv) (x : κ) : ∀ (es : List MapEntry) (L : List (κ × Value)) (i : Nat), es.map (fun e => (e.key, e.val)) = L.map (fun p => (kv p.1, p.2)) →
    Instr.findNow K.d (kv x) es i = some (match aidx L x, aget L x with | some j, some v => some (i + j, v) | _, _ => none)
  | [], [], _, _ => rfl
  | [], _ :: _, _, h => by cases h
  | _ :: _, [], _, h => by cases h
  | e :: es, (a, v) :: L, i, h => by
    simp only [List.map_cons, List.cons.injEq, Prod.mk.injEq] at h
    obtain ⟨⟨h1, h2⟩, h3⟩ := h
    rw [Instr.findNow, h1, K.same]
    by_cases hx : x = a
    · simp [hx, aidx, aget, h2]
    · have ih := findNow_list K x es L (i + 1) h3
      simp only [hx, decide_false, aidx, aget, if_false, ih]
      cases aidx L x <;> cases aget L x <;> simp
      omega
theorem aidx_aget (L : List (κ × Value)) (x : κ) : (aidx L x = none ↔ aget L x = none) := by
  induction L with
  | nil => simp [aidx, aget]
  | cons p r ih =>
    obtain ⟨a, v⟩ := p
    by_cases h : x = a
    · simp [aidx, aget, h]
    · simp [aidx, aget, h, ih]
theorem run_find (K : KeyK P k κ kv) (w : World) (x : κ) (es : List MapEntry) (L : List (κ × Value)) (h : es.map (fun e => (e.key, e.val)) = L.map (fun p => (kv p.1, p.2))) :
    (Instr.findKey k (kv x) es).run P w = .ok (match aidx L x, aget L x with | some j, some v => some (j, v) | _, _ => none) w := by
  have := findNow_list K x es L 0 h
  simp only [Nat.zero_add] at this
  exact run_findKey K.und this
/-- 'm[x]' -/
theorem run_lookupL (K : KeyK P k κ kv) (T e : TypeId) (ht : P.underlying T = some (.map k e)) (w : World) (M : Nat) (L : List (κ × Value)) (h : MapIs kv w M L) (x : κ) (z : Value) (hz : (zeroValue e).run P w = .ok z w) (ok : Bool) :
    (Instr.lookup T (.map (some M)) (kv x) ok).run P w = .ok (if ok then .tuple #[(aget L x).getD z, .bool (aget L x).isSome] else (aget L x).getD z) w := by
  obtain ⟨es, clock, hb, hL, _, _⟩ := h
  have hf := run_find K w x es.toList L hL
  have hc : (Instr.checkKey es.isEmpty 10000 k (kv x)).run P w = .ok () w := run_checkKey (w := w) (e := es.isEmpty) (n := 9999) K.und (K.key x)
  unfold Instr.lookup
  simp only [Sem.run_bind, run_underlying ht, Result.andThen_ok, Go.MapKept.run_getObj_map hb, Sem.run_pure, hc, hf]
  have ha := aidx_aget L x
  cases h1 : aidx L x with
  | none =>
    have h2 := ha.1 h1
    simp [h2, hz, Result.andThen]
  | some j =>
    cases h2 : aget L x with
    | none => rw [ha.2 h2] at h1; cases h1
    | some v => simp
/-- block M anew -/
abbrev reblock (w : World) (M : Nat) (o : Obj) : World := { w with heap := w.heap.setIfInBounds M o }
theorem reblock_row {w : World} {M : Nat} {o o' : Obj} (h : w.heap[M]? = some o) : (reblock w M o').heap[M]? = some o' := (heap_set h).1
theorem reblock_ch {w : World} {M : Nat} {o o' : Obj} (h : w.heap[M]? = some o) : Ch (fun j => j = M) w (reblock w M o') :=
  ⟨rfl, rfl, rfl, by simp, fun j _ hj => (heap_set h).2 j hj⟩
theorem reblock_size (w : World) (M : Nat) (o : Obj) : (reblock w M o).heap.size = w.heap.size := by simp

theorem aidx_set (L : List (κ × Value)) (x : κ) (v : Value) : (∀ j, aidx L x = some j → j < L.length ∧ (L.map (fun p => (kv p.1, p.2))).set j (kv x, v) = (aset L x v).map (fun p => (kv p.1, p.2))) ∧ (aidx L x = none → aset L x v = L ++ [(x, v)]) := by
  induction L with
  | nil => exact ⟨fun j h => by simp [aidx] at h, fun _ => rfl⟩
  | cons p r ih =>
    obtain ⟨a, u⟩ := p
    by_cases h : x = a
    · refine ⟨fun j hj => ?_, fun hj => by simp [aidx, h] at hj⟩
      simp only [aidx, h, if_true, Option.some.injEq] at hj
      subst hj
      simp [aset, h]
    · refine ⟨fun j hj => ?_, fun hj => ?_⟩
      · simp only [aidx, h, if_false, Option.map_eq_some_iff] at hj
        obtain ⟨i, hi, rfl⟩ := hj
        obtain ⟨h1, h2⟩ := ih.1 i hi
        exact ⟨by simp; omega, by simp [aset, h, h2]⟩
      · simp only [aidx, h, if_false, Option.map_eq_none_iff] at hj
        simp [aset, h, ih.2 hj]
theorem aidx_del (L : List (κ × Value)) (x : κ) : (∀ j, aidx L x = some j → (L.map (fun p => (kv p.1, p.2))).eraseIdx j = (adel L x).map (fun p => (kv p.1, p.2))) ∧ (aidx L x = none → adel L x = L) := by
  induction L with
  | nil => exact ⟨fun j h => by simp [aidx] at h, fun _ => rfl⟩
  | cons p r ih =>
    obtain ⟨a, u⟩ := p
    by_cases h : x = a
    · refine ⟨fun j hj => ?_, fun hj => by simp [aidx, h] at hj⟩
      simp only [aidx, h, if_true, Option.some.injEq] at hj
      subst hj
      simp [adel, h]
    · refine ⟨fun j hj => ?_, fun hj => ?_⟩
      · simp only [aidx, h, if_false, Option.map_eq_some_iff] at hj
        obtain ⟨i, hi, rfl⟩ := hj
        simp [adel, h, ih.1 i hi]
      · simp only [aidx, h, if_false, Option.map_eq_none_iff] at hj
        simp [adel, h, ih.2 hj]
/-- 'm[x] = v' -/
theorem run_updateL (K : KeyK P k κ kv) (T e : TypeId) (ht : P.underlying T = some (.map k e)) (w : World) (M : Nat) (L : List (κ × Value)) (h : MapIs kv w M L) (x : κ) (v : Value) :
    ∃ w', (Instr.mapUpdate T (.map (some M)) (kv x) v).run P w = .ok () w' ∧ MapIs kv w' M (aset L x v) ∧ Ch (fun j => j = M) w w' ∧ w'.heap.size = w.heap.size := by
  obtain ⟨es, clock, hb, hL, hbo, hnd⟩ := h
  have hf := run_find K w x es.toList L hL
  have hc : (Instr.checkKey false 10000 k (kv x)).run P w = .ok () w := run_checkKey (w := w) (e := false) (n := 9999) K.und (K.key x)
  have hs := aidx_set (kv := kv) L x v
  have hlen : es.toList.length = L.length := by have := congrArg List.length hL; simpa using this
  have ha := aidx_aget L x
  cases h1 : aidx L x with
  | none =>
    have h2 := ha.1 h1
    rw [h1] at hf
    refine ⟨reblock w M (.map (es.push { key := kv x, val := v, born := clock }) (clock + 1)), ?_, ⟨_, _, reblock_row hb, ?_, ?_, ?_⟩, reblock_ch hb, reblock_size _ _ _⟩
    · unfold Instr.mapUpdate
      simp only [Sem.run_bind, run_underlying ht, Result.andThen_ok, Go.MapKept.run_getObj_map hb, hc, hf]
      exact Go.MapKept.run_setObj_map _ hb
    · rw [hs.2 h1]
      simp [hL]
    · intro y hy
      simp only [Array.toList_push, List.mem_append, List.mem_singleton] at hy
      rcases hy with hy | rfl
      · have := hbo y hy; omega
      · exact Nat.lt_succ_self _
    · simp only [Array.toList_push, List.map_append, List.map_cons, List.map_nil]
      rw [List.nodup_append]
      refine ⟨hnd, by simp, fun a hm b hb' => ?_⟩
      obtain ⟨y, hy, rfl⟩ := List.mem_map.1 hm
      simp only [List.mem_singleton] at hb'
      have := hbo y hy
      omega
  | some j =>
    cases h2 : aget L x with
    | none => rw [ha.2 h2] at h1; cases h1
    | some u =>
      rw [h1, h2] at hf
      obtain ⟨hj, hset⟩ := hs.1 j h1
      have hjs : j < es.size := by have : es.size = es.toList.length := by simp
                                   omega
      have hkey : ((es[j]?).map (·.key)).getD (kv x) = kv x := by
        have e1 : (es.toList.map (fun e => (e.key, e.val)))[j]? = (L.map (fun p => (kv p.1, p.2)))[j]? := by rw [hL]
        rw [List.getElem?_map, List.getElem?_map] at e1
        have e2 : es.toList[j]? = es[j]? := by simp
        rw [e2, Array.getElem?_eq_getElem hjs] at e1
        have e3 : ∀ (L : List (κ × Value)) (j : Nat), aidx L x = some j → ∃ u, L[j]? = some (x, u) := by
          intro L
          induction L with
          | nil => intro j h; simp [aidx] at h
          | cons p r ih =>
            intro j h
            obtain ⟨a, u⟩ := p
            by_cases hx : x = a
            · simp only [aidx, hx, if_true, Option.some.injEq] at h
              subst h
              exact ⟨u, by simp [hx]⟩
            · simp only [aidx, hx, if_false, Option.map_eq_some_iff] at h
              obtain ⟨i, hi, rfl⟩ := h
              obtain ⟨u', hu⟩ := ih i hi
              exact ⟨u', by simpa using hu⟩
        obtain ⟨u', hu⟩ := e3 L j h1
        rw [hu] at e1
        simp only [Option.map_some, Option.some.injEq, Prod.mk.injEq] at e1
        rw [Array.getElem?_eq_getElem hjs]
        simp [e1.1]
      have hks : (Instr.keyThatStays (kv x) (kv x)).run P w = .ok (kv x) w := by unfold Instr.keyThatStays; rw [if_pos (K.bits x)]; rfl
      refine ⟨reblock w M (.map (es.modify j fun e => { e with key := kv x, val := v }) clock), ?_, ⟨_, _, reblock_row hb, ?_, ?_, ?_⟩, reblock_ch hb, reblock_size _ _ _⟩
      · unfold Instr.mapUpdate
        simp only [Sem.run_bind, run_underlying ht, Result.andThen_ok, Go.MapKept.run_getObj_map hb, hc, hf, hkey, hks]
        exact Go.MapKept.run_setObj_map _ hb
      · rw [← hset, ← hL]
        rw [Array.toList_modify, modify_at _ _ _ (by simpa using hjs)]
        simp [List.map_set]
      · intro y hy
        rw [Array.toList_modify, modify_at _ _ _ (by simpa using hjs)] at hy
        rcases List.mem_or_eq_of_mem_set hy with hy | rfl
        · exact hbo y hy
        · exact hbo es.toList[j] (List.getElem_mem _)
      · rw [Array.toList_modify, modify_at _ _ _ (by simpa using hjs)]
        simp only [List.map_set]
        have e3 : (es.toList.map (·.born)).set j es.toList[j].born = es.toList.map (·.born) := by
          apply List.ext_getElem (by simp)
          intro i h3 h4
          rw [List.getElem_set]
          split
          · subst j; simp
          · rfl
        rw [e3]
        exact hnd
/-- 'delete(m, x)' -/
theorem run_deleteL (K : KeyK P k κ kv) (T e ty : TypeId) (ht : P.underlying T = some (.map k e)) (w : World) (M : Nat) (L : List (κ × Value)) (h : MapIs kv w M L) (x : κ) :
    ∃ w', (Builtin.delete_ #[T, k] ty #[.map (some M), kv x]).run P w = .ok (.tuple #[]) w' ∧ MapIs kv w' M (adel L x) ∧ Ch (fun j => j = M) w w' ∧ w'.heap.size = w.heap.size := by
  obtain ⟨es, clock, hb, hL, hbo, hnd⟩ := h
  have hf := run_find K w x es.toList L hL
  have hc : (Instr.checkKey es.isEmpty 10000 k (kv x)).run P w = .ok () w := run_checkKey (w := w) (e := es.isEmpty) (n := 9999) K.und (K.key x)
  have hs := aidx_del (kv := kv) L x
  have ha := aidx_aget L x
  cases h1 : aidx L x with
  | none =>
    have h2 := ha.1 h1
    rw [h1] at hf
    refine ⟨reblock w M (.map es clock), ?_, ⟨_, _, reblock_row hb, by rw [hs.2 h1]; exact hL, hbo, hnd⟩, reblock_ch hb, reblock_size _ _ _⟩
    unfold Builtin.delete_
    simp [Sem.run_bind, run_underlying ht, Result.andThen_ok, Go.MapKept.run_getObj_map hb, hc, hf, Go.MapKept.run_setObj_map _ hb]
  | some j =>
    cases h2 : aget L x with
    | none => rw [ha.2 h2] at h1; cases h1
    | some u =>
      rw [h1, h2] at hf
      refine ⟨reblock w M (.map (es.eraseIdxIfInBounds j) clock), ?_, ⟨_, _, reblock_row hb, ?_, ?_, ?_⟩, reblock_ch hb, reblock_size _ _ _⟩
      · unfold Builtin.delete_
        simp [Sem.run_bind, run_underlying ht, Result.andThen_ok, Go.MapKept.run_getObj_map hb, hc, hf, Go.MapKept.run_setObj_map _ hb]
      · rw [Array.toList_eraseIdxIfInBounds, ← hs.1 j h1, ← hL, Go.ChangeMaps.map_eraseIdx]
      · intro y hy
        rw [Array.toList_eraseIdxIfInBounds] at hy
        exact hbo y (List.mem_of_mem_eraseIdx hy)
      · rw [Array.toList_eraseIdxIfInBounds, Go.ChangeMaps.map_eraseIdx]
        exact hnd.sublist (List.eraseIdx_sublist _ _)
end
end Go.Proofs.YtgffamdlnacamaaDoor

/- Maps in memory: the laws at the operations. No condition. -/
namespace Go.Proofs.YtgffamdlnacamaaDoor
open Go.RowKit Go.MapKept

theorem MapIs.new {κ : Type} (kv : κ → Value) (w : World) : MapIs kv (w.alloc (.map #[] 0)) w.heap.size [] := ⟨#[], 0, heap_alloc_new w _, rfl, (fun x hx => by cases hx), List.nodup_nil⟩
theorem MapIs.lt {κ : Type} {kv : κ → Value} {w : World} {M : Nat} {L : List (κ × Value)} (h : MapIs kv w M L) : M < w.heap.size := by
  obtain ⟨es, clock, hb, _⟩ := h
  exact (Array.getElem?_eq_some_iff.1 hb).1
theorem MapIs.row {κ : Type} {kv : κ → Value} {w w' : World} {M : Nat} {L : List (κ × Value)} (h : MapIs kv w M L) (hr : w'.heap[M]? = w.heap[M]?) : MapIs kv w' M L := by
  obtain ⟨es, clock, hb, h1⟩ := h
  exact ⟨es, clock, hr.trans hb, h1⟩
theorem MapIs.ch {κ : Type} {kv : κ → Value} {S : Nat → Prop} {w w' : World} {M : Nat} {L : List (κ × Value)} (h : MapIs kv w M L) (c : Ch S w w') (hn : ¬ S M) : MapIs kv w' M L := h.row (c.block M h.lt hn)
theorem MapIs.below {κ : Type} {kv : κ → Value} {w w' : World} {M : Nat} {L : List (κ × Value)} (h : MapIs kv w M L) (hb : Below w.heap.size w w') : MapIs kv w' M L := h.row (hb.block M h.lt)
/-- a map is no cells -/
theorem MapIs.ne {κ : Type} {kv : κ → Value} {w : World} {M g : Nat} {L : List (κ × Value)} {c : Array Value} {t : TypeId} {f : Nat × Nat} (h : MapIs kv w M L) (hg : w.heap[g]? = some (.cells c t f)) : M ≠ g := fun e => by
  obtain ⟨es, clock, hb, _⟩ := h
  rw [e, hg] at hb
  cases hb

section
variable {P : Program} {k : TypeId} {κ : Type} [DecidableEq κ] {kv : κ → Value} {w : World} {ops : Array Oper} {rest : List Oper} {o : Oper} {a : Act} {Q : Exit → Act → World → Prop}
theorem wpList_lookupL (hg : o.guard = none) (K : KeyK P k κ kv) (m x : Operand) (T e : TypeId) (ok : Bool) (hop : o.op = Op.lookup T m x ok) (ht : P.underlying T = some (.map k e)) (M : Nat) (L : List (κ × Value)) (hm : a.eval m = .map (some M)) (h : MapIs kv w M L) (key : κ) (hx : a.eval x = kv key) (z : Value) (hz : (zeroValue e).run P w = .ok z w)
    (hK : wpList P ops Q rest (a.put o.dst (if ok then .tuple #[(aget L key).getD z, .bool (aget L key).isSome] else (aget L key).getD z)) w) : wpList P ops Q (o :: rest) a w := by
  refine wpList_plain hg fun K' hK' => ?_
  have hrun := run_lookupL K T e ht w M L h key z hz ok
  unfold Oper.wp
  simp only [execOp, hop, hm, hx, Sem.run_bind, hrun, Result.andThen_ok, Sem.run_pure]
  exact hK' _ _ hK
theorem wpList_updateL (hg : o.guard = none) (K : KeyK P k κ kv) (m x v : Operand) (T e : TypeId) (hop : o.op = Op.mapUpdate T m x v ∨ o.op = Op.insert T m x v) (ht : P.underlying T = some (.map k e)) (M : Nat) (L : List (κ × Value)) (hm : a.eval m = .map (some M)) (h : MapIs kv w M L) (key : κ) (hx : a.eval x = kv key) (u : Value) (hv : a.eval v = u)
    (hK : ∀ w', MapIs kv w' M (aset L key u) → Ch (fun j => j = M) w w' → w'.heap.size = w.heap.size → wpList P ops Q rest (a.put o.dst undef) w') : wpList P ops Q (o :: rest) a w := by
  refine wpList_plain hg fun K' hK' => ?_
  obtain ⟨w', hrun, h1, h2, h3⟩ := run_updateL K T e ht w M L h key u
  unfold Oper.wp
  rcases hop with hop | hop
  · simp only [execOp, hop, hm, hx, hv, Sem.run_bind, hrun, Result.andThen_ok, Sem.run_pure]
    exact hK' _ _ (hK w' h1 h2 h3)
  · simp only [execOp, hop, hm, hx, hv, Sem.run_bind, hrun, Result.andThen_ok, Sem.run_pure]
    exact hK' _ _ (hK w' h1 h2 h3)
theorem wpList_deleteL (hg : o.guard = none) (K : KeyK P k κ kv) (m x : Operand) (T e : TypeId) (hop : o.op = Op.call { callee := Callee.builtin Builtin.delete, args := #[m, x], argTypes := #[T, k] }) (ht : P.underlying T = some (.map k e)) (M : Nat) (L : List (κ × Value)) (hm : a.eval m = .map (some M)) (h : MapIs kv w M L) (key : κ) (hx : a.eval x = kv key)
    (hK : ∀ w', MapIs kv w' M (adel L key) → Ch (fun j => j = M) w w' → w'.heap.size = w.heap.size → wpList P ops Q rest (a.put o.dst (.tuple #[])) w') : wpList P ops Q (o :: rest) a w := by
  refine wpList_plain hg fun K' hK' => ?_
  obtain ⟨w', hrun, h1, h2, h3⟩ := run_deleteL K T e o.type ht w M L h key
  unfold Oper.wp execOp
  simp only [hop, resolve, invoke, builtin, Sem.run_bind, Sem.run_pure, Result.andThen_ok, List.map_toArray, List.map_cons, List.map_nil, hm, hx, hrun]
  exact hK' _ _ (hK w' h1 h2 h3)
end
end Go.Proofs.YtgffamdlnacamaaDoor

/- Layer 11: what a message is worth, in plain words. -/
namespace Go.Proofs.YtgffamdlnacamaaDoor
open Go.RowKit

/-- the bytes ahead of the first 13 -/
def seg1 (l : List UInt8) : List UInt8 := if Lib.indexByte l 13 < 0 then l else l.take (Lib.indexByte l 13).toNat
theorem indexByte_lt (l : List UInt8) (c : UInt8) : Lib.indexByte l c < (l.length : Int) := by
  induction l with
  | nil => simp [Lib.indexByte]
  | cons b l ih =>
    unfold Lib.indexByte
    split
    · simp
    · split
      · simp; omega
      · simp; omega
theorem indexByte_front {m : List UInt8} {c : UInt8} (h : c ∉ m) (r : List UInt8) : Lib.indexByte (m ++ c :: r) c = (m.length : Int) := by
  induction m with
  | nil => simp [Lib.indexByte]
  | cons b m ih =>
    simp only [List.mem_cons, not_or] at h
    rw [List.cons_append]
    unfold Lib.indexByte
    rw [if_neg (by simpa using fun e => h.1 e.symm), ih h.2]
    rw [if_neg (by simp)]
    simp
theorem seg1_front {m : List UInt8} (h : (13 : UInt8) ∉ m) (r : List UInt8) : seg1 (m ++ 13 :: r) = m := by
  unfold seg1
  rw [indexByte_front h r, if_neg (by omega)]
  simp
theorem seg1_none {m : List UInt8} (h : (13 : UInt8) ∉ m) : seg1 m = m := by
  unfold seg1
  rw [indexByte_neg h, if_pos (by decide)]
theorem seg1_cases (l : List UInt8) : ((13 : UInt8) ∉ l ∧ seg1 l = l) ∨ ∃ r, (13 : UInt8) ∉ seg1 l ∧ l = seg1 l ++ 13 :: r := by
  by_cases h : (13 : UInt8) ∈ l
  · right
    obtain ⟨m, r, rfl, hm⟩ := List.eq_append_cons_of_mem h
    exact ⟨r, by rw [seg1_front hm]; exact hm, by rw [seg1_front hm]⟩
  · exact .inl ⟨h, seg1_none h⟩
theorem seg1_sub (l : List UInt8) : ∀ y ∈ seg1 l, y ∈ l := by
  intro y hy
  unfold seg1 at hy
  split at hy
  · exact hy
  · exact List.mem_of_mem_take hy
/-- the code by which a check is answered -/
def codeOf (e : Int) : ByteArray := if e = 0 then cB 0 else if e = 14 then cB 1 else cB 2
/-- what a message is worth: its head, a code, why -/
def verdictD (l : List UInt8) : Hd × ByteArray × Int :=
  if (readH l).2 = 0 then if (28 : UInt8) ∈ seg1 l then (Hd.zero, ⟨#[]⟩, 10) else ((readH l).1, codeOf (checkD (readH l).1), checkD (readH l).1)
  else (Hd.zero, ⟨#[]⟩, (readH l).2)
theorem checkD_cases (h : Hd) : checkD h = 0 ∨ checkD h = 14 ∨ checkD h = 12 ∨ checkD h = 13 := by
  unfold checkD
  split
  · exact .inr (.inl rfl)
  · split
    · exact .inr (.inr (.inl rfl))
    · split
      · exact .inr (.inr (.inr rfl))
      · exact .inl rfl
theorem seg0_seg1 {l : List UInt8} (h : (readD l).2 = 0) : (splitD l).getD 0 [] = seg1 l := by
  have hl := readD_long h
  rcases seg1_cases l with ⟨h1, h2⟩ | ⟨r, h1, h2⟩
  · rw [h2]
    unfold splitD
    rw [cutAt_none 13 l h1]
    cases l with
    | nil => simp at hl
    | cons b l => simp
  · obtain ⟨m, hm⟩ : ∃ m, m = seg1 l := ⟨_, rfl⟩
    rw [← hm] at h1 h2 ⊢
    rw [h2]
    rw [splitD_cons m r h1]
    rfl
/-- a head's texts come out of the first segment -/
theorem texts_seg1 {l : List UInt8} {h : Hd} (hr : readH l = (h, 0)) : ∀ b ∈ h.l, ∀ y ∈ b.data.toList, y ∈ seg1 l := by
  unfold readH at hr
  split at hr
  · rename_i h0
    split at hr
    · rw [seg0_seg1 h0] at hr
      obtain ⟨seg, hseg⟩ : ∃ seg, seg = seg1 l := ⟨_, rfl⟩
      rw [← hseg] at hr ⊢
      injection hr with hr _
      obtain ⟨d, hd⟩ : ∃ d, d = (readD l).1 := ⟨_, rfl⟩
      rw [← hd] at hr
      subst hr
      have key : ∀ i, ∀ y ∈ (textsD (fieldsD (txt seg) d.a) i).data.toList, y ∈ seg := fun i => by
        obtain ⟨h1, h2, h3⟩ := fields_mem seg d.a (i + 1)
        have e : textsD (fieldsD (txt seg) d.a) i = txt ((fieldsD (txt seg) d.a).getD (i + 1 + 1) []) := by unfold textsD; rw [show 2 + i = i + 1 + 1 by omega]
        rw [e]
        exact h3
      intro b hb
      rw [hdTo_l] at hb
      simp only [List.mem_cons, List.not_mem_nil, or_false] at hb
      rcases hb with rfl | rfl | rfl | rfl | rfl | rfl | rfl | rfl | rfl | rfl
      · exact key 0
      · exact key 1
      · exact key 2
      · exact key 3
      · exact key 4
      · exact key 5
      · exact key 6
      · exact key 7
      · exact key 8
      · exact key 9
    · injection hr with _ h2
      cases h2
  · rename_i h0
    injection hr with _ h2
    exact absurd h2 h0
/-- a byte that a segment hasn't -/
theorem segH_free {g : Hd} {z : UInt8} (hz : z ∉ ([77, 83, 72] : List UInt8)) (hs : z ∉ g.d.l) (ht : ∀ b ∈ g.l, z ∉ b.data.toList) : z ∉ segH g := by
  rw [segH_eq]
  intro hm
  rcases List.mem_append.1 hm with hm | hm
  · simp only [List.mem_cons, List.not_mem_nil, or_false] at hm hz
    rcases hm with e | e | e | hm
    · exact hz (.inl e)
    · exact hz (.inr (.inl e))
    · exact hz (.inr (.inr e))
    · exact hs (by simpa [Sgn.l] using hm)
  · unfold Lib.joinTail at hm
    obtain ⟨y, hy, hm⟩ := List.mem_flatten.1 hm
    obtain ⟨x, hx, rfl⟩ := List.mem_map.1 hy
    rcases List.mem_append.1 hm with hm | hm
    · exact hs (by rw [List.mem_singleton.1 hm]; simp [Sgn.l])
    · obtain ⟨b, hb, rfl⟩ := List.mem_map.1 (List.mem_of_mem_take hx)
      exact ht b hb hm
theorem sign_free {s : Sgn} (h : s.good = true) {z : UInt8} (hz : isSign z.toNat = false) : z ∉ s.l := fun hm => by
  have := (good_signs h).1 z hm
  rw [hz] at this
  cases this
/-- what is answered -/
def replyD (l : List UInt8) (kept : Bool) : List UInt8 × Bool :=
  if (verdictD l).2.1 = ⟨#[]⟩ ∨ good l = false then ([], false)
  else (11 :: ((buildD (verdictD l).1 (if (verdictD l).2.1 = cB 0 ∧ kept = false then cB 1 else (verdictD l).2.1)).1 ++ [28, 13]), true)
theorem codeOf_ne (e : Int) : codeOf e ≠ ⟨#[]⟩ ∧ codeD (codeOf e) = true ∧ (codeOf e).size = 2 := by
  unfold codeOf
  split
  · decide +kernel
  · split <;> decide +kernel
theorem verdict_some {l : List UInt8} (h : (verdictD l).2.1 ≠ ⟨#[]⟩) : ∃ g, readH l = (g, 0) ∧ (28 : UInt8) ∉ seg1 l ∧ verdictD l = (g, codeOf (checkD g), checkD g) := by
  unfold verdictD at h ⊢
  split at h
  · rename_i h0
    rw [if_pos h0]
    split at h
    · exact absurd rfl h
    · rename_i h28
      rw [if_neg h28]
      exact ⟨(readH l).1, by rw [← h0], h28, rfl⟩
  · exact absurd rfl h
/-- the answer to a head that was read is there, and may be in a frame -/
theorem answer_good {l : List UInt8} {g : Hd} (hr : readH l = (g, 0)) (h28 : (28 : UInt8) ∉ seg1 l) (hl : good l = true) {c : ByteArray} (hc : codeD c = true) :
    buildD g c = (segH (ansH g) ++ 13 :: (makeD msaB g.d.a [c.data.toList, g.a7.data.toList] ++ [13]), 0) ∧ good (buildD g c).1 = true := by
  obtain ⟨hg, hs, _⟩ := read_stands hr
  have ht := texts_seg1 hr
  have hca := good_a hg
  have hack : standD g.d.a ⟨#[65, 67, 75]⟩ = true := by
    simp only [standD, Bool.and_eq_true, Bool.not_eq_true']
    constructor
    · rw [← Bool.not_eq_true, List.contains_iff_mem]
      intro hm
      simp only [List.mem_cons, List.not_mem_nil, or_false] at hm
      rcases hm with e | e | e <;> exact sign_no_letter hca _ (by decide) e
    · decide
  have hnil : standD g.d.a ⟨#[]⟩ = true := by simp [standD]
  have hsa : (ansH g).l.all (standD g.d.a) = true := by
    rw [ansH_l]
    simp only [Hd.l, List.all_cons, List.all_nil, Bool.and_true, Bool.and_eq_true] at hs ⊢
    obtain ⟨h0, h1, h2, h3, h4, h5, h6, h7, h8, h9⟩ := hs
    exact ⟨h2, h3, h0, h1, h4, hnil, hack, h7, h8, h9⟩
  have e : buildD g c = (segH (ansH g) ++ 13 :: (makeD msaB g.d.a [c.data.toList, g.a7.data.toList] ++ [13]), 0) := by
    unfold buildD
    rw [if_pos hc, writeH_good (h := ansH g) hg hsa, if_pos rfl]
    simp [joinD]
  refine ⟨e, ?_⟩
  rw [e]
  have free : ∀ z : UInt8, isSign z.toNat = false → z ∉ ([77, 83, 72, 65, 67, 75, 13] : List UInt8) → z ∉ c.data.toList → z ∉ seg1 l → z ∉ segH (ansH g) ++ 13 :: (makeD msaB g.d.a [c.data.toList, g.a7.data.toList] ++ [13]) := by
    intro z hz hk hzc hzs hm
    have hsg := sign_free hg hz
    have htx : ∀ b ∈ g.l, z ∉ b.data.toList := fun b hb hy => hzs (ht b hb z hy)
    simp only [List.mem_cons, List.not_mem_nil, or_false, not_or] at hk
    obtain ⟨k1, k2, k3, k4, k5, k6, k7⟩ := hk
    have hans : ∀ b ∈ (ansH g).l, z ∉ b.data.toList := by
      intro b hb
      rw [ansH_l] at hb
      simp only [List.mem_cons, List.not_mem_nil, or_false] at hb
      have m : ∀ x, x ∈ g.l → z ∉ x.data.toList := htx
      rcases hb with rfl | rfl | rfl | rfl | rfl | rfl | rfl | rfl | rfl | rfl
      · exact m _ (by simp [Hd.l])
      · exact m _ (by simp [Hd.l])
      · exact m _ (by simp [Hd.l])
      · exact m _ (by simp [Hd.l])
      · exact m _ (by simp [Hd.l])
      · simp
      · simp [k4, k5, k6]
      · exact m _ (by simp [Hd.l])
      · exact m _ (by simp [Hd.l])
      · exact m _ (by simp [Hd.l])
    rcases List.mem_append.1 hm with hm | hm
    · exact segH_free (g := ansH g) (by simp [k1, k2, k3]) hsg hans hm
    · rcases List.mem_cons.1 hm with hm | hm
      · exact k7 hm
      · rcases List.mem_append.1 hm with hm | hm
        · rw [makeD_two] at hm
          have ha : z ≠ g.d.a := fun e => hsg (by rw [e]; simp [Sgn.l])
          simp only [Lib.joinTail, List.map_cons, List.map_nil, List.flatten_cons, List.flatten_nil, List.append_nil, List.mem_append, List.mem_cons, List.not_mem_nil, or_false] at hm
          rcases hm with (e | e | e) | (e | e) | (e | e)
          · exact k1 e
          · exact k2 e
          · exact k4 e
          · exact ha e
          · exact hzc e
          · exact ha e
          · exact htx g.a7 (by simp [Hd.l]) e
        · exact k7 (List.mem_singleton.1 hm)
  have hcc : ∀ z : UInt8, z ∈ c.data.toList → z = 65 ∨ z = 69 ∨ z = 82 := by
    intro z hz
    rcases code_mem hc with rfl | rfl | rfl <;> simp [cB] at hz <;> rcases hz with rfl | rfl <;> simp
  have f11 := free 11 (by decide) (by decide) (fun hm => by rcases hcc _ hm with e | e | e <;> exact absurd e (by decide)) (fun hm => good_no_start hl (seg1_sub l _ hm))
  have f28 := free 28 (by decide) (by decide) (fun hm => by rcases hcc _ hm with e | e | e <;> exact absurd e (by decide)) h28
  refine good_of f11 (fun i hi => ?_)
  unfold badAt
  obtain ⟨X, hX⟩ : ∃ X, X = segH (ansH g) ++ 13 :: (makeD msaB g.d.a [c.data.toList, g.a7.data.toList] ++ [13]) := ⟨_, rfl⟩
  rw [← hX] at f28 hi ⊢
  have hne : X[i]? ≠ some 28 := fun e => f28 (List.mem_of_getElem? e)
  simp [hne]
end Go.Proofs.YtgffamdlnacamaaDoor

/- Layer 11: the first segment, the codes by errors, and what a message is worth, walked. -/
namespace Go.Proofs.YtgffamdlnacamaaDoor
open Go.RowKit

theorem results_tmp3 {fn : Func} {t u v : Tmp} (h : fn.results = #[.tmp t, .tmp u, .tmp v]) (tmps : Array Value) (P : Program) (w : World) :
    (results fn tmps).run P w = .ok (.tuple #[tmps.getD t undef, tmps.getD u undef, tmps.getD v undef]) w := by
  simp [results, h]
set_option maxRecDepth 100000 in
set_option maxHeartbeats 2000000 in
theorem bytesIndex1 (A : Option Addr) (n c : Nat) (l : List UInt8) (g : Nat) (w : World) (hB : Bs w A n c l) (hg : w.heap[g]? = some (.cells #[.int .u8 13] 5)) :
    Calls Tryd.prog 80 #[.slice A n c, .slice (some ⟨g, 0, none⟩) 1 1] w fun e w' => e = .returned (.int .i64 (Lib.indexByte l 13)) ∧ w' = w := by
  have HBS := Lib.hid hB
  have hc := cell_of_row w g 0 _ _ _ hg
  simp only [List.getElem?_toArray, List.getElem?_cons_zero] at hc
  clear hB hg
  go_enter Tryd.func80, Tryd.ntmps80
  go_wp2_with (fail)
  refine (indexByte_any A n c l 13 13 rfl w HBS.out).mono ?_
  rintro e w1 ⟨rfl, rfl⟩
  clear hc
  go_wp2_with (fail)
  go_ret
  exact ⟨rfl, rfl⟩

set_option maxRecDepth 100000 in
set_option maxHeartbeats 2000000 in
theorem bytesCut13 (A : Option Addr) (n c : Nat) (l : List UInt8) (g : Nat) (w : World) (hB : Bs w A n c l) (hg : w.heap[g]? = some (.cells #[.int .u8 13] 5)) :
    Calls Tryd.prog 46 #[.slice A n c, .slice (some ⟨g, 0, none⟩) 1 1] w fun e w' => ∃ k v b, e = .returned (.tuple #[.slice A k c, v, .bool b]) ∧ Bs w' A k c (seg1 l) ∧ Below w.heap.size w w' := by
  have HBS := Lib.hid hB
  have HL := Lib.hid hB.len
  have hle := hB.le
  have hnm := hB.nmax
  have HGE := Lib.hid (Lib.indexByte_ge l 13)
  have HLT := Lib.hid (indexByte_lt l 13)
  have HG := Lib.hid hg
  have hmx := hB.max
  clear hB hg
  go_enter Tryd.func46, Tryd.ntmps46
  go_wp2_with (fail)
  refine (bytesIndex1 A n c l g w HBS.out HG.out).mono ?_
  rintro e w1 ⟨rfl, rfl⟩
  by_cases h0 : Lib.indexByte l 13 < 0
  · as_aux_lemma =>
    have HS : Hid (seg1 l = l) := Lib.hid (if_pos h0)
    have hi : Lib.indexByte l 13 = -1 := by have := HGE.out; omega
    rw [hi]
    clear h0 hi
    go_wp2_with (fail)
    refine bodyPost_ret (v := .tuple #[.slice A n c, .slice none 0 0, .bool false]) ?_ rfl ⟨n, _, _, rfl, by rw [HS.out]; exact HBS.out, Below.refl _ _⟩
    simp [results, Tryd.results46, go_sem]
  · as_aux_lemma =>
    obtain ⟨k, hk⟩ : ∃ k : Nat, Lib.indexByte l 13 = (k : Int) := ⟨(Lib.indexByte l 13).toNat, by omega⟩
    have HS : Hid (seg1 l = l.take k) := Lib.hid (by unfold seg1; rw [if_neg h0, hk]; rfl)
    have hkn : k < n := by have := HLT.out; rw [hk, HL.out] at this; omega
    have HBK : Hid (∀ q, Bs (w1.drewN q) A k c (seg1 l)) := Lib.hid (fun q => by rw [HS.out]; exact (HBS.out.drewN q).take (by omega))
    rw [hk]
    obtain ⟨b, o, rfl, _, _⟩ := HBS.out.at_ (by omega)
    have e1 : (0 : Int) ≤ (k : Int) := by omega
    have e2 : (k : Int) ≤ (n : Int) := by omega
    have e3 : (k : Int) ≤ (c : Int) := by omega
    have e4 : (0 : Int) ≤ (k : Int) + 1 := by omega
    have e5 : (k : Int) + 1 ≤ (n : Int) := by omega
    have e6 : (n : Int) ≤ (c : Int) := by omega
    have e7 : ((k : Int) + 1).toNat = k + 1 := by omega
    have d1 : decide ((0 : Int) ≤ (k : Int)) = true := by simp
    have w1' : IntKind.i64.wrap ((k : Int) + 1) = (k : Int) + 1 := IntWalk.i64_in _ (by omega)
    by_cases hcc : c = k + 1
    · as_aux_lemma =>
      have e8 : (c : Int) = (k : Int) + 1 := by omega
      clear h0 hk hkn hle hnm hmx hcc
      go_wp2_with (fail)
      go_quiet (fail)
      go_wp2_with (fail)
      refine bodyPost_ret (results_tmp3 Tryd.results46 _ _ _) rfl ⟨k, _, true, rfl, HBK.out _, drawN_below (Below.refl _ _) _⟩
    · as_aux_lemma =>
      have e8 : ¬ (c : Int) = (k : Int) + 1 := by omega
      have e9 : ¬ c = k + 1 := hcc
      clear h0 hk hkn hle hnm hmx hcc
      go_wp2_with (fail)
      go_quiet (fail)
      go_wp2_with (fail)
      refine bodyPost_ret (results_tmp3 Tryd.results46 _ _ _) rfl ⟨k, _, true, rfl, HBK.out _, drawN_below (Below.refl _ _) _⟩

set_option maxRecDepth 100000 in
set_option maxHeartbeats 2000000 in
theorem firstSegment_ (A : Option Addr) (n c : Nat) (l : List UInt8) (w : World) (hB : Bs w A n c l) :
    Calls Tryd.prog 23 #[.slice A n c] w fun e w' => ∃ k, e = .returned (.slice A k c) ∧ Bs w' A k c (seg1 l) ∧ Below w.heap.size w w' := by
  have HB1 : Hid (Bs (w.alloc (.cells #[.int .u8 13] 5)) A n c l) := Lib.hid (hB.alloc _)
  have HG : Hid ((w.alloc (.cells #[.int .u8 13] 5)).heap[w.heap.size]? = some (.cells #[.int .u8 13] 5)) := Lib.hid (heap_alloc_new w _)
  have HB0 : Hid (Below w.heap.size w (w.alloc (.cells #[.int .u8 13] 5))) := Lib.hid ((Below.refl _ w).alloc (Nat.le_refl _) _)
  clear hB
  go_enter Tryd.func23, Tryd.ntmps23
  go_wp2_with (fail)
  refine (bytesCut13 A n c l w.heap.size _ HB1.out HG.out).mono ?_
  rintro e w1 ⟨k, v, b, rfl, hB2, hb2⟩
  have HB2 := Lib.hid hB2
  have HBB := Lib.hid (HB0.out.trans (hb2.mono HB0.out.size))
  clear hB2 hb2
  go_wp2_with (fail)
  go_ret
  exact ⟨k, rfl, HB2.out, HBB.out⟩

/-- the codes by errors -/
def codesM : List (Int × Value) := [(0, .string (cB 0)), (14, .string (cB 1)), (12, .string (cB 2)), (13, .string (cB 2))]
abbrev i64v (k : Int) : Value := .int .i64 k
noncomputable def keyI64 {P : Program} {k : TypeId} (h : P.underlying k = some (.int .i64)) : KeyK P k Int i64v :=
  ⟨.int .i64, h, fun _ => rfl, fun a b => by
    simp only [Instr.sameNow, if_true, Option.some.injEq]
    rw [Bool.eq_iff_iff]
    simp, fun a => by simp [Instr.sameBits]⟩
theorem code_get (e : Int) (h : e = 0 ∨ e = 14 ∨ e = 12 ∨ e = 13) : aget codesM e = some (.string (codeOf e)) := by
  rcases h with rfl | rfl | rfl | rfl <;> rfl

set_option maxRecDepth 100000 in
set_option maxHeartbeats 2000000 in
theorem codes_ (w : World) : Calls Tryd.prog 24 #[] w fun e w' => ∃ M, e = .returned (.map (some M)) ∧ MapIs i64v w' M codesM ∧ Below w.heap.size w w' := by
  have hmm := @run_makeMap Tryd.prog
  have HM0 : Hid (MapIs i64v (w.alloc (.map #[] 0)) w.heap.size ([] : List (Int × Value))) := Lib.hid (MapIs.new i64v w)
  have HB0 : Hid (Below w.heap.size w (w.alloc (.map #[] 0))) := Lib.hid ((Below.refl _ w).alloc (Nat.le_refl _) _)
  have tok1 : Hid True := Lib.hid trivial
  have tok2 : Hid True := Lib.hid trivial
  have tok3 : Hid True := Lib.hid trivial
  have tok4 : Hid True := Lib.hid trivial
  go_enter Tryd.func24, Tryd.ntmps24
  go_wp2_with (first
    | (have _t := tok1; go_loud ((refine wpList_updateL rfl (keyI64 Tryd.underlying28) (.tmp 1) _ _ 56 9 (.inr rfl) Tryd.underlying56 w.heap.size _ rfl HM0.out 0 rfl _ rfl ?_; intro w1 hm1 hc1 hs1; have HM1 := Lib.hid hm1; have HB1 := Lib.hid (HB0.out.trans (hc1.below (fun j hj => by rw [hj]; exact Nat.le_refl _) HB0.out.size)); clear tok1 _t hm1 hc1 hs1)))
    | (have _t := tok2; go_loud ((refine wpList_updateL rfl (keyI64 Tryd.underlying28) (.tmp 1) _ _ 56 9 (.inr rfl) Tryd.underlying56 w.heap.size _ rfl HM1.out 14 rfl _ rfl ?_; intro w2 hm2 hc2 hs2; have HM2 := Lib.hid hm2; have HB2 := Lib.hid (HB1.out.trans (hc2.below (fun j hj => by rw [hj]; exact Nat.le_refl _) HB1.out.size)); clear tok2 _t hm2 hc2 hs2)))
    | (have _t := tok3; go_loud ((refine wpList_updateL rfl (keyI64 Tryd.underlying28) (.tmp 1) _ _ 56 9 (.inr rfl) Tryd.underlying56 w.heap.size _ rfl HM2.out 12 rfl _ rfl ?_; intro w3 hm3 hc3 hs3; have HM3 := Lib.hid hm3; have HB3 := Lib.hid (HB2.out.trans (hc3.below (fun j hj => by rw [hj]; exact Nat.le_refl _) HB2.out.size)); clear tok3 _t hm3 hc3 hs3)))
    | (have _t := tok4; go_loud ((refine wpList_updateL rfl (keyI64 Tryd.underlying28) (.tmp 1) _ _ 56 9 (.inr rfl) Tryd.underlying56 w.heap.size _ rfl HM3.out 13 rfl _ rfl ?_; intro w4 hm4 hc4 hs4; have HM4 := Lib.hid hm4; have HB4 := Lib.hid (HB3.out.trans (hc4.below (fun j hj => by rw [hj]; exact Nat.le_refl _) HB3.out.size)); clear tok4 _t hm4 hc4 hs4))))
  go_ret
  exact ⟨w.heap.size, rfl, HM4.out, HB4.out⟩

theorem exec_code {dst : Option Tmp} {x y : Operand} {ty : TypeId} {pos : String} {af} {gd} {a : Act} {W : World} (M : Nat) (K : Int) (hx : a.eval x = .map (some M)) (hy : a.eval y = .int .i64 K) (hK : K = 0 ∨ K = 14 ∨ K = 12 ∨ K = 13) (hM : MapIs i64v W M codesM) :
    (execOp a.eval (⟨dst, .lookup 56 x y false, ty, pos, af, gd⟩ : Oper)).run Tryd.prog W = .ok (.value (.string (codeOf K))) W := by
  have hz : (zeroValue 9).run Tryd.prog W = .ok (.string ⟨#[]⟩) W := by kernel_rfl
  have hrun := run_lookupL (keyI64 Tryd.underlying28) 56 9 Tryd.underlying56 W M codesM hM K _ hz false
  rw [code_get K hK] at hrun
  unfold execOp
  simp only [hx, hy, Sem.run_bind]
  rw [hrun]
  rfl
theorem exec_loadH {dst : Option Tmp} {x : Operand} {ty : TypeId} {pos : String} {af} {gd} {a : Act} {W : World} (g : Nat) (h : Hd) (hx : a.eval x = .pointer (some ⟨g, 0, none⟩)) (k : BoxH h g W) :
    (execOp a.eval (⟨dst, .load TH x, ty, pos, af, gd⟩ : Oper)).run Tryd.prog W = .ok (.value h.v) W := by
  unfold execOp
  simp only [hx, Instr.loadAt, Instr.sureAddr, Sem.run_bind, Sem.run_pure, Result.andThen_ok, run_loadVar_row W g TH TH h.cells (0, 0) _ k Tryd.underlying27 rfl head_size]
/-- an answer of a head and two more -/
theorem resultsH3 {fn : Func} {p u v : Tmp} (hf : fn.results = #[.cell p TH, .tmp u, .tmp v]) (tmps : Array Value) (w : World) (g : Nat) (h : Hd) (y z : Value)
    (hp : tmps.getD p undef = .pointer (some ⟨g, 0, none⟩)) (hy : tmps.getD u undef = y) (hz : tmps.getD v undef = z) (k : BoxH h g w) : (results fn tmps).run Tryd.prog w = .ok (.tuple #[h.v, y, z]) w := by
  have hp' : tmps[p]?.getD undef = .pointer (some ⟨g, 0, none⟩) := by simpa using hp
  have hy' : tmps[u]?.getD undef = y := by simpa using hy
  have hz' : tmps[v]?.getD undef = z := by simpa using hz
  simp [results, hf, hp', hy', hz', asAddr, run_loadVar_row w g TH TH h.cells (0, 0) _ k Tryd.underlying27 rfl head_size]

set_option maxRecDepth 100000 in
set_option maxHeartbeats 4000000 in
theorem verdict_ (A : Option Addr) (n c : Nat) (l : List UInt8) (w : World) (hv : Vers w) (hB : Bs w A n c l) (hn : n ≤ 1000000) :
    Calls Tryd.prog 10 #[.slice A n c] w fun e w' => e = .returned (.tuple #[(verdictD l).1.v, .string (verdictD l).2.1, .int .i64 (verdictD l).2.2]) ∧ Below w.heap.size w w' := by
  have HN := Lib.hid hn
  have HL := Lib.hid hB.len
  have HV := Lib.hid (fun W (hb : Below w.heap.size w W) => hv.below hb)
  have HZ0 : Hid (BoxH Hd.zero w.heap.size (w.alloc (.cells Hd.zero.cells TH))) := Lib.hid (BoxH.new _ w)
  have HB0 : Hid (Below w.heap.size w (w.alloc (.cells Hd.zero.cells TH))) := Lib.hid (boxHd_below _ w)
  have HBS := Lib.hid (hB.below (boxHd_below Hd.zero w))
  clear hB hn hv
  go_enter Tryd.func10, Tryd.ntmps10
  go_wp2_with (fail)
  generalize hw0 : w.alloc (.cells #[.int .u8 0, .int .u8 0, .int .u8 0, .int .u8 0, .int .u8 0, .string ⟨#[]⟩, .string ⟨#[]⟩, .string ⟨#[]⟩, .string ⟨#[]⟩, .string ⟨#[]⟩, .string ⟨#[]⟩, .string ⟨#[]⟩, .string ⟨#[]⟩, .string ⟨#[]⟩, .string ⟨#[]⟩] TH) = w0
  rw [show w.alloc (.cells Hd.zero.cells TH) = w0 from hw0] at HZ0 HB0 HBS
  clear hw0
  refine (read_ A n c l w0 HBS.out HN.out).mono ?_
  rintro e w1 ⟨rfl, hb1⟩
  have HZ1 := Lib.hid (HZ0.out.below hb1)
  have HB1 := Lib.hid (HB0.out.trans (hb1.mono HB0.out.size))
  have HBS1 := Lib.hid (HBS.out.below hb1)
  clear hb1 HZ0 HBS HB0
  have HVD : Hid (verdictD l = if (readH l).2 = 0 then if (28 : UInt8) ∈ seg1 l then (Hd.zero, ⟨#[]⟩, 10) else ((readH l).1, codeOf (checkD (readH l).1), checkD (readH l).1) else (Hd.zero, ⟨#[]⟩, (readH l).2)) := Lib.hid rfl
  have HKS : Hid (readH l = ((readH l).1, 0) → (readH l).1.a8.size ≤ n ∧ (readH l).1.a9.size ≤ n) := Lib.hid (fun hr => by
    have t := sum_le_of (read_stands hr).2.2
    rw [HL.out] at t
    exact ⟨t.1, t.2.1⟩)
  obtain ⟨h, hh⟩ : ∃ h, h = (readH l).1 := ⟨_, rfl⟩
  obtain ⟨x, hx⟩ : ∃ x, x = (readH l).2 := ⟨_, rfl⟩
  have HPR : Hid (readH l = (h, x)) := Lib.hid (by rw [hh, hx])
  rw [← hh, ← hx] at HVD ⊢
  rw [← hh] at HKS
  clear hh hx
  have HX2 : Hid (BoxH h w1.heap.size (w1.alloc (.cells h.cells TH))) := Lib.hid (BoxH.new h w1)
  have HZ2 : Hid (BoxH Hd.zero w.heap.size (w1.alloc (.cells h.cells TH))) := Lib.hid (HZ1.out.below (boxHd_below h w1))
  have HB2 : Hid (Below w.heap.size w (w1.alloc (.cells h.cells TH))) := Lib.hid (HB1.out.alloc HB1.out.size _)
  have HBS2 : Hid (Bs (w1.alloc (.cells h.cells TH)) A n c l) := Lib.hid (HBS1.out.alloc _)
  have HGG : Hid (w.heap.size < w1.heap.size) := Lib.hid (Array.getElem?_eq_some_iff.1 HZ1.out).1
  by_cases he : x = 0
  · subst he
    rw [if_pos rfl] at HVD
    have HK2 := Lib.hid (HKS.out HPR.out)
    clear HKS
    go_wp2_with (fail)
    obtain ⟨G, hG⟩ : ∃ G, G = w1.heap.size := ⟨_, rfl⟩
    rw [← hG] at HX2 HGG ⊢
    clear hG
    generalize w1.alloc (.cells #[u8 h.d.a, u8 h.d.b, u8 h.d.c, u8 h.d.d, u8 h.d.e, .string h.a0, .string h.a1, .string h.a2, .string h.a3, .string h.a4, .string h.a5, .string h.a6, .string h.a7, .string h.a8, .string h.a9] TH) = w2 at *
    refine (firstSegment_ A n c l w2 HBS2.out).mono ?_
    rintro e w3 ⟨k, rfl, hS3, hb3⟩
    have HX3 := Lib.hid (HX2.out.below hb3)
    have HZ3 := Lib.hid (HZ2.out.below hb3)
    have HB3 := Lib.hid (HB2.out.trans (hb3.mono HB2.out.size))
    have HS3 := Lib.hid hS3
    clear hb3 hS3 HX2 HZ2 HB2 HBS2 HZ1 HB1 HBS1
    go_wp2_with (fail)
    refine (indexByte_any A k c (seg1 l) 28 28 rfl w3 HS3.out).mono ?_
    rintro e w4 ⟨rfl, rfl⟩
    by_cases h28 : (28 : UInt8) ∈ seg1 l
    · as_aux_lemma =>
      have HE : Hid (verdictD l = (Hd.zero, ⟨#[]⟩, 10)) := Lib.hid (by rw [HVD.out, if_pos h28])
      have hi := indexByte_pos h28
      obtain ⟨i, hi2⟩ : ∃ i, i = Lib.indexByte (seg1 l) 28 := ⟨_, rfl⟩
      rw [← hi2] at hi ⊢
      clear h28 hi2
      go_wp2_with (with_reducible refine wpList_storeH w.heap.size Hd.zero Hd.zero (by kernel_rfl) (by kernel_rfl) HZ3.out ?_)
      have HR := Lib.hid (HZ3.out.setRow Hd.zero)
      have HBR := Lib.hid (below_setRow HB3.out (Nat.le_refl _) Hd.zero.cells)
      generalize w3.setRow w.heap.size Hd.zero.cells = w5 at *
      refine bodyPost_ret (v := .tuple #[Hd.zero.v, .string ⟨#[]⟩, .int .i64 10]) ?_ rfl ⟨by rw [HE.out], HBR.out⟩
      exact resultsH3 Tryd.results10 _ _ _ _ _ _ (by kernel_rfl) (by kernel_rfl) (by kernel_rfl) HR.out
    · have HE : Hid (verdictD l = (h, codeOf (checkD h), checkD h)) := Lib.hid (by rw [HVD.out, if_neg h28])
      rw [indexByte_neg h28]
      clear h28
      go_wp2_with (with_reducible refine wpList_loadHG G h (by kernel_rfl) (by kernel_rfl) HX3.out ?_)
      refine (check_ h w3 (HV.out _ HB3.out) (by have := HK2.out.1; have := HN.out; omega) (by have := HK2.out.2; have := HN.out; omega)).mono ?_
      rintro e w5 ⟨rfl, hb5⟩
      have HX5 := Lib.hid (HX3.out.below hb5)
      have HZ5 := Lib.hid (HZ3.out.below hb5)
      have HB5 := Lib.hid (HB3.out.trans (hb5.mono HB3.out.size))
      have HCC := Lib.hid (checkD_cases h)
      clear hb5 HX3 HZ3 HB3
      obtain ⟨K, hK⟩ : ∃ K, K = checkD h := ⟨_, rfl⟩
      rw [← hK] at HE HCC ⊢
      clear hK
      go_wp2_with (fail)
      refine wp_region_held_drew (S := fun W => BoxH h G W ∧ (∃ x, BoxH x w.heap.size W) ∧ Below w.heap.size w W) (by kernel_rfl) ?_ (fun hHeld => ?_)
      · exact ⟨BoxH.drew HX5.out, ⟨_, BoxH.drew HZ5.out⟩, HB5.out.drew⟩
      clear HX5 HZ5 HB5
      generalize w5.drew = w6 at *
      refine wpAnyH_take (i := 0) (oi := ⟨some 23, _, _, _, _, _⟩) (v := h.v) rfl (by kernel_rfl) (by kernel_rfl) (by kernel_rfl) (fun _ _ _ h => h) (Or.inl ⟨by kernel_rfl, ?hy0⟩) hHeld ?r0
      case hy0 =>
        intro W hW
        exact exec_loadH G h (by kernel_rfl) hW.1
      (try simp only [Act.put, List.setIfInBounds_toArray, List.set_cons_zero, List.set_cons_succ])
      refine wpAnyH_take (i := 2) (oi := ⟨some 25, _, _, _, _, _⟩) (v := .int .i64 K) rfl (by kernel_rfl) (by kernel_rfl) (by kernel_rfl) (fun _ _ _ h => h) (Or.inl ⟨by kernel_rfl, ?hy2⟩) hHeld ?r2
      case hy2 =>
        intro W hW
        rfl
      (try simp only [Act.put, List.setIfInBounds_toArray, List.set_cons_zero, List.set_cons_succ])
      refine wpAnyH_take (i := 4) (oi := ⟨some 27, _, _, _, _, _⟩) (v := .int .i64 K) rfl (by kernel_rfl) (by kernel_rfl) (by kernel_rfl) (fun _ _ _ h => h) (Or.inl ⟨by kernel_rfl, ?hy4⟩) hHeld ?r4
      case hy4 =>
        intro W hW
        rfl
      (try simp only [Act.put, List.setIfInBounds_toArray, List.set_cons_zero, List.set_cons_succ])
      have HHL := Lib.hid hHeld
      clear hHeld
      refine wpAnyH_ready (rs := [1]) (by kernel_rfl) (by simp) (AllReadyH.cons (o := _) rfl (fun K' hK => ?_) AllReadyH.nil)
      go_simp
      refine (codes_ _).mono ?_
      rintro e w7 ⟨M, rfl, hM, hb7⟩
      dsimp only
      refine hK.out _ _ ⟨HHL.out.1.below hb7, HHL.out.2.1.imp (fun _ k => k.below hb7), HHL.out.2.2.trans (hb7.mono HHL.out.2.2.size)⟩ (fun hHeld => ?_)
      clear hK K' hb7 HHL
      have HHL := Lib.hid hHeld
      have hH2 : MapIs i64v w7 M codesM := hM
      refine wpAnyH_imp (S' := fun W => (BoxH h G W ∧ (∃ x, BoxH x w.heap.size W) ∧ Below w.heap.size w W) ∧ MapIs i64v W M codesM) (fun _ h => h.1) _ _ _ _ ?_
      have hHeld2 : (BoxH h G w7 ∧ (∃ x, BoxH x w.heap.size w7) ∧ Below w.heap.size w w7) ∧ MapIs i64v w7 M codesM := ⟨hHeld, hH2⟩
      clear hHeld hM hH2
      (try simp only [Act.put, List.setIfInBounds_toArray, List.set_cons_zero, List.set_cons_succ])
      refine wpAnyH_take (i := 3) (oi := ⟨some 26, _, _, _, _, _⟩) (v := .string (codeOf K)) rfl (by kernel_rfl) (by kernel_rfl) (by kernel_rfl) (fun _ _ _ h => h) (Or.inl ⟨by kernel_rfl, ?hy3⟩) hHeld2 ?r3
      case hy3 =>
        intro W hW
        exact exec_code M K (by kernel_rfl) (by kernel_rfl) HCC.out hW.2
      (try simp only [Act.put, List.setIfInBounds_toArray, List.set_cons_zero, List.set_cons_succ])
      have HH2 := Lib.hid hHeld2
      clear hHeld2 HHL
      refine wpAnyH_ready (rs := [5]) (by kernel_rfl) (by simp) (AllReadyH.cons (o := _) rfl (fun K' hK => ?_) AllReadyH.nil)
      rw [if_pos (by kernel_rfl)]
      obtain ⟨x0, hx0⟩ := HH2.out.1.2.1
      have HX0' := Lib.hid hx0
      clear hx0
      refine wp_storeH w.heap.size h x0 (by kernel_rfl) (by kernel_rfl) HX0'.out ?_
      have HR := Lib.hid (HX0'.out.setRow h)
      have HBR := Lib.hid (below_setRow HH2.out.1.2.2 (Nat.le_refl _) h.cells)
      have HGR := Lib.hid (HH2.out.1.1.setRow_other (t := w.heap.size) (by have := HGG.out; omega) h.cells)
      refine hK.out _ _ ⟨⟨HGR.out, ⟨_, HR.out⟩, HBR.out⟩, HH2.out.2.row (setRow_other _ _ _ _ (HH2.out.2.ne HX0'.out))⟩ (fun hHeld => ?_)
      clear hK K' HH2 HX0' HGR
      generalize w7.setRow w.heap.size h.cells = w8 at *
      (try simp only [Act.put])
      refine wpAnyH_take (i := 6) (oi := ⟨some 3, _, _, _, _, _⟩) (v := .string (codeOf K)) rfl (by kernel_rfl) (by kernel_rfl) (by kernel_rfl) (fun _ _ _ h => h) (Or.inl ⟨by kernel_rfl, ?hy6⟩) hHeld ?r6
      case hy6 =>
        intro W hW
        rfl
      (try simp only [Act.put, List.setIfInBounds_toArray, List.set_cons_zero, List.set_cons_succ])
      refine wpAnyH_take (i := 7) (oi := ⟨some 4, _, _, _, _, _⟩) (v := .int .i64 K) rfl (by kernel_rfl) (by kernel_rfl) (by kernel_rfl) (fun _ _ _ h => h) (Or.inl ⟨by kernel_rfl, ?hy7⟩) hHeld ?r7
      case hy7 =>
        intro W hW
        rfl
      (try simp only [Act.put, List.setIfInBounds_toArray, List.set_cons_zero, List.set_cons_succ])
      clear hHeld
      refine wpAnyH_done (by kernel_rfl) ?_ _
      go_wp2_with (fail)
      refine bodyPost_ret (v := .tuple #[h.v, .string (codeOf K), .int .i64 K]) ?_ rfl ⟨by rw [HE.out], HBR.out⟩
      exact resultsH3 Tryd.results10 _ _ _ _ _ _ (by kernel_rfl) (by kernel_rfl) (by kernel_rfl) HR.out
  · as_aux_lemma =>
    rw [if_neg he] at HVD
    have de : (x == 0) = false := by simpa using he
    have de2 : (x != 0) = true := by simpa using he
    clear he
    go_wp2_with (with_reducible refine wpList_storeH w.heap.size Hd.zero Hd.zero (by kernel_rfl) (by kernel_rfl) HZ2.out ?_)
    have HR := Lib.hid (HZ2.out.setRow Hd.zero)
    have HBR := Lib.hid (below_setRow HB2.out (Nat.le_refl _) Hd.zero.cells)
    generalize World.setRow (w1.alloc (.cells h.cells TH)) w.heap.size Hd.zero.cells = w5 at *
    refine bodyPost_ret (v := .tuple #[Hd.zero.v, .string ⟨#[]⟩, .int .i64 x]) ?_ rfl ⟨by rw [HVD.out], HBR.out⟩
    exact resultsH3 Tryd.results10 _ _ _ _ _ _ (by kernel_rfl) (by kernel_rfl) (by kernel_rfl) HR.out
end Go.Proofs.YtgffamdlnacamaaDoor

/- Layer 11: which messages are stored, and what is answered, walked. -/
namespace Go.Proofs.YtgffamdlnacamaaDoor
open Go.RowKit

theorem code_eq0 (cd : ByteArray) : (cd.toList == [65, 65]) = decide (cd = cB 0) := by
  rw [show ([65, 65] : List UInt8) = (cB 0).toList from by decide +kernel]
  exact strEq cd (cB 0)
theorem nil_t : ((⟨#[]⟩ : ByteArray).toList.isEmpty) = true := by decide +kernel
theorem code_isEmpty (e : Int) : (codeOf e).toList.isEmpty = false := by
  unfold codeOf
  split
  · decide +kernel
  · split <;> decide +kernel

set_option maxRecDepth 100000 in
set_option maxHeartbeats 2000000 in
theorem stored_ (A : Option Addr) (n c : Nat) (l : List UInt8) (w : World) (hv : Vers w) (hB : Bs w A n c l) (hn : n ≤ 1000000) :
    Calls Tryd.prog 14 #[.slice A n c] w fun e w' => e = .returned (.bool (decide ((verdictD l).2.1 = cB 0))) ∧ Below w.heap.size w w' := by
  go_enter Tryd.func14, Tryd.ntmps14
  go_wp2_with (fail)
  refine (verdict_ A n c l w hv hB hn).mono ?_
  rintro e w1 ⟨rfl, hb1⟩
  have HB1 := Lib.hid hb1
  clear hb1 hv hB hn
  obtain ⟨g, hg⟩ : ∃ g, g = (verdictD l).1 := ⟨_, rfl⟩
  obtain ⟨cd, hcd⟩ : ∃ cd, cd = (verdictD l).2.1 := ⟨_, rfl⟩
  obtain ⟨K, hK⟩ : ∃ K, K = (verdictD l).2.2 := ⟨_, rfl⟩
  have HCE := Lib.hid hcd
  rw [← hg, ← hcd, ← hK]
  clear hg hcd hK
  have HB2 : Hid (Below w.heap.size w (w1.alloc (.cells g.cells TH))) := Lib.hid (HB1.out.alloc HB1.out.size _)
  have hd := code_eq0 cd
  cases hdd : decide (cd = cB 0)
  · have HE : Hid (decide ((verdictD l).2.1 = cB 0) = false) := Lib.hid (by rw [← HCE.out]; exact hdd)
    rw [hdd] at hd
    clear hdd
    go_wp2_with (fail)
    go_ret
    exact ⟨by rw [HE.out]; rfl, HB2.out⟩
  · have HE : Hid (decide ((verdictD l).2.1 = cB 0) = true) := Lib.hid (by rw [← HCE.out]; exact hdd)
    rw [hdd] at hd
    clear hdd
    go_wp2_with (fail)
    go_ret
    exact ⟨by rw [HE.out]; rfl, HB2.out⟩

/-- a pair: bytes, and whether -/
def RetBN (w : World) (r : List UInt8 × Bool) (e : Ending) (w' : World) : Prop :=
  ∃ A m c, e = .returned (.tuple #[.slice A m c, .bool r.2]) ∧ Bs w' A m c r.1 ∧ (∀ b, A = some b → w.heap.size ≤ b.block) ∧ Below w.heap.size w w'
def RetBB (w : World) (r : List UInt8 × Bool) (e : Ending) (w' : World) : Prop :=
  ∃ A m c, e = .returned (.tuple #[.slice A m c, .bool r.2]) ∧ Bs w' A m c r.1 ∧ Below w.heap.size w w'
theorem RetBN.none_ {w w' : World} {r : List UInt8 × Bool} (h : r = ([], false)) (hb : Below w.heap.size w w') : RetBN w r (.returned (.tuple #[.slice none 0 0, .bool false])) w' := by
  subst h
  exact ⟨none, 0, 0, rfl, Bs.none_ _, (fun b h => by cases h), hb⟩

set_option maxRecDepth 100000 in
set_option maxHeartbeats 4000000 in
theorem reply_n (A : Option Addr) (n c : Nat) (l : List UInt8) (kept : Bool) (w : World) (hv : Vers w) (hs : Signs w) (hc : Cds w) (hB : Bs w A n c l) (hn : n ≤ 29000) :
    Calls Tryd.prog 12 #[.slice A n c, .bool kept] w (RetBN w (replyD l kept)) := by
  have HN := Lib.hid hn
  have HL := Lib.hid hB.len
  have HS := Lib.hid (fun W (hb : Below w.heap.size w W) => hs.below hb)
  have HC := Lib.hid (fun W (hb : Below w.heap.size w W) => hc.below hb)
  have HBS := Lib.hid hB
  go_enter Tryd.func12, Tryd.ntmps12
  go_wp2_with (fail)
  refine (verdict_ A n c l w hv hB (by omega)).mono ?_
  rintro e w1 ⟨rfl, hb1⟩
  have HB1 := Lib.hid hb1
  have HBS1 := Lib.hid (HBS.out.below hb1)
  clear hb1 hv hB hn hs hc HBS
  by_cases hcode : (verdictD l).2.1 = ⟨#[]⟩
  · as_aux_lemma =>
    have HR : Hid (replyD l kept = ([], false)) := Lib.hid (if_pos (.inl hcode))
    rw [hcode]
    obtain ⟨g, hg⟩ : ∃ g, g = (verdictD l).1 := ⟨_, rfl⟩
    obtain ⟨K, hK⟩ : ∃ K, K = (verdictD l).2.2 := ⟨_, rfl⟩
    rw [← hg, ← hK]
    clear hg hK hcode
    have HB2 : Hid (Below w.heap.size w (w1.alloc (.cells g.cells TH))) := Lib.hid (HB1.out.alloc HB1.out.size _)
    go_wp2_with (fail)
    go_ret2
    exact RetBN.none_ HR.out HB2.out
  · obtain ⟨g, hr, h28, hvd⟩ := verdict_some hcode
    have HRP : Hid (replyD l kept = if (verdictD l).2.1 = ⟨#[]⟩ ∨ good l = false then ([], false) else (11 :: ((buildD (verdictD l).1 (if (verdictD l).2.1 = cB 0 ∧ kept = false then cB 1 else (verdictD l).2.1)).1 ++ [28, 13]), true)) := Lib.hid rfl
    rw [hvd] at HRP ⊢
    obtain ⟨cne, ccd, csz⟩ := codeOf_ne (checkD g)
    have ce := code_isEmpty (checkD g)
    obtain ⟨K, hK⟩ : ∃ K, K = checkD g := ⟨_, rfl⟩
    rw [← hK] at HRP cne ccd csz ce ⊢
    obtain ⟨cd, hcd⟩ : ∃ cd, cd = codeOf K := ⟨_, rfl⟩
    rw [← hcd] at HRP cne ccd csz ce ⊢
    have HCD := Lib.hid (And.intro ccd csz)
    have HSU : Hid (g.sum ≤ 290000) := Lib.hid (by
      have t := (sum_le_of (read_stands hr).2.2).2.2
      rw [← Hd.sum_eq, HL.out] at t
      have := HN.out
      omega)
    have HAG := Lib.hid (fun (hl : good l = true) (c' : ByteArray) (hc' : codeD c' = true) => answer_good hr h28 hl hc')
    have HX2 : Hid (BoxH g w1.heap.size (w1.alloc (.cells g.cells TH))) := Lib.hid (BoxH.new g w1)
    have HB2 : Hid (Below w.heap.size w (w1.alloc (.cells g.cells TH))) := Lib.hid (HB1.out.alloc HB1.out.size _)
    have HBS2 : Hid (Bs (w1.alloc (.cells g.cells TH)) A n c l) := Lib.hid (HBS1.out.alloc _)
    have HCN := Lib.hid cne
    clear hK hcd ccd csz hr h28 hvd hcode cne
    go_wp2_with (fail)
    obtain ⟨G, hG⟩ : ∃ G, G = w1.heap.size := ⟨_, rfl⟩
    rw [← hG] at HX2 ⊢
    clear hG HB1 HBS1
    generalize w1.alloc (.cells #[u8 g.d.a, u8 g.d.b, u8 g.d.c, u8 g.d.d, u8 g.d.e, .string g.a0, .string g.a1, .string g.a2, .string g.a3, .string g.a4, .string g.a5, .string g.a6, .string g.a7, .string g.a8, .string g.a9] TH) = w2 at *
    refine (frameGood_b A n c l w2 (HS.out _ HB2.out) HBS2.out (good l) rfl).mono ?_
    rintro e w3 ⟨rfl, hb3⟩
    have HX3 := Lib.hid (HX2.out.below hb3)
    have HB3 := Lib.hid (HB2.out.trans (hb3.mono HB2.out.size))
    clear hb3 HX2 HB2 HBS2 ce
    cases hgl : good l
    · as_aux_lemma =>
      have HR : Hid (replyD l kept = ([], false)) := Lib.hid (by rw [HRP.out, if_pos (.inr hgl)])
      clear hgl
      go_wp2_with (fail)
      go_ret2
      exact RetBN.none_ HR.out HB3.out
    · have HA2 := Lib.hid (HAG.out hgl)
      have HR : Hid (replyD l kept = (11 :: ((buildD g (if cd = cB 0 ∧ kept = false then cB 1 else cd)).1 ++ [28, 13]), true)) := Lib.hid (by
        rw [HRP.out, if_neg]
        rintro (h | h)
        · exact HCN.out h
        · rw [hgl] at h; cases h)
      clear HAG HRP hgl
      have hd := code_eq0 cd
      cases hdd : decide (cd = cB 0)
      · as_aux_lemma =>
        rw [hdd] at hd
        have hnc : cd ≠ cB 0 := of_decide_eq_false hdd
        have HNC := Lib.hid hnc
        clear hdd hnc
        have HR2 : Hid (replyD l kept = (11 :: ((buildD g cd).1 ++ [28, 13]), true)) := Lib.hid (by rw [HR.out, if_neg (fun h => HNC.out h.1)])
        obtain ⟨hbu, hgd⟩ := HA2.out cd HCD.out.1
        have HGD := Lib.hid hgd
        have HBU2 : Hid ((buildD g cd).2 = 0) := Lib.hid (by rw [hbu])
        have HBL := Lib.hid (buildD_len g cd)
        clear hbu hgd
        go_wp2_with (with_reducible refine wpList_loadHG G g (by kernel_rfl) (by kernel_rfl) HX3.out ?_)
        refine (ackBuild g cd w3 (HC.out _ HB3.out) (by have := HSU.out; omega) (by rw [HCD.out.2]; decide)).mono ?_
        rintro e w4 ⟨A4, c4, rfl, hB4, hb4⟩
        have HB4 := Lib.hid (HB3.out.trans (hb4.mono HB3.out.size))
        have HX4 := Lib.hid hB4
        clear hb4 hB4 HX3 HB3
        rw [HBU2.out]
        obtain ⟨X, hX⟩ : ∃ X, X = (buildD g cd).1 := ⟨_, rfl⟩
        rw [← hX] at HR2 HGD HX4 HBL ⊢
        clear hX
        obtain ⟨N, hN⟩ : ∃ N, N = X.length := ⟨_, rfl⟩
        have HNN : Hid (N ≤ 1000000) := Lib.hid (by rw [hN]; have := HBL.out; have := HSU.out; have h2 := HCD.out.2; have h3 : (cB 1).size = 2 := rfl; omega)
        rw [← hN] at HX4 ⊢
        clear hN HBL
        go_wp2_with (fail)
        refine (frameWrap_new A4 N c4 X w4 (HS.out _ HB4.out) HX4.out HGD.out (by have := HNN.out; omega)).mono ?_
        rintro e w5 ⟨A5, c5, rfl, hB5, hf5, hb5⟩
        rw [show ((11 : UInt8) :: (X ++ [28, 13])).length = X.length + 2 + 1 from by simp] at hB5 ⊢
        obtain ⟨N5, hN5⟩ : ∃ N5, N5 = X.length + 2 + 1 := ⟨_, rfl⟩
        rw [← hN5] at hB5 ⊢
        clear hN5
        have HB5 := Lib.hid (HB4.out.trans (hb5.mono HB4.out.size))
        have HX5 := Lib.hid hB5
        have HF5 := Lib.hid (fun b h => Nat.le_trans HB4.out.size (hf5 b h))
        clear hb5 hB5 hf5
        go_wp2_with (fail)
        go_ret2
        exact ⟨A5, N5, c5, by rw [HR2.out]; rfl, by rw [HR2.out]; exact HX5.out, HF5.out, HB5.out⟩
      · have HYC := Lib.hid (of_decide_eq_true hdd)
        rw [hdd] at hd
        clear hdd
        cases kept
        · as_aux_lemma =>
          have HR2 : Hid (replyD l false = (11 :: ((buildD g (cB 1)).1 ++ [28, 13]), true)) := Lib.hid (by rw [HR.out, if_pos ⟨HYC.out, by trivial⟩])
          obtain ⟨hbu, hgd⟩ := HA2.out (cB 1) (by decide +kernel)
          have HGD := Lib.hid hgd
          have HBU2 : Hid ((buildD g (cB 1)).2 = 0) := Lib.hid (by rw [hbu])
          have HBL := Lib.hid (buildD_len g (cB 1))
          clear hbu hgd
          go_wp2_with (with_reducible refine wpList_loadHG G g (by kernel_rfl) (by kernel_rfl) HX3.out ?_)
          refine (ackBuild g (cB 1) w3 (HC.out _ HB3.out) (by have := HSU.out; omega) (by decide)).mono ?_
          rintro e w4 ⟨A4, c4, rfl, hB4, hb4⟩
          have HB4 := Lib.hid (HB3.out.trans (hb4.mono HB3.out.size))
          have HX4 := Lib.hid hB4
          clear hb4 hB4 HX3 HB3
          rw [HBU2.out]
          obtain ⟨X, hX⟩ : ∃ X, X = (buildD g (cB 1)).1 := ⟨_, rfl⟩
          rw [← hX] at HR2 HGD HX4 HBL ⊢
          clear hX
          obtain ⟨N, hN⟩ : ∃ N, N = X.length := ⟨_, rfl⟩
          have HNN : Hid (N ≤ 1000000) := Lib.hid (by rw [hN]; have := HBL.out; have := HSU.out; have h2 := HCD.out.2; have h3 : (cB 1).size = 2 := rfl; omega)
          rw [← hN] at HX4 ⊢
          clear hN HBL
          go_wp2_with (fail)
          refine (frameWrap_new A4 N c4 X w4 (HS.out _ HB4.out) HX4.out HGD.out (by have := HNN.out; omega)).mono ?_
          rintro e w5 ⟨A5, c5, rfl, hB5, hf5, hb5⟩
          rw [show ((11 : UInt8) :: (X ++ [28, 13])).length = X.length + 2 + 1 from by simp] at hB5 ⊢
          obtain ⟨N5, hN5⟩ : ∃ N5, N5 = X.length + 2 + 1 := ⟨_, rfl⟩
          rw [← hN5] at hB5 ⊢
          clear hN5
          have HB5 := Lib.hid (HB4.out.trans (hb5.mono HB4.out.size))
          have HX5 := Lib.hid hB5
          have HF5 := Lib.hid (fun b h => Nat.le_trans HB4.out.size (hf5 b h))
          clear hb5 hB5 hf5
          go_wp2_with (fail)
          go_ret2
          exact ⟨A5, N5, c5, by rw [HR2.out]; rfl, by rw [HR2.out]; exact HX5.out, HF5.out, HB5.out⟩
        · as_aux_lemma =>
          have HR2 : Hid (replyD l true = (11 :: ((buildD g cd).1 ++ [28, 13]), true)) := Lib.hid (by rw [HR.out, if_neg (fun h => by simp at h)])
          obtain ⟨hbu, hgd⟩ := HA2.out cd HCD.out.1
          have HGD := Lib.hid hgd
          have HBU2 : Hid ((buildD g cd).2 = 0) := Lib.hid (by rw [hbu])
          have HBL := Lib.hid (buildD_len g cd)
          clear hbu hgd
          go_wp2_with (with_reducible refine wpList_loadHG G g (by kernel_rfl) (by kernel_rfl) HX3.out ?_)
          refine (ackBuild g cd w3 (HC.out _ HB3.out) (by have := HSU.out; omega) (by rw [HCD.out.2]; decide)).mono ?_
          rintro e w4 ⟨A4, c4, rfl, hB4, hb4⟩
          have HB4 := Lib.hid (HB3.out.trans (hb4.mono HB3.out.size))
          have HX4 := Lib.hid hB4
          clear hb4 hB4 HX3 HB3
          rw [HBU2.out]
          obtain ⟨X, hX⟩ : ∃ X, X = (buildD g cd).1 := ⟨_, rfl⟩
          rw [← hX] at HR2 HGD HX4 HBL ⊢
          clear hX
          obtain ⟨N, hN⟩ : ∃ N, N = X.length := ⟨_, rfl⟩
          have HNN : Hid (N ≤ 1000000) := Lib.hid (by rw [hN]; have := HBL.out; have := HSU.out; have h2 := HCD.out.2; have h3 : (cB 1).size = 2 := rfl; omega)
          rw [← hN] at HX4 ⊢
          clear hN HBL
          go_wp2_with (fail)
          refine (frameWrap_new A4 N c4 X w4 (HS.out _ HB4.out) HX4.out HGD.out (by have := HNN.out; omega)).mono ?_
          rintro e w5 ⟨A5, c5, rfl, hB5, hf5, hb5⟩
          rw [show ((11 : UInt8) :: (X ++ [28, 13])).length = X.length + 2 + 1 from by simp] at hB5 ⊢
          obtain ⟨N5, hN5⟩ : ∃ N5, N5 = X.length + 2 + 1 := ⟨_, rfl⟩
          rw [← hN5] at hB5 ⊢
          clear hN5
          have HB5 := Lib.hid (HB4.out.trans (hb5.mono HB4.out.size))
          have HX5 := Lib.hid hB5
          have HF5 := Lib.hid (fun b h => Nat.le_trans HB4.out.size (hf5 b h))
          clear hb5 hB5 hf5
          go_wp2_with (fail)
          go_ret2
          exact ⟨A5, N5, c5, by rw [HR2.out]; rfl, by rw [HR2.out]; exact HX5.out, HF5.out, HB5.out⟩
theorem reply_ (A : Option Addr) (n c : Nat) (l : List UInt8) (kept : Bool) (w : World) (hv : Vers w) (hs : Signs w) (hc : Cds w) (hB : Bs w A n c l) (hn : n ≤ 29000) :
    Calls Tryd.prog 12 #[.slice A n c, .bool kept] w (RetBB w (replyD l kept)) :=
  (reply_n A n c l kept w hv hs hc hB hn).mono (fun _ _ ⟨A', m, c', e, hb, _, h⟩ => ⟨A', m, c', e, hb, h⟩)
end Go.Proofs.YtgffamdlnacamaaDoor

/- Layer 11: the document's examples, walked. -/
namespace Go.Proofs.YtgffamdlnacamaaDoor
open Go.RowKit

abbrev lvA : List UInt8 := [77, 83, 72, 124, 94, 126, 92, 38, 124, 124, 124, 124, 124, 124, 124, 65, 68, 84, 124, 55, 124, 80, 124, 50, 46, 53]
abbrev lvB : List UInt8 := [77, 83, 72, 124, 94, 126, 92, 38, 124, 124, 124, 124, 124, 124, 124, 65, 68, 84, 124, 55, 124, 80, 124, 57]
abbrev lvO : List UInt8 := [11, 77, 83, 72, 124, 94, 126, 92, 38, 124, 124, 124, 124, 124, 124, 124, 65, 67, 75, 124, 55, 124, 80, 124, 50, 46, 53, 13, 77, 83, 65, 124, 65, 69, 124, 55, 13, 28, 13]
theorem live11 : (verdictD lvA).2 = (⟨#[65, 65]⟩, 0) ∧ (verdictD lvB).2 = (⟨#[65, 82]⟩, 12) ∧ replyD lvA false = (lvO, true) := by
  decide +kernel

set_option maxHeartbeats 8000000 in
set_option maxRecDepth 100000 in
theorem alive11 (w : World) (hv : Vers w) (hs : Signs w) (hc : Cds w) : Calls Tryd.prog 9 #[] w (True_ w) := by
  have HV := Lib.hid (fun W (hb : Below w.heap.size w W) => hv.below hb)
  have HS := Lib.hid (fun W (hb : Below w.heap.size w W) => hs.below hb)
  have HC := Lib.hid (fun W (hb : Below w.heap.size w W) => hc.below hb)
  clear hv hs hc
  go_enter Tryd.func9, Tryd.ntmps9
  have hcv := fun w C n c => Lib.run_convert_bytes_const (P := Tryd.prog) w 22 5 C n c Tryd.underlying22 Tryd.underlying5
  have HBS : Hid (Bs (w.alloc (.cells #[.int .u8 77, .int .u8 83, .int .u8 72, .int .u8 124, .int .u8 94, .int .u8 126, .int .u8 92, .int .u8 38, .int .u8 124, .int .u8 124, .int .u8 124, .int .u8 124, .int .u8 124, .int .u8 124, .int .u8 124, .int .u8 65, .int .u8 68, .int .u8 84, .int .u8 124, .int .u8 55, .int .u8 124, .int .u8 80, .int .u8 124, .int .u8 50, .int .u8 46, .int .u8 53] 5 (26, 27))) (some ⟨w.heap.size, 0, none⟩) 26 26 lvA) := Lib.hid (Bs.litText w lvA 5 _ _ _ _ rfl rfl rfl (by simp [maxLen]))
  have HB0 : Hid (Below w.heap.size w (w.alloc (.cells #[.int .u8 77, .int .u8 83, .int .u8 72, .int .u8 124, .int .u8 94, .int .u8 126, .int .u8 92, .int .u8 38, .int .u8 124, .int .u8 124, .int .u8 124, .int .u8 124, .int .u8 124, .int .u8 124, .int .u8 124, .int .u8 65, .int .u8 68, .int .u8 84, .int .u8 124, .int .u8 55, .int .u8 124, .int .u8 80, .int .u8 124, .int .u8 50, .int .u8 46, .int .u8 53] 5 (26, 27)))) := Lib.hid ((Below.refl _ w).alloc (Nat.le_refl _) _)
  go_wp2_with (fail)
  generalize w.alloc (.cells #[.int .u8 77, .int .u8 83, .int .u8 72, .int .u8 124, .int .u8 94, .int .u8 126, .int .u8 92, .int .u8 38, .int .u8 124, .int .u8 124, .int .u8 124, .int .u8 124, .int .u8 124, .int .u8 124, .int .u8 124, .int .u8 65, .int .u8 68, .int .u8 84, .int .u8 124, .int .u8 55, .int .u8 124, .int .u8 80, .int .u8 124, .int .u8 50, .int .u8 46, .int .u8 53] 5 (26, 27)) = w0 at *
  refine (verdict_ _ 26 26 lvA w0 (HV.out _ HB0.out) HBS.out (by omega)).mono ?_
  rintro e w1 ⟨rfl, hb1⟩
  obtain ⟨k1, k2, k3⟩ := live11
  obtain ⟨g1, hg1⟩ : ∃ g, g = (verdictD lvA).1 := ⟨_, rfl⟩
  rw [← hg1, k1]
  have HB1 := Lib.hid (HB0.out.trans (hb1.mono HB0.out.size))
  have HBS1 := Lib.hid (HBS.out.below hb1)
  have K2 := Lib.hid k2
  have K3 := Lib.hid k3
  clear hb1 hg1 k1 k2 k3 HB0 HBS
  have HB2 : Hid (Below w.heap.size w (w1.alloc (.cells g1.cells TH))) := Lib.hid (HB1.out.alloc HB1.out.size _)
  have HBS2 : Hid (Bs (w1.alloc (.cells g1.cells TH)) (some ⟨w.heap.size, 0, none⟩) 26 26 lvA) := Lib.hid (HBS1.out.alloc _)
  have HB3 : Hid (Below w.heap.size w ((w1.alloc (.cells g1.cells TH)).alloc (.cells #[.int .u8 77, .int .u8 83, .int .u8 72, .int .u8 124, .int .u8 94, .int .u8 126, .int .u8 92, .int .u8 38, .int .u8 124, .int .u8 124, .int .u8 124, .int .u8 124, .int .u8 124, .int .u8 124, .int .u8 124, .int .u8 65, .int .u8 68, .int .u8 84, .int .u8 124, .int .u8 55, .int .u8 124, .int .u8 80, .int .u8 124, .int .u8 57] 5 (24, 25)))) := Lib.hid (HB2.out.alloc HB2.out.size _)
  have HBS3 : Hid (Bs ((w1.alloc (.cells g1.cells TH)).alloc (.cells #[.int .u8 77, .int .u8 83, .int .u8 72, .int .u8 124, .int .u8 94, .int .u8 126, .int .u8 92, .int .u8 38, .int .u8 124, .int .u8 124, .int .u8 124, .int .u8 124, .int .u8 124, .int .u8 124, .int .u8 124, .int .u8 65, .int .u8 68, .int .u8 84, .int .u8 124, .int .u8 55, .int .u8 124, .int .u8 80, .int .u8 124, .int .u8 57] 5 (24, 25))) (some ⟨w.heap.size, 0, none⟩) 26 26 lvA) := Lib.hid (HBS2.out.alloc _)
  have HBT3 : Hid (Bs ((w1.alloc (.cells g1.cells TH)).alloc (.cells #[.int .u8 77, .int .u8 83, .int .u8 72, .int .u8 124, .int .u8 94, .int .u8 126, .int .u8 92, .int .u8 38, .int .u8 124, .int .u8 124, .int .u8 124, .int .u8 124, .int .u8 124, .int .u8 124, .int .u8 124, .int .u8 65, .int .u8 68, .int .u8 84, .int .u8 124, .int .u8 55, .int .u8 124, .int .u8 80, .int .u8 124, .int .u8 57] 5 (24, 25))) (some ⟨w1.heap.size + 1, 0, none⟩) 24 24 lvB) := Lib.hid (Bs.litText (w1.alloc (.cells g1.cells TH)) lvB 5 _ _ _ _ (World.size_alloc _ _).symm rfl rfl (by simp [maxLen]))
  have hcv2 : (convert 22 22 (.slice (some ⟨w1.heap.size + 1, 0, none⟩) 24 24)).run Tryd.prog ((w1.alloc (.cells g1.cells TH)).alloc (.cells #[.int .u8 77, .int .u8 83, .int .u8 72, .int .u8 124, .int .u8 94, .int .u8 126, .int .u8 92, .int .u8 38, .int .u8 124, .int .u8 124, .int .u8 124, .int .u8 124, .int .u8 124, .int .u8 124, .int .u8 124, .int .u8 65, .int .u8 68, .int .u8 84, .int .u8 124, .int .u8 55, .int .u8 124, .int .u8 80, .int .u8 124, .int .u8 57] 5)) = .ok (.slice (some ⟨w1.heap.size + 1, 0, none⟩) 24 24) ((w1.alloc (.cells g1.cells TH)).alloc (.cells #[.int .u8 77, .int .u8 83, .int .u8 72, .int .u8 124, .int .u8 94, .int .u8 126, .int .u8 92, .int .u8 38, .int .u8 124, .int .u8 124, .int .u8 124, .int .u8 124, .int .u8 124, .int .u8 124, .int .u8 124, .int .u8 65, .int .u8 68, .int .u8 84, .int .u8 124, .int .u8 55, .int .u8 124, .int .u8 80, .int .u8 124, .int .u8 57] 5 (24, 25))) := by
    have t := hcv (w1.alloc (.cells g1.cells TH)) #[.int .u8 77, .int .u8 83, .int .u8 72, .int .u8 124, .int .u8 94, .int .u8 126, .int .u8 92, .int .u8 38, .int .u8 124, .int .u8 124, .int .u8 124, .int .u8 124, .int .u8 124, .int .u8 124, .int .u8 124, .int .u8 65, .int .u8 68, .int .u8 84, .int .u8 124, .int .u8 55, .int .u8 124, .int .u8 80, .int .u8 124, .int .u8 57] 24 24
    rw [World.size_alloc] at t
    exact t
  go_wp2_with (fail)
  clear hcv2
  obtain ⟨G2, hG2⟩ : ∃ y, y = w1.heap.size + 1 := ⟨_, rfl⟩
  rw [← hG2] at HBT3 ⊢
  clear hG2 hcv HBS1 HB1 HB2 HBS2
  generalize hw3 : (w1.alloc (.cells g1.cells TH)).alloc (.cells #[.int .u8 77, .int .u8 83, .int .u8 72, .int .u8 124, .int .u8 94, .int .u8 126, .int .u8 92, .int .u8 38, .int .u8 124, .int .u8 124, .int .u8 124, .int .u8 124, .int .u8 124, .int .u8 124, .int .u8 124, .int .u8 65, .int .u8 68, .int .u8 84, .int .u8 124, .int .u8 55, .int .u8 124, .int .u8 80, .int .u8 124, .int .u8 57] 5 (24, 25)) = w3 at *
  clear hw3
  refine (verdict_ _ 24 24 lvB w3 (HV.out _ HB3.out) HBT3.out (by omega)).mono ?_
  rintro e w4 ⟨rfl, hb4⟩
  obtain ⟨g2, hg2⟩ : ∃ g, g = (verdictD lvB).1 := ⟨_, rfl⟩
  rw [← hg2, K2.out]
  have HB4 := Lib.hid (HB3.out.trans (hb4.mono HB3.out.size))
  have HBS4 := Lib.hid (HBS3.out.below hb4)
  clear hb4 hg2 HB3 HBS3 HBT3
  have HB5 : Hid (Below w.heap.size w (w4.alloc (.cells g2.cells TH))) := Lib.hid (HB4.out.alloc HB4.out.size _)
  have HBS5 : Hid (Bs (w4.alloc (.cells g2.cells TH)) (some ⟨w.heap.size, 0, none⟩) 26 26 lvA) := Lib.hid (HBS4.out.alloc _)
  go_wp2_with (fail)
  generalize hw5 : w4.alloc (.cells g2.cells TH) = w5 at HB5 HBS5
  clear hw5
  refine (reply_ _ 26 26 lvA false w5 (HV.out _ HB5.out) (HS.out _ HB5.out) (HC.out _ HB5.out) HBS5.out (by omega)).mono ?_
  rintro e w6 ⟨A6, m6, c6, rfl, hB6, hb6⟩
  rw [K3.out] at hB6 ⊢
  have HB6 := Lib.hid (HB5.out.trans (hb6.mono HB5.out.size))
  have hcs := hB6.str (P := Tryd.prog) 22 5 9 Tryd.underlying22 Tryd.underlying5 Tryd.underlying9
  have ds : ((txt lvO).toList == [11, 77, 83, 72, 124, 94, 126, 92, 38, 124, 124, 124, 124, 124, 124, 124, 65, 67, 75, 124, 55, 124, 80, 124, 50, 46, 53, 13, 77, 83, 65, 124, 65, 69, 124, 55, 13, 28, 13]) = true := by rw [Go.ByteArray.toList_eq]; decide
  obtain ⟨S, hS⟩ : ∃ S, S = txt lvO := ⟨_, rfl⟩
  have hcs2 : (convert 22 9 (.slice A6 m6 c6)).run Tryd.prog w6 = .ok (.string S) w6 := by rw [hS]; exact hcs
  rw [← hS] at ds
  clear hB6 hcs hb6 hS HBS5 HB5 HBS4 HB4
  go_wp2_with (fail)
  go_ret
  exact ⟨rfl, HB6.out⟩
end Go.Proofs.YtgffamdlnacamaaDoor
