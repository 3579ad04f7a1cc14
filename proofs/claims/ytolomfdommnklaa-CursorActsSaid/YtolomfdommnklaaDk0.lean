/- Layer 2: a disk in memory: what it is, and what a change of a part of it leaves. -/
import Derived.Test.YtolomfdommnklaaMaps3
namespace Go.Proofs.Ytolomfdommnklaa
open Go.RowKit Go.MapKept

/-- a file: its bytes, how many are safe -/
structure Fl where
  bs : List UInt8
  safe : Nat
/-- a file where it lies: its name, its block, its row -/
structure Ent where
  nm : ByteArray
  g : Nat
  v : Value
  f : Fl
/-- a disk's numbers -/
structure Dk where
  room : Int
  used : Int
  ops : Int
  failIn : Int
  armedIn : Int
  armKeep : Int
abbrev TD : TypeId := 80
abbrev TF : TypeId := 93
abbrev pf (g : Nat) : Value := .pointer (some ⟨g, 0, none⟩)
abbrev dkCells (M : Nat) (d : Dk) : Array Value := #[.map (some M), .int .i64 d.room, .int .i64 d.used, .int .i64 d.ops, .int .i64 d.failIn, .int .i64 d.armedIn, .int .i64 d.armKeep]
abbrev dkObj (M : Nat) (d : Dk) : Obj := .cells (dkCells M d) TD
abbrev fObj (v : Value) (n : Nat) : Obj := .cells #[v, .int .i64 (n : Int)] TF
abbrev mapL (F : List Ent) : List (ByteArray × Value) := F.map fun e => (e.nm, pf e.g)
/-- two files lie apart -/
def Apart (a b : Ent) : Prop := a.g ≠ b.g ∧ ∀ k, a.v.ownBlock = some k → b.v.ownBlock ≠ some k
theorem Apart.symm {a b : Ent} (h : Apart a b) : Apart b a := ⟨h.1.symm, fun k hb ha => h.2 k ha hb⟩
structure FileAt (w : World) (B : Nat) (e : Ent) : Prop where
  base : B ≤ e.g
  row : w.heap[e.g]? = some (fObj e.v e.f.safe)
  own : Own 5 w B e.v e.f.bs
structure DkAt (w : World) (B D M : Nat) (d : Dk) (F : List Ent) : Prop where
  hD : B ≤ D
  hM : B ≤ M
  row : w.heap[D]? = some (dkObj M d)
  map : MapIs (.string) w M (mapL F)
  files : ∀ e ∈ F, FileAt w B e
  apart : F.Pairwise Apart
  names : (F.map (·.nm)).Nodup
/-- the files' blocks -/
def Foot (F : List Ent) (k : Nat) : Prop := ∃ e ∈ F, k = e.g ∨ e.v.ownBlock = some k
/-- the disk's blocks -/
def DFoot (D M : Nat) (F : List Ent) (k : Nat) : Prop := k = D ∨ k = M ∨ Foot F k
section
variable {w w' : World} {B D M : Nat} {d d' : Dk} {F F' : List Ent}
theorem FileAt.lt {e : Ent} (h : FileAt w B e) : e.g < w.heap.size := (Array.getElem?_eq_some_iff.1 h.row).1
theorem DkAt.lt (h : DkAt w B D M d F) : D < w.heap.size := (Array.getElem?_eq_some_iff.1 h.row).1
theorem FileAt.ch {e : Ent} {S : Nat → Prop} (h : FileAt w B e) (c : Ch S w w') (h1 : ¬ S e.g) (h2 : ∀ k, e.v.ownBlock = some k → ¬ S k) : FileAt w' B e := ⟨h.base, c.row h.row h1, h.own.ch c h2⟩
theorem FileAt.neD {e : Ent} (h : FileAt w B e) (hD : w.heap[D]? = some (dkObj M d)) : e.g ≠ D ∧ e.v.ownBlock ≠ some D := by
  refine ⟨fun h2 => ?_, (own_ne h.own hD (by decide)).symm⟩
  have h3 := h.row
  rw [h2, hD] at h3
  simp only [Option.some.injEq, Obj.cells.injEq] at h3
  exact absurd h3.2.1 (by decide)
theorem FileAt.neM {e : Ent} {L : List (ByteArray × Value)} (h : FileAt w B e) (hM : MapIs (.string) w M L) : e.g ≠ M ∧ e.v.ownBlock ≠ some M := by
  refine ⟨(hM.ne h.row).symm, fun h2 => ?_⟩
  obtain ⟨cur, hc⟩ := own_ty h.own M h2
  exact hM.ne hc rfl
theorem DkAt.neDM (h : DkAt w B D M d F) : M ≠ D := h.map.ne h.row
/-- other blocks changed -/
theorem DkAt.ch {S : Nat → Prop} (h : DkAt w B D M d F) (c : Ch S w w') (hS : ∀ k, DFoot D M F k → ¬ S k) : DkAt w' B D M d F :=
  ⟨h.hD, h.hM, c.row h.row (hS D (.inl rfl)), h.map.ch c (hS M (.inr (.inl rfl))), fun e he => (h.files e he).ch c (hS _ (.inr (.inr ⟨e, he, .inl rfl⟩))) (fun k hk => hS k (.inr (.inr ⟨e, he, .inr hk⟩))), h.apart, h.names⟩
theorem DkAt.foot_lt (h : DkAt w B D M d F) {k : Nat} (hk : DFoot D M F k) : B ≤ k ∧ k < w.heap.size := by
  rcases hk with rfl | rfl | ⟨e, he, rfl | hk⟩
  · exact ⟨h.hD, h.lt⟩
  · exact ⟨h.hM, h.map.lt⟩
  · exact ⟨(h.files e he).base, (h.files e he).lt⟩
  · exact (h.files e he).own.lt k hk
theorem DkAt.below (h : DkAt w B D M d F) (hb : Below w.heap.size w w') : DkAt w' B D M d F :=
  h.ch (Ch.of_below (S := fun k => w.heap.size ≤ k) hb) (fun k hk h2 => by have := (h.foot_lt hk).2; omega)
/-- the disk's own numbers changed -/
theorem DkAt.nums (h : DkAt w B D M d F) (c : Ch (At1 D) w w') (hr : w'.heap[D]? = some (dkObj M d')) : DkAt w' B D M d' F :=
  ⟨h.hD, h.hM, hr, h.map.ch c h.neDM, fun e he => (h.files e he).ch c ((h.files e he).neD h.row).1 (fun k hk h2 => ((h.files e he).neD h.row).2 (by rw [hk, h2])), h.apart, h.names⟩
theorem DkAt.cell (h : DkAt w B D M d F) (j : Nat) : w.cell? ⟨D, j, none⟩ = (dkCells M d)[j]? := cell_of_row w D j _ _ _ h.row
theorem DkAt.frozen (h : DkAt w B D M d F) (j : Nat) : w.frozen? ⟨D, j, none⟩ = false := by
  simp [World.frozen?, h.row]
theorem FileAt.cell {e : Ent} (h : FileAt w B e) (j : Nat) : w.cell? ⟨e.g, j, none⟩ = (#[e.v, Value.int .i64 (e.f.safe : Int)] : Array Value)[j]? := cell_of_row w e.g j _ _ _ h.row
theorem FileAt.frozen {e : Ent} (h : FileAt w B e) (j : Nat) : w.frozen? ⟨e.g, j, none⟩ = false := by
  simp [World.frozen?, h.row]
/-- what a call may do to a disk's blocks: only these were written, and the files' blocks are these, or new ones -/
structure DkCh (D M : Nat) (F F' : List Ent) (w w' : World) : Prop where
  ch : Ch (DFoot D M F) w w'
  foot : ∀ k, Foot F' k → Foot F k ∨ w.heap.size ≤ k
theorem DkCh.refl (D M : Nat) (F : List Ent) (w : World) : DkCh D M F F w w := ⟨Ch.refl _ _, fun _ h => .inl h⟩
theorem DkCh.trans {w1 : World} {F1 : List Ent} (h : DkCh D M F F1 w w1) (k : DkCh D M F1 F' w1 w') : DkCh D M F F' w w' :=
  ⟨h.ch.trans k.ch (fun x hx hf => by
    rcases hf with h1 | h1 | h1
    · exact .inl h1
    · exact .inr (.inl h1)
    · rcases h.foot x h1 with h2 | h2
      · exact .inr (.inr h2)
      · omega), fun x hx => by
    rcases k.foot x hx with h1 | h1
    · exact h.foot x h1
    · exact .inr (Nat.le_trans h.ch.size h1)⟩
theorem DkCh.of_below (hb : Below w.heap.size w w') : DkCh D M F F w w' := ⟨Ch.of_below hb, fun _ h => .inl h⟩
theorem DkCh.of1 (c : Ch (At1 D) w w') : DkCh D M F F w w' := ⟨(Ch.refl (DFoot D M F) w).trans c (fun _ _ h => .inl h), fun _ h => .inl h⟩
theorem DkCh.below (h : DkAt w B D M d F) (c : DkCh D M F F' w w') (hB : B ≤ w.heap.size) : Below B w w' := c.ch.below (fun _ hk => (h.foot_lt hk).1) hB
theorem heap_set_row {w : World} {g j : Nat} {C : Array Value} {t : TypeId} {fz : Nat × Nat} (h : w.heap[g]? = some (.cells C t fz)) (u : Value) : (w.setCell ⟨g, j, none⟩ u).heap[g]? = some (.cells (C.setIfInBounds j u) t fz) := by
  simp [World.setCell, Array.getElem?_modify, h]
end
/-- a name's place -/
theorem aget_split (F : List Ent) (n : ByteArray) : (aget (mapL F) n = none ∧ ∀ e ∈ F, e.nm ≠ n) ∨ ∃ P e Q, F = P ++ e :: Q ∧ e.nm = n ∧ aget (mapL F) n = some (pf e.g) ∧ ∀ x ∈ P, x.nm ≠ n := by
  induction F with
  | nil => exact .inl ⟨rfl, fun _ h => by cases h⟩
  | cons a r ih =>
    by_cases h : n = a.nm
    · exact .inr ⟨[], a, r, rfl, h.symm, by simp [mapL, aget, h], fun _ h => by cases h⟩
    · rcases ih with ⟨h1, h2⟩ | ⟨P, e, Q, rfl, h1, h2, h3⟩
      · refine .inl ⟨by simp only [mapL, List.map_cons, aget]; rw [if_neg h]; exact h1, fun e he => ?_⟩
        rcases List.mem_cons.1 he with rfl | he
        · exact fun e => h e.symm
        · exact h2 e he
      · refine .inr ⟨a :: P, e, Q, rfl, h1, by simp only [mapL, List.map_cons, aget]; rw [if_neg h]; exact h2, fun x hx => ?_⟩
        rcases List.mem_cons.1 hx with rfl | hx
        · exact fun e => h e.symm
        · exact h3 x hx
/-- the files as they are told -/
abbrev Fs := List (ByteArray × Fl)
abbrev fsOf (F : List Ent) : Fs := F.map fun e => (e.nm, e.f)
def fget : Fs → ByteArray → Option Fl
  | [], _ => none
  | (a, v) :: r, k => if k = a then some v else fget r k
/-- a file anew, or behind the others -/
def fput : Fs → ByteArray → Fl → Fs
  | [], k, v => [(k, v)]
  | (a, u) :: r, k, v => if k = a then (k, v) :: r else (a, u) :: fput r k v
def fdel : Fs → ByteArray → Fs
  | [], _ => []
  | (a, u) :: r, k => if k = a then r else (a, u) :: fdel r k
theorem fget_none {F : List Ent} {n : ByteArray} (h : ∀ e ∈ F, e.nm ≠ n) : fget (fsOf F) n = none := by
  induction F with
  | nil => rfl
  | cons a r ih =>
    simp only [fsOf, List.map_cons, fget]
    rw [if_neg (fun e => h a (by simp) e.symm)]
    exact ih (fun e he => h e (by simp [he]))
theorem fget_at {P Q : List Ent} {e : Ent} (h : ∀ x ∈ P, x.nm ≠ e.nm) : fget (fsOf (P ++ e :: Q)) e.nm = some e.f := by
  induction P with
  | nil => simp [fsOf, fget]
  | cons a r ih =>
    simp only [fsOf, List.cons_append, List.map_cons, fget]
    rw [if_neg (fun e2 => h a (by simp) e2.symm)]
    exact ih (fun x hx => h x (by simp [hx]))
theorem fput_none {F : List Ent} {n : ByteArray} (f : Fl) (h : ∀ e ∈ F, e.nm ≠ n) : fput (fsOf F) n f = fsOf F ++ [(n, f)] := by
  induction F with
  | nil => rfl
  | cons a r ih =>
    simp only [fsOf, List.map_cons, fput, List.cons_append]
    rw [if_neg (fun e => h a (by simp) e.symm)]
    rw [ih (fun e he => h e (by simp [he]))]
theorem fput_at {P Q : List Ent} {e : Ent} (f : Fl) (h : ∀ x ∈ P, x.nm ≠ e.nm) (g : Nat) (v : Value) : fput (fsOf (P ++ e :: Q)) e.nm f = fsOf (P ++ ⟨e.nm, g, v, f⟩ :: Q) := by
  induction P with
  | nil => simp [fsOf, fput]
  | cons a r ih =>
    simp only [fsOf, List.cons_append, List.map_cons, fput]
    rw [if_neg (fun e2 => h a (by simp) e2.symm)]
    have := ih (fun x hx => h x (by simp [hx]))
    simp only [fsOf] at this
    rw [this]
theorem fdel_at {P Q : List Ent} {e : Ent} (h : ∀ x ∈ P, x.nm ≠ e.nm) : fdel (fsOf (P ++ e :: Q)) e.nm = fsOf (P ++ Q) := by
  induction P with
  | nil => simp [fsOf, fdel]
  | cons a r ih =>
    simp only [fsOf, List.cons_append, List.map_cons, fdel]
    rw [if_neg (fun e2 => h a (by simp) e2.symm)]
    have := ih (fun x hx => h x (by simp [hx]))
    simp only [fsOf] at this
    rw [this]
section
variable {w w' : World} {B D M : Nat} {d d' : Dk} {F : List Ent}
/-- a file changed -/
theorem DkAt.file {P Q : List Ent} {e : Ent} (h : DkAt w B D M d (P ++ e :: Q)) (c : Ch (fun k => k = e.g ∨ e.v.ownBlock = some k) w w') (v : Value) (f : Fl)
    (hr : w'.heap[e.g]? = some (fObj v f.safe)) (ho : Own 5 w' B v f.bs) (hv : ∀ k, v.ownBlock = some k → e.v.ownBlock = some k ∨ w.heap.size ≤ k) :
    DkAt w' B D M d (P ++ ⟨e.nm, e.g, v, f⟩ :: Q) ∧ DkCh D M (P ++ e :: Q) (P ++ ⟨e.nm, e.g, v, f⟩ :: Q) w w' := by
  have he := h.files e (by simp)
  have hap := h.apart
  have hother : ∀ x ∈ P ++ Q, Apart x e ∧ FileAt w B x := fun x hx => by
    rw [List.pairwise_append] at hap
    rcases List.mem_append.1 hx with hx | hx
    · exact ⟨hap.2.2 x hx e (by simp), h.files x (by simp [hx])⟩
    · exact ⟨((List.pairwise_cons.1 hap.2.1).1 x hx).symm, h.files x (by simp [hx])⟩
  have hnew : ∀ x ∈ P ++ Q, Apart x ⟨e.nm, e.g, v, f⟩ := fun x hx => by
    obtain ⟨⟨h1, h2⟩, h3⟩ := hother x hx
    refine ⟨h1, fun k hk hk2 => ?_⟩
    rcases hv k hk2 with h4 | h4
    · exact h2 k hk h4
    · have := (h3.own.lt k hk).2; omega
  refine ⟨⟨h.hD, h.hM, c.row h.row (fun hs => ?_), h.map.ch c (fun hs => ?_) |> fun hm => by simpa [mapL] using hm, fun x hx => ?_, ?_, by have := h.names; simpa using this⟩, ⟨(Ch.refl _ w).trans c (fun k _ hk => .inr (.inr ⟨e, by simp, hk⟩)), fun k hk => ?_⟩⟩
  · rcases hs with hs | hs
    · exact (he.neD h.row).1 hs.symm
    · exact (he.neD h.row).2 hs
  · rcases hs with hs | hs
    · exact (he.neM h.map).1 hs.symm
    · exact (he.neM h.map).2 hs
  · rcases List.mem_append.1 hx with hx | hx
    · obtain ⟨⟨h1, h2⟩, h3⟩ := hother x (by simp [hx])
      exact h3.ch c (fun hs => by
        rcases hs with hs | hs
        · exact h1 hs
        · exact (own_ne he.own h3.row (by decide)) hs.symm) (fun k hk hs => by
        rcases hs with hs | hs
        · obtain ⟨cur, hc⟩ := own_ty h3.own k hk
          rw [hs, he.row] at hc
          simp only [Option.some.injEq, Obj.cells.injEq] at hc
          exact absurd hc.2.1 (by decide)
        · exact h2 k hk hs)
    · rcases List.mem_cons.1 hx with rfl | hx
      · exact ⟨he.base, hr, ho⟩
      · obtain ⟨⟨h1, h2⟩, h3⟩ := hother x (by simp [hx])
        exact h3.ch c (fun hs => by
          rcases hs with hs | hs
          · exact h1 hs
          · exact (own_ne he.own h3.row (by decide)) hs.symm) (fun k hk hs => by
          rcases hs with hs | hs
          · obtain ⟨cur, hc⟩ := own_ty h3.own k hk
            rw [hs, he.row] at hc
            simp only [Option.some.injEq, Obj.cells.injEq] at hc
            exact absurd hc.2.1 (by decide)
          · exact h2 k hk hs)
  · rw [List.pairwise_append] at hap ⊢
    refine ⟨hap.1, List.pairwise_cons.2 ⟨fun x hx => (hnew x (by simp [hx])).symm, (List.pairwise_cons.1 hap.2.1).2⟩, fun x hx y hy => ?_⟩
    rcases List.mem_cons.1 hy with rfl | hy
    · exact hnew x (by simp [hx])
    · exact hap.2.2 x hx y (by simp [hy])
  · obtain ⟨x, hx, hk⟩ := hk
    rcases List.mem_append.1 hx with hx | hx
    · exact .inl ⟨x, by simp [hx], hk⟩
    · rcases List.mem_cons.1 hx with rfl | hx
      · rcases hk with hk | hk
        · exact .inl ⟨e, by simp, .inl hk⟩
        · rcases hv k hk with h4 | h4
          · exact .inl ⟨e, by simp, .inr h4⟩
          · exact .inr h4
      · exact .inl ⟨x, by simp [hx], hk⟩
end
end Go.Proofs.Ytolomfdommnklaa
