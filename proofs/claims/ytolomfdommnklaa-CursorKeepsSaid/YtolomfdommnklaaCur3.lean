/- Layer 15: a number laid in a file, walked. -/
import Derived.Test.YtolomfdommnklaaCur2
import Derived.Test.YtolomfdommnklaaDk16
import Derived.Defers
namespace Go.Proofs.Ytolomfdommnklaa
open Go.RowKit Go.MapKept

/-- how an append ends -/
def endA : Int × (Int ⊕ Int) → Ending
  | (n, .inl x) => .returned (.tuple #[.int .i64 n, .int .i64 x])
  | (_, .inr op) => .panicked [{ v := crashI op, recovered := false }]
def AEnds (B D M : Nat) (F : List Ent) (w : World) (r : OutN) (e : Ending) (w' : World) : Prop :=
  ∃ F', e = endA r.1 ∧ DkAt w' B D M r.2.1 F' ∧ DkCh D M F F' w w' ∧ fsOf F' = r.2.2
section
variable {w : World} {B D M : Nat} {d : Dk} {F : List Ent}
theorem mAppend (h : DkAt w B D M d F) (ok : FsOk d (fsOf F)) (nm : ByteArray) (hs : nm.size ≤ 140737488355328) (A : Option Addr) (m c : Nat) (l : List UInt8) (hl : Bs w A m c l) (hBw : B ≤ w.heap.size) :
    Calls Try.prog 63 #[pD D, .string nm, .slice A m c] w (AEnds B D M F w (appO d (fsOf F) nm l)) := by
  have hm := hl.len
  unfold appO
  cases hn : nameD nm
  · rw [if_pos rfl]
    refine (dkAppend_name w D nm hs hn A m c).mono ?_
    rintro e w' ⟨rfl, rfl⟩
    exact ⟨F, rfl, h, DkCh.refl D M F w, rfl⟩
  · rw [if_neg (by decide)]
    by_cases h1 : d.armedIn = 1
    · rw [if_pos h1, hm]
      refine (dkAppend_lost h ok.ok ok.dk.lens nm hn hs A m c l hl hBw h1).mono ?_
      rintro e w' ⟨he, F', h2, h3, h4⟩
      exact ⟨F', he, h2, h3, h4⟩
    · rw [if_neg h1, hm]
      refine (dkAppend_ok h ok.ok ok.dk.lens nm hn hs A m c l hl hBw h1).mono ?_
      rintro e w' ⟨he, F', h2, h3, h4⟩
      exact ⟨F', he, h2, h3, h4⟩
end
/-- the three boxes of lay -/
structure LBox (w : World) (s D : Nat) (nm : ByteArray) (e : Int) : Prop where
  d_ : w.heap[s]? = some (.cells #[pD D] 35)
  n_ : w.heap[s + 1]? = some (.cells #[.string nm] 9)
  e_ : w.heap[s + 1 + 1]? = some (.cells #[.int .i64 e] 23)
abbrev lw (w : World) (D : Nat) (nm : ByteArray) : World := ((w.alloc (.cells #[pD D] 35)).alloc (.cells #[.string nm] 9)).alloc (.cells #[.int .i64 0] 23)
abbrev la (s : Nat) : Array Value := #[.pointer (some ⟨s + 1 + 1, 0, none⟩), .pointer (some ⟨s, 0, none⟩), .pointer (some ⟨s + 1, 0, none⟩)]
theorem LBox.new (w : World) (D : Nat) (nm : ByteArray) : LBox (lw w D nm) w.heap.size D nm 0 ∧ Below w.heap.size w (lw w D nm) ∧ (lw w D nm).heap.size = w.heap.size + 3 := by
  refine ⟨⟨?_, ?_, ?_⟩, ((Below.refl _ _).alloc (Nat.le_refl _) _).alloc (by simp) _ |>.alloc (by simp; omega) _, by simp⟩
  all_goals
    simp only [lw, World.alloc, Array.getElem?_push, Array.size_push]
  · rw [if_neg (by omega), if_neg (by omega), if_pos trivial]
  · rw [if_neg (by omega), if_pos trivial]
  · rw [if_pos trivial]
theorem LBox.same {w w' : World} {s D : Nat} {nm : ByteArray} {e : Int} (h : LBox w s D nm e) {S : Nat → Prop} (c : Ch S w w') (hS : ∀ k, s ≤ k → k < s + 3 → ¬ S k) : LBox w' s D nm e :=
  ⟨c.row h.d_ (hS _ (by omega) (by omega)), c.row h.n_ (hS _ (by omega) (by omega)), c.row h.e_ (hS _ (by omega) (by omega))⟩
theorem LBox.cells {w : World} {s D : Nat} {nm : ByteArray} {e : Int} (h : LBox w s D nm e) : w.cell? ⟨s, 0, none⟩ = some (pD D) ∧ w.cell? ⟨s + 1, 0, none⟩ = some (.string nm) ∧ w.cell? ⟨s + 1 + 1, 0, none⟩ = some (.int .i64 e) ∧ w.frozen? ⟨s + 1 + 1, 0, none⟩ = false :=
  ⟨cell_of_row _ _ 0 _ _ _ h.d_, cell_of_row _ _ 0 _ _ _ h.n_, cell_of_row _ _ 0 _ _ _ h.e_, by simp [World.frozen?, h.e_]⟩
theorem row_other' {w : World} {s t : Nat} {o : Obj} (h : w.heap[s]? = some o) (hne : s ≠ t) (v : Value) : (w.setCell ⟨t, 0, none⟩ v).heap[s]? = some o := by
  rw [heap_setCell_other _ _ _ _ (by show s ≠ t; exact hne)]; exact h
theorem LBox.setE {w : World} {s D : Nat} {nm : ByteArray} {e : Int} (h : LBox w s D nm e) (x : Int) : LBox (w.setCell ⟨s + 1 + 1, 0, none⟩ (.int .i64 x)) s D nm x ∧ Ch (At1 (s + 1 + 1)) w (w.setCell ⟨s + 1 + 1, 0, none⟩ (.int .i64 x)) :=
  ⟨⟨row_other' h.d_ (by omega) _, row_other' h.n_ (by omega) _, heap_set_row h.e_ _⟩, (Ch.refl _ _).set1 0 _⟩
set_option maxRecDepth 100000 in
theorem lay1_idle (s D : Nat) (nm : ByteArray) (u : FrameMode) (w : World) (hb : LBox w s D nm 0) :
    CallsD Try.prog 60 (la s) u w fun e u' w' => u' = u ∧ e = .returned (.tuple #[]) ∧ w' = w := by
  obtain ⟨c0, c1, c2, _⟩ := hb.cells
  refine callsD_of_wp Try.func60 rfl ?_
  rw [show la s ++ Array.replicate (Try.f60.ntmps - (la s).size) undef = #[.pointer (some ⟨s + 1 + 1, 0, none⟩), .pointer (some ⟨s, 0, none⟩), .pointer (some ⟨s + 1, 0, none⟩), undef, undef, undef, undef, undef] from by kernel_rfl]
  go_wp2_with (fail)
  go_end0
  exact ⟨rfl, rfl⟩
def LEnd (B D M : Nat) (F : List Ent) (w : World) (r : Out) (e : Ending) (w' : World) : Prop :=
  ∃ F', (e = match r.1 with | .inl _ => .returned (.tuple #[]) | .inr op => .panicked [{ v := crashI op, recovered := false }]) ∧ DkAt w' B D M r.2.1 F' ∧ DkCh D M F F' w w' ∧ fsOf F' = r.2.2
set_option maxRecDepth 100000 in
theorem lay1_rem (s : Nat) (u : FrameMode) {w : World} {B D M : Nat} {d : Dk} {F : List Ent} (nm : ByteArray) (x : Int) (hx : x ≠ 0) (hb : LBox w s D nm x) (h : DkAt w B D M d F) (ok : FsOk d (fsOf F)) :
    CallsD Try.prog 60 (la s) u w fun e u' w' => u' = u ∧ LEnd B D M F w (opRemove d (fsOf F) nm) e w' := by
  obtain ⟨c0, c1, c2, _⟩ := hb.cells
  have H := Lib.hid h
  have OK := Lib.hid ok
  have d1 : (x != 0) = true := by simpa using hx
  clear h ok hx
  refine callsD_of_wp Try.func60 rfl ?_
  rw [show la s ++ Array.replicate (Try.f60.ntmps - (la s).size) undef = #[.pointer (some ⟨s + 1 + 1, 0, none⟩), .pointer (some ⟨s, 0, none⟩), .pointer (some ⟨s + 1, 0, none⟩), undef, undef, undef, undef, undef] from by kernel_rfl]
  go_wp2_with (fail)
  refine (mRemove H.out OK.out nm).mono ?_
  rintro e w' ⟨F', he, h1, h2, h3⟩
  obtain ⟨r, hr⟩ : ∃ r, r = opRemove d (fsOf F) nm := ⟨_, rfl⟩
  rw [← hr] at he h1 h3 ⊢
  obtain ⟨y | op, d', fs'⟩ := r
  · obtain rfl : e = .returned (.int .i64 y) := he
    have HP : Hid (LEnd B D M F w (.inl y, d', fs') (.returned (.tuple #[])) w') := Lib.hid ⟨F', rfl, h1, h2, h3⟩
    have HR := Lib.hid hr
    clear h1 h2 h3 hr
    go_wp2_with (fail)
    go_end0
    rw [← HR.out]; exact HP.out
  · obtain rfl : e = .panicked [{ v := crashI op, recovered := false }] := he
    exact ⟨rfl, F', rfl, h1, h2, h3⟩
/-- what is done when it can't be laid -/
def layF_ (x : Int) (r : Out) : Out := match r.1 with | .inl _ => (.inl x, r.2) | .inr op => (.inr op, r.2)
/-- a number's bytes laid in a file, or not at all -/
def laySr (r : Out) (nm : ByteArray) : Out :=
  match r with
  | (.inr op, s) => (.inr op, s)
  | (.inl x, s) => if x = 0 then (.inl 0, s) else layF_ 5 (opRemove s.1 s.2 nm)
def layAr (r : OutN) (nm : ByteArray) (l : List UInt8) : Out :=
  match r with
  | ((_, .inr op), s) => (.inr op, s)
  | ((n, .inl _), s) => if n < (l.length : Int) then layF_ 4 (opRemove s.1 s.2 nm) else laySr (opSync s.1 s.2 nm) nm
def layT (r : Out) (nm : ByteArray) (l : List UInt8) : Out :=
  match r with
  | (.inr op, s) => (.inr op, s)
  | (.inl _, s) => layAr (appO s.1 s.2 nm l) nm l
def layD (d : Dk) (fs : Fs) (nm : ByteArray) (l : List UInt8) : Out := layT (opTrunc d fs nm 0) nm l
end Go.Proofs.Ytolomfdommnklaa
