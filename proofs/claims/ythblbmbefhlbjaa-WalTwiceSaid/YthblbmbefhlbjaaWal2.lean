/- Layer 14: a log's last bytes taken back, walked. -/
import Derived.Test.YthblbmbefhlbjaaWal1
namespace Go.Proofs.Ythblbmbefhlbjaa
open Go.RowKit Go.MapKept

/-- how a method without an answer ends -/
def endU : Int ⊕ Int → Ending
  | .inl _ => .returned (.tuple #[])
  | .inr op => .panicked [{ v := crashI op, recovered := false }]
def UEnds (B D M : Nat) (F : List Ent) (w : World) (r : Out) (e : Ending) (w' : World) : Prop :=
  ∃ F', e = endU r.1 ∧ DkAt w' B D M r.2.1 F' ∧ DkCh D M F F' w w' ∧ fsOf F' = r.2.2
section
variable {w w' : World} {B L D M g : Nat} {d d' : Dk} {F F' : List Ent} {nm : ByteArray} {rs : List (List UInt8)} {v : Value}
set_option maxRecDepth 100000 in
set_option maxHeartbeats 4000000 in
theorem walTakeBack (h : LgAt w B L D M F nm rs g v) (hd : DkAt w B D M d F) (ok : FsOk d (fsOf F)) : Calls Try.prog 41 #[pL L] w (UEnds B D M F w (opTrunc d (fsOf F) nm (g : Int))) := by
  have c0 : ∀ n : Here w.drew, n.u.cell? ⟨L, 0, none⟩ = some (pD D) := Here.cell (h.cell 0)
  have c1 : ∀ n : Here w.drew, n.u.cell? ⟨L, 1, none⟩ = some (.string nm) := Here.cell (h.cell 1)
  have c3 : ∀ n : Here w.drew, n.u.cell? ⟨L, 3, none⟩ = some (.int .i64 (g : Int)) := Here.cell (h.cell 3)
  have HD : Hid (DkAt w.drew B D M d F) := Lib.hid (hd.below (Below.refl _ w).drew)
  have HC : Hid (DkCh D M F F w w.drew) := Lib.hid (DkCh.of_below (Below.refl _ w).drew)
  have OK := Lib.hid ok
  clear h hd ok
  go_enter Try.func41, Try.ntmps41
  go_wp2_with (fail)
  refine region_tail 12 (by kernel_rfl) (by kernel_rfl) ?_
  simp only [List.take_succ_cons, List.take_zero, List.drop_succ_cons, List.drop_zero]
  repeat (go_big_quiet_step (fail))
  refine wpQuiet_nil ?_
  clear c0 c1 c3
  generalize w.drew = w1 at *
  go_wp2_with (fail)
  refine (mTrunc HD.out OK.out nm (g : Int)).mono ?_
  rintro e w2 ⟨F2, he, h2, hc2, hf2⟩
  generalize opTrunc d (fsOf F) nm (g : Int) = r at *
  obtain ⟨y | op, d2, fs2⟩ := r
  · obtain rfl : e = .returned (.int .i64 y) := he
    have HP : Hid (UEnds B D M F w (.inl y, d2, fs2) (.returned (.tuple #[])) w2) := Lib.hid ⟨F2, rfl, h2, HC.out.trans hc2, hf2⟩
    clear h2 hc2 hf2
    go_wp2_with (fail)
    go_end0
    exact HP.out
  · obtain rfl : e = .panicked [{ v := crashI op, recovered := false }] := he
    exact ⟨rfl, F2, rfl, h2, HC.out.trans hc2, hf2⟩
end
end Go.Proofs.Ythblbmbefhlbjaa
