/- Layer 15: a save that guard's Do calls. -/
import Derived.Test.YtolomfdommnklaaCurKeepsM
import Derived.Test.YtolomfdommnklaaGuardDoSG
namespace Go.Proofs.Ytolomfdommnklaa
open Go.RowKit Go.MapKept

section
variable {w : World} {B D M : Nat} {d : Dk} {F : List Ent}
set_option maxHeartbeats 2000000 in
set_option maxRecDepth 100000 in
theorem saveFn (h : DkAt w B D M d F) (ok : FsOk d (fsOf F)) (ho : d.ops + 8 ≤ 1152921504606846976) (n : Int) (X Y : Nat) (hX : w.cell? ⟨X, 0, none⟩ = some (pD D)) (hY : w.cell? ⟨Y, 0, none⟩ = some (.int .i64 n)) (hBw : B ≤ w.heap.size) :
    Calls Try.prog 33 #[.pointer (some ⟨X, 0, none⟩), .pointer (some ⟨Y, 0, none⟩)] w (MEnds B D M F w (saveD d (fsOf F) nmC n)) := by
  have HS := Lib.hid (curSave h ok ho nmC (by decide) n hBw)
  clear h ok ho hBw
  go_enter Try.func33, Try.ntmps33
  go_wp2_with (fail)
  refine HS.out.mono ?_
  rintro e w2 ⟨F2, rfl, h2, c2, f2⟩
  have H2 := Lib.hid h2
  have HC2 := Lib.hid c2
  have HF2 := Lib.hid f2
  clear h2 c2 f2 HS hX hY
  generalize saveD d (fsOf F) nmC n = r at *
  obtain ⟨x | op, s⟩ := r
  · dsimp only [endM]
    go_wp2_with (fail)
    go_ret
    exact ⟨F2, rfl, H2.out, HC2.out, HF2.out⟩
  · exact ⟨rfl, F2, rfl, H2.out, HC2.out, HF2.out⟩
theorem okKeep : FnOkG 33 := fun args w => Go.MuLone.run_callFunc_enter Try.func33 (by kernel_rfl) rfl args w
/-- how Do ends -/
def endDo : Int ⊕ Int → Ending
  | .inl x => .returned (.tuple #[.int .i64 x, crash 0, .bool false])
  | .inr op => .returned (.tuple #[.int .i64 0, crash op, .bool true])
/-- a save that Do calls -/
theorem saveDo (h : DkAt w B D M d F) (ok : FsOk d (fsOf F)) (ho : d.ops + 8 ≤ 1152921504606846976) (n : Int) (X Y : Nat) (hX : w.cell? ⟨X, 0, none⟩ = some (pD D)) (hY : w.cell? ⟨Y, 0, none⟩ = some (.int .i64 n)) (hBw : B ≤ w.heap.size) :
    Calls Try.prog 17 #[.func (.func 33) #[] #[.pointer (some ⟨X, 0, none⟩), .pointer (some ⟨Y, 0, none⟩)]] w fun e w' =>
      ∃ F', e = endDo (saveD d (fsOf F) nmC n).1 ∧ DkAt w' B D M (saveD d (fsOf F) nmC n).2.1 F' ∧ DkCh D M F F' w w' ∧ fsOf F' = (saveD d (fsOf F) nmC n).2.2 := by
  have hX' := World.block_lt_of_cell? w _ hX
  have hY' := World.block_lt_of_cell? w _ hY
  refine (guardDoS _ w (fun x w1 w' => MEnds B D M F w1 (saveD d (fsOf F) nmC n) (.returned (.int .i64 x)) w') (fun op w1 w' => MEnds B D M F w1 (saveD d (fsOf F) nmC n) (.panicked [{ v := crashI op, recovered := false }]) w') ?_).mono ?_
  · intro w1 hb1
    refine ⟨_, _, rfl, okKeep, ?_⟩
    refine (saveFn (h.below hb1) ok ho n X Y ((hb1.cell (p := ⟨X, 0, none⟩) hX').trans hX) ((hb1.cell (p := ⟨Y, 0, none⟩) hY').trans hY) (Nat.le_trans hBw hb1.size)).mono ?_
    rintro e w2 hm
    have hm' := hm
    obtain ⟨F2, he, h2, c2, f2⟩ := hm
    refine ⟨fun b hb hlt => c2.ch.block b hlt (fun hf => by have := (h.foot_lt hf).2; omega), c2.ch.size, ?_⟩
    rw [he] at hm' ⊢
    generalize saveD d (fsOf F) nmC n = r at *
    obtain ⟨x | op, s⟩ := r
    · exact .inl ⟨x, rfl, hm'⟩
    · exact .inr ⟨op, rfl, hm'⟩
  · rintro e w'' ⟨w1, w', hb1, hz, hc, hcase⟩
    have hboth : ∃ F', e = endDo (saveD d (fsOf F) nmC n).1 ∧ DkAt w' B D M (saveD d (fsOf F) nmC n).2.1 F' ∧ DkCh D M F F' w1 w' ∧ fsOf F' = (saveD d (fsOf F) nmC n).2.2 := by
      generalize saveD d (fsOf F) nmC n = r at *
      obtain ⟨x | op, s⟩ := r
      · rcases hcase with ⟨y, rfl, F2, he, h2⟩ | ⟨op, rfl, F2, he, h2⟩
        · simp only [endM, Ending.returned.injEq, Value.int.injEq, true_and] at he
          exact ⟨F2, by rw [he]; rfl, h2⟩
        · simp [endM] at he
      · rcases hcase with ⟨y, rfl, F2, he, h2⟩ | ⟨op, rfl, F2, he, h2⟩
        · simp [endM] at he
        · simp [endM] at he
          exact ⟨F2, by rw [he]; rfl, h2⟩
    obtain ⟨F2, he, h2, c2, f2⟩ := hboth
    have hfoot : ∀ k, DFoot D M F2 k → k < w.heap.size ∨ w1.heap.size ≤ k := fun k hk => by
      rcases hk with hk | hk | hk
      · exact .inl (h.foot_lt (.inl hk)).2
      · exact .inl (h.foot_lt (.inr (.inl hk))).2
      · rcases c2.foot k hk with h5 | h5
        · exact .inl (h.foot_lt (.inr (.inr h5))).2
        · exact .inr h5
    refine ⟨F2, he, h2.ch hc (fun k hk hs => by rcases hfoot k hk with h5 | h5 <;> omega), ?_, f2⟩
    have c1 : DkCh D M F F2 w w' := (DkCh.of_below hb1).trans c2
    exact c1.later hc (fun k hk => hk.1)
end
end Go.Proofs.Ytolomfdommnklaa
