/- Layer 14: an Add that guard's Do calls; the bounds of WalKeeps. -/
import Derived.Test.YthblbmbefhlbjaaWalC
import Derived.Test.YthblbmbefhlbjaaOpenWActs
import Derived.Test.YthblbmbefhlbjaaGuardC
namespace Go.Proofs.Ythblbmbefhlbjaa
open Go.RowKit Go.MapKept

def SomeB14 (n : Nat) (w : World) (e : Ending) (w' : World) : Prop := ∃ b : Bool, e = .returned (.bool b) ∧ (80 < n → b = true) ∧ Below w.heap.size w w'
set_option maxHeartbeats 4000000 in
set_option maxRecDepth 100000 in
theorem great14 (A : Option Addr) (n c : Nat) (L : List WAct) (w : World) (hL : WAs w A n c L) : Calls Try.prog 10 #[.slice A n c] w (SomeB14 n w) := by
  have HL := Lib.hid hL
  have hn : n ≤ 140737488351232 := hL.2.2.2.1
  clear hL
  go_enter Try.func10, Try.ntmps10
  go_wp2_with (fail)
  go_loopw [8, 3] (fun i s wr => ∃ (k : Nat) (z : Int), k ≤ n ∧ i = .int .i64 k ∧ s = .int .i64 z ∧ Below w.heap.size w wr) (fun i _ _ => n - (intOf i).toNat)
  case atStart => exact ⟨0, 0, by omega, rfl, rfl, Below.refl _ _⟩
  case round =>
    obtain ⟨wo, rfl⟩ : ∃ wo : World, wo = wr := ⟨_, rfl⟩
    obtain ⟨k, z, hk, rfl, rfl, hb⟩ := hrel
    have HB := Lib.hid hb
    clear hb
    by_cases hlt : k < n
    · obtain ⟨b, o, rfl, hx⟩ := (HL.out.below HB.out).2.2.2.2 (by omega)
      obtain ⟨x, hxk⟩ : ∃ x, L[k]? = some x := ⟨_, List.getElem?_eq_getElem (by have := HL.out.1; omega)⟩
      obtain ⟨⟨c0, c1, c2, A5, m, c', c5, hB5, hc'⟩, hf⟩ := hx k x hxk
      have hm5 := hB5.le
      have HB2 : Hid (∀ o, Below w.heap.size w (wo.alloc o)) := Lib.hid (fun o => HB.out.alloc HB.out.size o)
      clear hx hB5 hf hxk
      go_wp2_with (fail)
      exact ⟨⟨k + 1, _, by omega, by go_num, rfl, HB2.out _⟩, by simp [intOf]; omega⟩
    · obtain rfl : k = n := by omega
      by_cases h2 : (80 : Int) < (k : Int)
      · go_wp2_with (fail)
        go_ret
        exact ⟨_, rfl, fun _ => rfl, HB.out⟩
      · by_cases h5 : (2000 : Int) < z
        · go_wp2_with (fail)
          go_ret
          exact ⟨_, rfl, fun _ => rfl, HB.out⟩
        · go_wp2_with (fail)
          go_ret
          exact ⟨_, rfl, fun h => absurd h (by omega), HB.out⟩
/-- a room that may be -/
def roomW (n : Int) : Nat := (IntKind.u64.wrap n % 2000).toNat
theorem roomW_le (n : Int) : roomW n ≤ 2000 := by
  have h0 : 0 ≤ IntKind.u64.wrap n := by simp [IntKind.wrap, IntKind.bits, IntKind.signed]; omega
  unfold roomW; omega
theorem room14 (n : Int) (w : World) : Calls Try.prog 21 #[.int .i64 n] w fun e w' => e = .returned (.int .i64 (roomW n : Int)) ∧ w = w' := by
  have h0 : 0 ≤ IntKind.u64.wrap n := by simp [IntKind.wrap, IntKind.bits, IntKind.signed]; omega
  have h3 : (IntKind.u64.wrap n).tmod 2000 = (roomW n : Int) := by rw [Int.tmod_eq_emod_of_nonneg h0]; unfold roomW; omega
  have h4 : wrap64 (roomW n : Int) = (roomW n : Int) := IntWalk.wrap64_in _ (by have := roomW_le n; omega)
  have H := Lib.hid (And.intro h3 h4)
  clear h0 h3 h4
  go_enter Try.func21, Try.ntmps21
  go_wp2_with (fail)
  go_ret
  rw [H.out.1, H.out.2]
  exact ⟨rfl, rfl⟩
section
variable {E : Nat → Prop} {w : World} {B L D M g : Nat} {d : Dk} {F : List Ent} {nm : ByteArray} {rs : List (List UInt8)} {v : Value}
set_option maxHeartbeats 2000000 in
set_option maxRecDepth 100000 in
theorem keepFn (h : LgAt E w B L D M F nm rs g v) (hd : DkAt w B D M d F) (ok : FsOk d (fsOf F)) (ho : d.ops + 8 ≤ 1152921504606846976) (hs : nm.size ≤ 140737488355328) (A : Option Addr) (c : Nat) (l : List UInt8) (hl : Bs w A l.length c l)
    (hoff : 0 < l.length → ∀ b, A = some b → ¬ DFoot D M F b.block) (hg : g ≤ 1099511000000) (hn : rs.length ≤ 1099511627770) (hBw : B ≤ w.heap.size) (hE : ∀ k, E k → k < w.heap.size) (X Y : Nat) (hX : w.cell? ⟨X, 0, none⟩ = some (pL L)) (hY : w.cell? ⟨Y, 3, none⟩ = some (.slice A l.length c)) :
    Calls Try.prog 23 #[.pointer (some ⟨X, 0, none⟩), .pointer (some ⟨Y, 0, none⟩)] w (KEnd E B L D M F nm rs g v w l (record l).length (addD d (fsOf F) nm g l)) := by
  have HA := Lib.hid (walAdd h hd ok ho hs A c l hl hoff hg hn hBw hE)
  clear h hd ok ho hoff hg hn hBw hE hl
  go_enter Try.func23, Try.ntmps23
  go_wp2_with (fail)
  refine HA.out.mono ?_
  intro e w2 hK
  obtain ⟨F', v', he, h2, h3, h4, h5⟩ := hK
  have HP : Hid (∀ e, e = endM (addD d (fsOf F) nm g l).1 → KEnd E B L D M F nm rs g v w l (record l).length (addD d (fsOf F) nm g l) e w2) := Lib.hid (fun e he => ⟨F', v', he, h2, h3, h4, h5⟩)
  clear h2 h3 h4 h5 HA hX hY
  generalize addD d (fsOf F) nm g l = r at *
  obtain ⟨x | op, s⟩ := r
  · obtain rfl : e = .returned (.int .i64 x) := he
    go_wp2_with (fail)
    go_ret
    exact HP.out _ rfl
  · obtain rfl : e = .panicked [{ v := crashI op, recovered := false }] := he
    exact ⟨rfl, HP.out _ rfl⟩
theorem okKeepW : FnOkG 23 := fun args w => Go.MuLone.run_callFunc_enter Try.func23 (by kernel_rfl) rfl args w
/-- how Do ends -/
def endDoW : Int ⊕ Int → Ending
  | .inl x => .returned (.tuple #[.int .i64 x, crash 0, .bool false])
  | .inr op => .returned (.tuple #[.int .i64 0, crash op, .bool true])
/-- what an Add within Do leaves -/
def DEnd (E : Nat → Prop) (B L D M : Nat) (F : List Ent) (nm : ByteArray) (rs : List (List UInt8)) (g : Nat) (v : Value) (w : World) (l : List UInt8) (n : Nat) (r : Out) (e : Ending) (w' : World) : Prop :=
  ∃ F' v', e = endDoW r.1 ∧ DkAt w' B D M r.2.1 F' ∧ fsOf F' = r.2.2 ∧ LgAt E w' B L D M F' nm (if r.1 = .inl 0 then rs ++ [l] else rs) (if r.1 = .inl 0 then g + n else g) v' ∧ WlCh L D M F F' v v' w w'
def ED (E : Nat → Prop) (a b k : Nat) : Prop := E k ∨ (a ≤ k ∧ k < b)
/-- an Add that Do calls -/
theorem keepDo (h : LgAt E w B L D M F nm rs g v) (hd : DkAt w B D M d F) (ok : FsOk d (fsOf F)) (ho : d.ops + 8 ≤ 1152921504606846976) (hs : nm.size ≤ 140737488355328) (A : Option Addr) (c : Nat) (l : List UInt8) (hl : Bs w A l.length c l)
    (hoff : 0 < l.length → ∀ b, A = some b → ¬ DFoot D M F b.block) (hg : g ≤ 1099511000000) (hn : rs.length ≤ 1099511627770) (hBw : B ≤ w.heap.size) (hE : ∀ k, E k → k < w.heap.size) (X Y : Nat) (hX : w.cell? ⟨X, 0, none⟩ = some (pL L)) (hY : w.cell? ⟨Y, 3, none⟩ = some (.slice A l.length c)) :
    Calls Try.prog 22 #[.func (.func 23) #[] #[.pointer (some ⟨X, 0, none⟩), .pointer (some ⟨Y, 0, none⟩)]] w (DEnd E B L D M F nm rs g v w l (record l).length (addD d (fsOf F) nm g l)) := by
  have hX' := World.block_lt_of_cell? w _ hX
  have hY' := World.block_lt_of_cell? w _ hY
  refine (guardDoS _ w (fun x w1 w' => KEnd (ED E w.heap.size w1.heap.size) B L D M F nm rs g v w1 l (record l).length (addD d (fsOf F) nm g l) (.returned (.int .i64 x)) w') (fun op w1 w' => KEnd (ED E w.heap.size w1.heap.size) B L D M F nm rs g v w1 l (record l).length (addD d (fsOf F) nm g l) (.panicked [{ v := crashI op, recovered := false }]) w') ?_).mono ?_
  · intro w1 hb1
    refine ⟨_, _, rfl, okKeepW, ?_⟩
    refine (keepFn (E := ED E w.heap.size w1.heap.size) ((h.widen (fun k hk => by
      rcases hk with hk | hk
      · exact .inl hk
      · exact .inr hk.1)).below hb1) (hd.below hb1) ok ho hs A c l (hl.below hb1) hoff hg hn (Nat.le_trans hBw hb1.size) (fun k hk => by
      rcases hk with hk | hk
      · exact Nat.lt_of_lt_of_le (hE k hk) hb1.size
      · exact hk.2) X Y ((hb1.cell (p := ⟨X, 0, none⟩) hX').trans hX) ((hb1.cell (p := ⟨Y, 3, none⟩) hY').trans hY)).mono ?_
    rintro e w2 hm
    have hm' := hm
    obtain ⟨F2, v2, he, h2, f2, l2, c2⟩ := hm
    refine ⟨fun b hb hlt => c2.ch.block b hlt (fun hf => by have := (h.foot_lt hd hf).2; omega), c2.ch.size, ?_⟩
    rw [he] at hm' ⊢
    generalize addD d (fsOf F) nm g l = r at *
    obtain ⟨x | op, s⟩ := r
    · exact .inl ⟨x, rfl, hm'⟩
    · exact .inr ⟨op, rfl, hm'⟩
  · rintro e w'' ⟨w1, w', hb1, hz, hc, hcase⟩
    have hboth : ∃ F' v', e = endDoW (addD d (fsOf F) nm g l).1 ∧ DkAt w' B D M (addD d (fsOf F) nm g l).2.1 F' ∧ fsOf F' = (addD d (fsOf F) nm g l).2.2 ∧ LgAt (ED E w.heap.size w1.heap.size) w' B L D M F' nm (if (addD d (fsOf F) nm g l).1 = .inl 0 then rs ++ [l] else rs) (if (addD d (fsOf F) nm g l).1 = .inl 0 then g + (record l).length else g) v' ∧ WlCh L D M F F' v v' w1 w' := by
      generalize addD d (fsOf F) nm g l = r at *
      obtain ⟨x | op, s⟩ := r
      · rcases hcase with ⟨y, rfl, F2, v2, he, h2⟩ | ⟨op, rfl, F2, v2, he, h2⟩
        · simp only [endM, Ending.returned.injEq, Value.int.injEq, true_and] at he
          exact ⟨F2, v2, by rw [he]; rfl, h2⟩
        · simp [endM] at he
      · rcases hcase with ⟨y, rfl, F2, v2, he, h2⟩ | ⟨op, rfl, F2, v2, he, h2⟩
        · simp [endM] at he
        · simp [endM] at he
          exact ⟨F2, v2, by rw [he]; rfl, h2⟩
    obtain ⟨F2, v2, he, h2, f2, l2, c2⟩ := hboth
    have hfoot : ∀ k, WFoot L D M F2 v2 k → k < w.heap.size ∨ w1.heap.size ≤ k := fun k hk => by
      rcases c2.foot k hk with h5 | h5
      · exact .inl (h.foot_lt hd h5).2
      · exact .inr h5
    have c1 : WlCh L D M F F2 v v2 w w' := (WlCh.of_below hb1).trans c2
    refine ⟨F2, v2, he, h2.ch hc (fun k hk hs => by rcases hfoot k (.inl (.inr hk)) with h5 | h5 <;> omega), f2, (l2.chE hc (fun k _ hs => .inr hs) (fun hs => by have := h.lt; omega)).widen (fun k hk => .inl (.inl hk)), ⟨c1.ch.trans hc (fun k hk hs => by omega), c1.foot⟩⟩
end
end Go.Proofs.Ythblbmbefhlbjaa