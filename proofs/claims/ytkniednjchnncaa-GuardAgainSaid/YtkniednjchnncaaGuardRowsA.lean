/- GuardRows: the answer's row, one function, the row of functions. -/
import Derived.Test.YtkniednjchnncaaGuardSteps
import Derived.BigQuiet
namespace Go.Proofs.Ytkniednjchnncaa
open Go.RowKit

theorem FnRow.form {W : World} {base : Nat} {k : FuncId} {S : Nat} {v : Value} {L : List (Int × Int)} {Gs : List Nat} (h : FnRow W base k S v L Gs) : ∃ A c, v = .slice A L.length c := by
  rcases h.2.1.2 with ⟨rfl, h0⟩ | ⟨g, cap, cur, rfl, _⟩
  · exact ⟨none, 0, by rw [h0]⟩
  · exact ⟨_, _, rfl⟩
theorem FnRow.read {W : World} {base : Nat} {k : FuncId} {S : Nat} {A : Option Addr} {m c : Nat} {L : List (Int × Int)} {Gs : List Nat} (h : FnRow W base k S (.slice A m c) L Gs) {i : Nat} (hi : i < L.length) :
    ∃ b gi, A = some ⟨b, 0, none⟩ ∧ Gs[i]? = some gi ∧ W.cell? ⟨b, 0 + i, none⟩ = some (fvS k S gi) := by
  have hg : i < Gs.length := by rw [h.1]; exact hi
  rcases h.2.1.2 with ⟨e, h0⟩ | ⟨g, cap, cur, e, _⟩
  · omega
  · injection e with e1 e2 e3
    subst e1
    refine ⟨g, Gs[i], rfl, List.getElem?_eq_getElem hg, ?_⟩
    have := h.2.1.cells (g := g) (by simp [Value.ownBlock]) i (fvS k S Gs[i]) (by simp [hg])
    rw [Addr.add_lit] at this
    exact this
theorem FnRow.stable {W0 W W' : World} {base : Nat} {k : FuncId} {S : Nat} {v : Value} {L : List (Int × Int)} {Gs : List Nat} (h0 : FnRow W0 base k S v L Gs) (h : FnRow W base k S v L Gs) (hb : Below W0.heap.size W W') : FnRow W' base k S v L Gs := by
  refine ⟨h.1, ⟨h.2.1.1, ?_⟩, fun i g q h1 h2 => (hb.block _ (Array.getElem?_eq_some_iff.1 (h0.2.2 i g q h1 h2)).1).trans (h.2.2 i g q h1 h2)⟩
  rcases h.2.1.2 with hn | ⟨g, cap, cur, e, h1, h2, h3⟩
  · exact .inl hn
  · exact .inr ⟨g, cap, cur, e, h1, (hb.block g (h0.2.1.lt g (by rw [e]; simp [Value.ownBlock])).2).trans h2, h3⟩
theorem FnRow.setS {W : World} {base : Nat} {k : FuncId} {S : Nat} {v : Value} {L : List (Int × Int)} {Gs : List Nat} {cs : Array Value} (h : FnRow W base k S v L Gs) (hS : W.heap[S]? = some (.cells cs 3)) (x : Value) : FnRow (W.setCell ⟨S, 0, none⟩ x) base k S v L Gs := by
  refine ⟨h.1, ⟨h.2.1.1, ?_⟩, fun i g q h1 h2 => ?_⟩
  · have hne := own_ne h.2.1 hS (by decide)
    rcases h.2.1.2 with hn | ⟨g, cap, cur, e, h1, h2, h3⟩
    · exact .inl hn
    · refine .inr ⟨g, cap, cur, e, h1, ?_, h3⟩
      rw [heap_setCell_other _ _ _ _ (by show g ≠ S; intro e2; rw [e] at hne; simp [Value.ownBlock, e2] at hne)]
      exact h2
  · have hr := h.2.2 i g q h1 h2
    rw [heap_setCell_other _ _ _ _ (by
      show g ≠ S
      intro e2
      rw [e2, hS] at hr
      injection hr with hr
      injection hr with _ hr
      exact absurd hr (by decide))]
    exact hr
/-- one function more -/
theorem FnRow.more {W W' : World} {base : Nat} {k : FuncId} {S : Nat} {v v' : Value} {L : List (Int × Int)} {Gs : List Nat} {q : Int × Int} {G : Nat} (h : FnRow W base k S v L Gs) (hG : W.heap[G]? = some (.cells #[.int .i64 q.1, .int .i64 q.2] 35))
    (hown : W'.ownsRow base 1 1 v' (L.length + 1) (Gs.map (fvS k S) ++ [fvS k S G])) (hgr : W.grownBy W' v.ownBlock) : FnRow W' base k S v' (L ++ [q]) (Gs ++ [G]) := by
  have keep : ∀ (g : Nat) (q' : Int × Int), W.heap[g]? = some (.cells #[.int .i64 q'.1, .int .i64 q'.2] 35) → W'.heap[g]? = some (.cells #[.int .i64 q'.1, .int .i64 q'.2] 35) := fun g q' hg => by
    rw [hgr.block g (Array.getElem?_eq_some_iff.1 hg).1 (own_ne h.2.1 hg (by decide))]
    exact hg
  refine ⟨by simp [h.1], by simpa using hown, fun i g q' h1 h2 => ?_⟩
  by_cases hi : i < L.length
  · rw [List.getElem?_append_left (by rw [h.1]; exact hi)] at h1
    rw [List.getElem?_append_left hi] at h2
    exact keep _ _ (h.2.2 i g q' h1 h2)
  · rw [List.getElem?_append_right (by rw [h.1]; omega), h.1] at h1
    rw [List.getElem?_append_right (by omega)] at h2
    have : i - L.length = 0 := by
      rcases Nat.lt_or_ge (i - L.length) 1 with h | h
      · omega
      · rw [List.getElem?_eq_none (by simpa using h)] at h2; cases h2
    rw [this] at h1 h2
    simp at h1 h2
    subst h1 h2
    exact keep _ _ hG

/-- what the answer's row comes to -/
def RefRow (n : Nat) (L : List (Int × Int)) (w : World) (e : Ending) (w' : World) : Prop :=
  Below w.heap.size w w' ∧ ((quiet L n ∧ e = .returned (.tuple #[.int .i64 (n : Int), .int .i64 0, .bool false, .int .i64 (psum L n)])) ∨
    ∃ i, i < n ∧ quiet L i ∧ (L.getD i (0, 0)).1 = 1 ∧ e = .returned (.tuple #[.int .i64 (i : Int), .int .i64 (L.getD i (0, 0)).2, .bool true, .int .i64 (psum L (i + 1))]))

set_option maxHeartbeats 1000000 in
set_option maxRecDepth 100000 in
theorem refRow (A : Option Addr) (n c : Nat) (L : List (Int × Int)) (hn : n ≤ 300) (w : World) (hP : Ps w A n c L) : Calls Try.prog 19 #[.slice A n c] w (RefRow n L w) := by
  have HP := Lib.hid hP
  clear hP
  go_enter Try.func19, Try.ntmps19
  go_wp2_with (fail)
  go_loopw [7, 6] (fun i s wr => ∃ j : Nat, j ≤ n ∧ i = .int .i64 j ∧ s = .int .i64 (psum L j) ∧ quiet L j ∧ ∃ q, wr = w.drewN q) (fun i _ _ => n - (intOf i).toNat)
  case atStart => exact ⟨0, Nat.zero_le _, rfl, rfl, fun j hj => by omega, 0, rfl⟩
  case round =>
    obtain ⟨j, hj, rfl, rfl, hq, q, rfl⟩ := hrel
    have HQ := Lib.hid hq
    clear hq
    by_cases hlt : j < n
    · obtain ⟨b, o, rfl, _, hc⟩ := HP.out.at_ (by omega)
      have hLl : j < L.length := by rw [HP.out.1]; exact hlt
      have hcc := hc j (L.getD j (0, 0)) (by rw [List.getD_eq_getElem?_getD, List.getElem?_eq_getElem hLl]; rfl)
      have HWF := Lib.hid (HP.out.2.2.2.2 (L.getD j (0, 0)) (by rw [List.getD_eq_getElem?_getD, List.getElem?_eq_getElem hLl]; exact List.getElem_mem hLl))
      have z0 := hcc.1
      have z1 := hcc.2
      clear hc hcc hLl
      have HPS := Lib.hid (show psum L (j + 1) = psum L j + (L.getD j (0, 0)).2.tmod 1000 from rfl)
      have HPB := Lib.hid (psum_bound L j)
      obtain ⟨kd, hkd⟩ : ∃ y, y = (L.getD j (0, 0)).1 := ⟨_, rfl⟩
      obtain ⟨nn, hnn⟩ : ∃ y, y = (L.getD j (0, 0)).2 := ⟨_, rfl⟩
      rw [← hkd] at z0 HWF
      rw [← hnn] at z1 HWF HPS
      have h2 := Int.tmod_lt_of_pos nn (show (0 : Int) < 1000 by decide)
      have h3 := Int.tmod_lt_of_pos (-nn) (show (0 : Int) < 1000 by decide)
      rw [Int.neg_tmod] at h3
      obtain ⟨r, hr⟩ : ∃ y, nn.tmod 1000 = y := ⟨_, rfl⟩
      rw [hr] at h2 h3 HPS
      obtain ⟨s, hs⟩ : ∃ y, y = psum L j := ⟨_, rfl⟩
      rw [← hs] at HPS HPB ⊢
      have hpb := HPB.out
      have e1 : (j : Int) < (n : Int) := by omega
      have e0 : (0 : Int) ≤ (j : Int) := by omega
      have ew : IntKind.i64.wrap (s + r) = s + r := by rw [IntKind.wrap_i64]; omega
      have HKD := Lib.hid hkd
      have HNN := Lib.hid hnn
      have HS := Lib.hid hs
      have HLT := Lib.hid hlt
      clear hkd hnn hs hlt
      by_cases h1 : kd = 1
      · have d : (kd == 1) = true := by rw [h1]; rfl
        have H1 := Lib.hid h1
        clear h1
        go_wp2_with (fail)
        go_quiet (fail)
        go_wp2_with (fail)
        exact bodyPost_ret (v := .tuple #[.int .i64 (j : Int), .int .i64 nn, .bool true, .int .i64 (s + r)]) (by simp [results, Try.results19, go_sem]) rfl ⟨drawN_below (drawN_below (Below.refl _ _) _) _, .inr ⟨j, HLT.out, HQ.out, by rw [← HKD.out, H1.out], by rw [← HNN.out, HPS.out]⟩⟩
      · have d : (kd == 1) = false := by rw [beq_eq_false_iff_ne]; exact h1
        have H1 := Lib.hid h1
        clear h1
        go_wp2_with (fail)
        refine ⟨⟨j + 1, HLT.out, by go_num, by rw [HPS.out], fun i hi => ?_, q, rfl⟩, by have := HLT.out; simp [intOf]; omega⟩
        by_cases hij : i = j
        · rw [hij, ← HKD.out]; exact H1.out
        · exact HQ.out i (by omega)
    · obtain rfl : j = n := by omega
      go_wp2_with (fail)
      exact bodyPost_ret (v := .tuple #[.int .i64 (j : Int), .int .i64 0, .bool false, .int .i64 (psum L j)]) (by simp [results, Try.results19, go_sem]) rfl ⟨drawN_below (Below.refl _ _) _, .inl ⟨HQ.out, rfl⟩⟩

theorem okS : FnOk 16 := fun args w => Go.MuLone.run_callFunc_enter Try.func16 (by kernel_rfl) rfl args w
set_option maxHeartbeats 1000000 in
set_option maxRecDepth 100000 in
theorem rows1 (S g : Nat) (x kd nn r : Int) (hr : nn.tmod 1000 = r) (hx : -300000 ≤ x ∧ x ≤ 300000) (W : World) (hS : W.heap[S]? = some (.cells #[.int .i64 x] 3)) (hg : W.heap[g]? = some (.cells #[.int .i64 kd, .int .i64 nn] 35)) :
    Calls Try.prog 16 #[.pointer (some ⟨S, 0, none⟩), .pointer (some ⟨g, 0, none⟩)] W fun e w' => w' = W.setCell ⟨S, 0, none⟩ (.int .i64 (x + r)) ∧ ((kd = 1 ∧ e = .panicked [{ v := crashI nn, recovered := false }]) ∨ (kd ≠ 1 ∧ e = .returned (.tuple #[]))) := by
  have hne : g ≠ S := by
    intro e
    rw [e, hS] at hg
    injection hg with hg
    injection hg with _ hg
    exact absurd hg (by decide)
  have c := cell_of_row W S 0 _ _ _ hS
  have z0 := cell_of_row W g 0 _ _ _ hg
  have z1 := cell_of_row W g 1 _ _ _ hg
  simp only [List.getElem?_toArray, List.getElem?_cons_zero, List.getElem?_cons_succ] at c z0 z1
  have f : W.frozen? ⟨S, 0, none⟩ = false := by simp [World.frozen?, hS]
  have h2 := Int.tmod_lt_of_pos nn (show (0 : Int) < 1000 by decide)
  have h3 := Int.tmod_lt_of_pos (-nn) (show (0 : Int) < 1000 by decide)
  rw [Int.neg_tmod] at h3
  rw [hr] at h2 h3
  have ew : IntKind.i64.wrap (x + r) = x + r := by rw [IntKind.wrap_i64]; omega
  clear hS hg
  by_cases h1 : kd = 1
  · have d : (kd == 1) = true := by rw [h1]; rfl
    have H1 := Lib.hid h1
    clear h1
    go_enter Try.func16, Try.ntmps16
    go_wp2_with (fail)
    refine (guardLose nn _).mono ?_
    rintro e w2 ⟨rfl, rfl⟩
    exact ⟨rfl, rfl, .inl ⟨H1.out, rfl⟩⟩
  · have d : (kd == 1) = false := by rw [beq_eq_false_iff_ne]; exact h1
    have H1 := Lib.hid h1
    clear h1
    go_enter Try.func16, Try.ntmps16
    go_wp2_with (fail)
    go_end0
    exact ⟨rfl, .inr ⟨H1.out, rfl⟩⟩
end Go.Proofs.Ytkniednjchnncaa
