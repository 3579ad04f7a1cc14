/- GuardOthers, walked. -/
import Derived.Test.YtikobhbknnlgbaaGuardOther
import Derived.Lib.IfaceNeq
import Derived.Laws.EntriesVeiled
import Derived.LaidEql
namespace Go.Proofs.Ytikobhbknnlgbaa
open Go.RowKit

abbrev TI : TypeId := 20
/-- what a value does here: it is no crash, and is itself -/
structure Oth (t : TypeId) (v : Value) : Prop where
  no : t ≠ 24
  eq : ∀ w, (binOp .neq TI (.iface t v) (.iface t v)).run Try.prog w = .ok (.bool false) w
abbrev arrO (s : ByteArray) (n r : Int) (p : Nat) : Array Value := #[.iface 9 (.string s), .iface 3 (.int .i64 n), .iface 27 (.int .i64 r), .iface 42 (.pointer (some ⟨p, 0, none⟩))]
theorem free_row {W : World} {b : Nat} {c : Array Value} {e : TypeId} {j : Nat} (h : W.heap[b]? = some (.cells c e)) : W.frozen? ⟨b, j, none⟩ = false := by simp [World.frozen?, h]
theorem neq_str {P : Program} (w : World) {t tx : TypeId} {ms : Array (String × TypeId)} (a : ByteArray)
    (ht : P.underlying t = some (.interface ms)) (hc : (P.info? tx).map (·.comparable) = some true) (hx : P.underlying tx = some .string) :
    (binOp .neq t (.iface tx (.string a)) (.iface tx (.string a))).run P w = .ok (.bool false) w := by
  cases hi : P.info? tx with
  | none => simp [hi] at hc
  | some i =>
    have hcc : i.comparable = true := by simpa [hi] using hc
    have h : ∀ d : Nat, (Op.equalIn (d + 2) t (.iface tx (.string a)) (.iface tx (.string a))).run P w = .ok true w := fun d => by
      simp [Op.equalIn, run_underlying ht, run_underlying hx, typeInfo, hi, hcc]
      cases a
      show (ByteArray.beq _ _) = true
      unfold ByteArray.beq
      simp
    simp only [binOp]
    simp [Op.equal, Op.maxDepth, h 9998]
theorem neq_ptr {P : Program} (w : World) {t tx te : TypeId} {ms : Array (String × TypeId)} (a : Addr)
    (ht : P.underlying t = some (.interface ms)) (hc : (P.info? tx).map (·.comparable) = some true) (hx : P.underlying tx = some (.pointer te)) (he : (P.info? te).isSome = true) :
    (binOp .neq t (.iface tx (.pointer (some a))) (.iface tx (.pointer (some a)))).run P w = .ok (.bool false) w := by
  cases hi : P.info? tx with
  | none => simp [hi] at hc
  | some i =>
    have hcc : i.comparable = true := by simpa [hi] using hc
    obtain ⟨j, hj⟩ := Option.isSome_iff_exists.1 he
    simp only [binOp]
    simp [Op.equal, Op.maxDepth, run_equalIn_iface_ptr_same w 9998 a ht hx hi hcc hj]
theorem oth_all (s : ByteArray) (n r : Int) (p : Nat) (k : Nat) (hk : k < 4) : ∃ t v, (arrO s n r p)[k]? = some (.iface t v) ∧ Oth t v := by
  have hk : k = 0 ∨ k = 1 ∨ k = 2 ∨ k = 3 := by omega
  rcases hk with rfl | rfl | rfl | rfl
  · exact ⟨_, _, rfl, by decide, fun w => neq_str w s Try.underlying20 (by kernel_rfl) Try.underlying9⟩
  · exact ⟨_, _, rfl, by decide, fun w => by rw [Lib.run_neq_iface_int w n n Try.underlying20 (by kernel_rfl) Try.underlying3]; simp⟩
  · exact ⟨_, _, rfl, by decide, fun w => by rw [Lib.run_neq_iface_int w r r Try.underlying20 (by kernel_rfl) Try.underlying27]; simp⟩
  · exact ⟨_, _, rfl, by decide, fun w => neq_ptr w _ Try.underlying20 (by kernel_rfl) Try.underlying42 (by kernel_rfl)⟩
/-- a function that panics with the boxed value, as long as the boxes lie there -/
def ThrFn (t : TypeId) (v : Value) (X Y : Nat) (f : Value) : Prop := ∃ (k : FuncId) (caps : Array Value), f = .func (.func k) #[] caps ∧ FnOk k ∧ ∀ w : World, w.heap[X]? = some (.cells #[.iface t v] TI) → w.heap[Y]? = some (.cells #[fnO X] 1) → Calls Try.prog k caps w (Thr t v w)
abbrev arrF (Y Z : Nat) : Array Value := #[.func (.func 23) #[] #[.pointer (some ⟨Y, 0, none⟩)], .func (.func 24) #[] #[.pointer (some ⟨Y, 0, none⟩)], .func (.func 26) #[] #[.pointer (some ⟨Y, 0, none⟩), .pointer (some ⟨Z, 0, none⟩)]]
theorem thr_all {t : TypeId} {v : Value} (ht : t ≠ 24) (X Y Z k : Nat) (hk : k < 3) : ∃ f, (arrF Y Z)[k]? = some f ∧ ThrFn t v X Y f := by
  have hk : k = 0 ∨ k = 1 ∨ k = 2 := by omega
  rcases hk with rfl | rfl | rfl
  · exact ⟨_, rfl, _, _, rfl, ok2O, fun w hX hY => thr2 w ht X Y hX hY⟩
  · exact ⟨_, rfl, _, _, rfl, ok3O, fun w hX hY => thr3 w ht X Y hX hY⟩
  · exact ⟨_, rfl, _, _, rfl, ok4O, fun w hX hY => thr4 w ht X Y Z hX hY⟩
theorem keep_row {w w' : World} {b : Nat} {o : Obj} (hb : Below w.heap.size w w') (h : w.heap[b]? = some o) : w'.heap[b]? = some o := (hb.block b (Array.getElem?_eq_some_iff.1 h).1).trans h
/-- the boxes of a round -/
structure OthSt (t : TypeId) (v : Value) (s : ByteArray) (n r : Int) (p S X Y Z G : Nat) (w : World) : Prop where
  rS : w.heap[S]? = some (.cells (arrO s n r p) TI)
  rX : w.heap[X]? = some (.cells #[.iface t v] TI)
  rY : w.heap[Y]? = some (.cells #[fnO X] 1)
  rZ : w.heap[Z]? = some (.cells #[.int .i64 0] 3)
  rG : w.heap[G]? = some (.cells (arrF Y Z) 1)
theorem OthSt.below {t : TypeId} {v : Value} {s : ByteArray} {n r : Int} {p S X Y Z G : Nat} {w w' : World} (h : OthSt t v s n r p S X Y Z G w) (hb : Below w.heap.size w w') : OthSt t v s n r p S X Y Z G w' :=
  ⟨keep_row hb h.rS, keep_row hb h.rX, keep_row hb h.rY, keep_row hb h.rZ, keep_row hb h.rG⟩

theorem rows_four (w : World) (A B C D : Obj) : Below w.heap.size w ((((w.alloc A).alloc B).alloc C).alloc D) ∧ ((((w.alloc A).alloc B).alloc C).alloc D).heap[w.heap.size + 1]? = some B ∧ ((((w.alloc A).alloc B).alloc C).alloc D).heap[w.heap.size + 1 + 1]? = some C ∧ ((((w.alloc A).alloc B).alloc C).alloc D).heap[w.heap.size + 1 + 1 + 1]? = some D := by
  have h1 := heap_alloc_new (w.alloc A) B
  have h2 := heap_alloc_new ((w.alloc A).alloc B) C
  have h3 := heap_alloc_new (((w.alloc A).alloc B).alloc C) D
  simp only [World.size_alloc] at h1 h2 h3
  have b2 : Below ((w.alloc A).alloc B).heap.size ((w.alloc A).alloc B) (((w.alloc A).alloc B).alloc C) := (Below.refl _ _).alloc (Nat.le_refl _) _
  have b3 : Below (((w.alloc A).alloc B).alloc C).heap.size (((w.alloc A).alloc B).alloc C) ((((w.alloc A).alloc B).alloc C).alloc D) := (Below.refl _ _).alloc (Nat.le_refl _) _
  exact ⟨((((Below.refl _ w).alloc (Nat.le_refl _) _).alloc (by simp) _).alloc (by simp; omega) _).alloc (by simp; omega) _, keep_row b3 (keep_row b2 h1), keep_row b3 h2, h3⟩
set_option maxHeartbeats 8000000 in
set_option maxRecDepth 100000 in
theorem guardOthers_walk (s : ByteArray) (n : Int) (w : World) (_R : s.size ≤ maxLen) (_wn : (Lit.int .i64 n).wf = true) : Calls Try.prog 5 #[.string s, .int .i64 n] w (True_ w) := by
  have hmf : ∀ (fn : Fn) (first cap : Array Value) (w : World), (Instr.makeFunc fn first cap).run Try.prog w = .ok (.func fn first cap) w := fun _ _ _ _ => rfl
  go_enter Try.func5, Try.ntmps5
  go_wp2_with (fail)
  refine (guardAlive w).mono ?_
  rintro e w1 ⟨rfl, hb1⟩
  have HB1 := Lib.hid hb1
  clear hb1
  by_cases hbig : 500 < s.size
  · as_aux_lemma =>
    have d1 : decide ((500 : Int) < (s.size : Int)) = true := by simp; omega
    go_wp2_with (fail)
    refine (guardAlive w1).mono ?_
    rintro e w2 ⟨rfl, hb2⟩
    have HB2 : Hid (Below w.heap.size w w2) := Lib.hid (HB1.out.trans (hb2.mono HB1.out.size))
    clear hb2
    go_wp2_with (fail)
    go_ret
    exact ⟨rfl, HB2.out⟩
  have d1 : decide ((500 : Int) < (s.size : Int)) = false := by simp; omega
  have tok : Hid True := Lib.hid trivial
  go_wp2_with (fail)
  have hbs : Below w1.heap.size w1 ((w1.alloc (.cells #[.int .i64 n] 24)).alloc (.cells (arrO s n (n.tmod 100) w1.heap.size) TI)) := ((Below.refl _ w1).alloc (Nat.le_refl _) _).alloc (by simp) _
  have HB2 : Hid (Below w.heap.size w ((w1.alloc (.cells #[.int .i64 n] 24)).alloc (.cells (arrO s n (n.tmod 100) w1.heap.size) TI))) := Lib.hid (HB1.out.trans (hbs.mono HB1.out.size))
  have HS2 : Hid (((w1.alloc (.cells #[.int .i64 n] 24)).alloc (.cells (arrO s n (n.tmod 100) w1.heap.size) TI)).heap[w1.heap.size + 1]? = some (.cells (arrO s n (n.tmod 100) w1.heap.size) TI)) := Lib.hid (by
    have h := heap_alloc_new (w1.alloc (.cells #[.int .i64 n] 24)) (.cells (arrO s n (n.tmod 100) w1.heap.size) TI)
    rw [show (w1.alloc (.cells #[.int .i64 n] 24)).heap.size = w1.heap.size + 1 from by simp] at h
    exact h)
  generalize (w1.alloc (.cells #[.int .i64 n] 24)).alloc (.cells (arrO s n (n.tmod 100) w1.heap.size) TI) = w2 at *
  clear hbs d1 hbig
  obtain ⟨p, hp⟩ : ∃ p, p = w1.heap.size := ⟨_, rfl⟩
  rw [← hp] at HS2 ⊢
  obtain ⟨r, hr⟩ : ∃ r, r = n.tmod 100 := ⟨_, rfl⟩
  rw [← hr] at HS2 ⊢
  obtain ⟨S, hS⟩ : ∃ S, S = p + 1 := ⟨_, rfl⟩
  rw [← hS] at HS2 ⊢
  clear hp hr hS
  go_loopw [36] (fun i wr => ∃ k : Nat, k ≤ 4 ∧ i = .int .i64 k ∧ wr.heap[S]? = some (.cells (arrO s n r p) TI) ∧ Below w.heap.size w wr) (fun i _ => 4 - (intOf i).toNat)
  case atStart => exact ⟨0, by omega, rfl, HS2.out, HB2.out⟩
  case round =>
    clear HS2 HB2 HB1
    obtain ⟨wo, rfl⟩ : ∃ wo : World, wo = wr := ⟨_, rfl⟩
    obtain ⟨k, hk, rfl, hs, hb⟩ := hrel
    have HS := Lib.hid hs
    have HB := Lib.hid hb
    clear hs hb
    by_cases hlt : k < 4
    · as_aux_lemma =>
      obtain ⟨t, v, hv, hoth⟩ := oth_all s n r p k hlt
      have HOT := Lib.hid hoth
      have cs : wo.cell? ⟨S, k, none⟩ = some (.iface t v) := (cell_of_row wo S k _ _ _ HS.out).trans hv
      have e1 : (k : Int) < 4 := by omega
      have e2 : (0 : Int) ≤ (k : Int) := by omega
      have HK := Lib.hid hlt
      have hbX : Below wo.heap.size wo (wo.alloc (.cells #[.iface t v] TI)) := (Below.refl _ _).alloc (Nat.le_refl _) _
      have HS3 := Lib.hid (keep_row hbX HS.out)
      have HB3 : Hid (Below w.heap.size w (wo.alloc (.cells #[.iface t v] TI))) := Lib.hid (HB.out.trans (hbX.mono HB.out.size))
      have HX3 : Hid ((wo.alloc (.cells #[.iface t v] TI)).heap[wo.heap.size]? = some (.cells #[.iface t v] TI)) := Lib.hid (heap_alloc_new wo _)
      have cX : (wo.alloc (.cells #[.iface t v] TI)).cell? ⟨wo.heap.size, 0, none⟩ = some (.iface t v) := cell_of_row _ _ 0 _ _ _ HX3.out
      clear hv hoth hlt hbX hk
      go_wp2_with (fail)
      generalize wo.alloc (.cells #[.iface t v] TI) = w3 at *
      obtain ⟨X, hX⟩ : ∃ X, X = wo.heap.size := ⟨_, rfl⟩
      rw [← hX] at HX3 ⊢
      clear cs cX hX
      refine (guardLost_no t v HOT.out.no w3).mono ?_
      rintro e w4 ⟨rfl, hb4⟩
      have HS4 := Lib.hid (keep_row hb4 HS3.out)
      have HX4 := Lib.hid (keep_row hb4 HX3.out)
      have HB4 : Hid (Below w.heap.size w w4) := Lib.hid (HB3.out.trans (hb4.mono HB3.out.size))
      clear hb4 HS3 HX3 HB3 HS HB
      have hr5 := rows_two w4.heap (.cells #[.int .i64 0] 24) (.cells #[.nilFunc] 1)
      have h5 : ((w4.alloc (.cells #[.int .i64 0] 24)).alloc (.cells #[.nilFunc] 1)).heap[w4.heap.size + 1]? = some (.cells #[.nilFunc] 1) := hr5.2
      have c5 : ((w4.alloc (.cells #[.int .i64 0] 24)).alloc (.cells #[.nilFunc] 1)).cell? ⟨w4.heap.size + 1, 0, none⟩ = some .nilFunc := cell_of_row _ _ 0 _ _ _ h5
      have f5 : ((w4.alloc (.cells #[.int .i64 0] 24)).alloc (.cells #[.nilFunc] 1)).frozen? ⟨w4.heap.size + 1, 0, none⟩ = false := free_row h5
      clear hr5 h5
      go_wp2_with (fail)
      clear c5 f5
      obtain ⟨hbw, q1, q2, q3⟩ := rows_four w4 (.cells #[.int .i64 0] 24) (.cells #[fnO X] 1) (.cells #[.int .i64 0] 3) (.cells (arrF (w4.heap.size + 1) (w4.heap.size + 1 + 1)) 1)
      have HO7 : Hid (OthSt t v s n r p S X (w4.heap.size + 1) (w4.heap.size + 1 + 1) (w4.heap.size + 1 + 1 + 1) ((((w4.alloc (.cells #[.int .i64 0] 24)).alloc (.cells #[fnO X] 1)).alloc (.cells #[.int .i64 0] 3)).alloc (.cells (arrF (w4.heap.size + 1) (w4.heap.size + 1 + 1)) 1))) := Lib.hid ⟨keep_row hbw HS4.out, keep_row hbw HX4.out, q1, q2, q3⟩
      have HB7 : Hid (Below w.heap.size w ((((w4.alloc (.cells #[.int .i64 0] 24)).alloc (.cells #[fnO X] 1)).alloc (.cells #[.int .i64 0] 3)).alloc (.cells (arrF (w4.heap.size + 1) (w4.heap.size + 1 + 1)) 1))) := Lib.hid (HB4.out.trans (hbw.mono HB4.out.size))
      clear hbw q1 q2 q3 HS4 HX4
      generalize ((((w4.alloc (.cells #[.int .i64 0] 24)).alloc (.cells #[fnO X] 1)).alloc (.cells #[.int .i64 0] 3)).alloc (.cells (arrF (w4.heap.size + 1) (w4.heap.size + 1 + 1)) 1)) = w7 at *
      obtain ⟨Y, hY⟩ : ∃ Y, Y = w4.heap.size + 1 := ⟨_, rfl⟩
      rw [← hY] at HO7 ⊢
      obtain ⟨Z, hZ⟩ : ∃ Z, Z = Y + 1 := ⟨_, rfl⟩
      rw [← hZ] at HO7 ⊢
      obtain ⟨G, hG⟩ : ∃ G, G = Z + 1 := ⟨_, rfl⟩
      rw [← hG] at HO7 ⊢
      clear hY hZ hG HB4
      go_loopw [52] (fun i wr => ∃ j : Nat, j ≤ 3 ∧ i = .int .i64 j ∧ OthSt t v s n r p S X Y Z G wr ∧ Below w.heap.size w wr) (fun i _ => 3 - (intOf i).toNat)
      case atStart => exact ⟨0, by omega, rfl, HO7.out, HB7.out⟩
      case round =>
        clear HO7 HB7
        obtain ⟨wi, rfl⟩ : ∃ wi : World, wi = wr := ⟨_, rfl⟩
        obtain ⟨j, hj, rfl, ho, hb⟩ := hrel
        have HO := Lib.hid ho
        have HB := Lib.hid hb
        clear ho hb
        by_cases hlj : j < 3
        · as_aux_lemma =>
          obtain ⟨f, hf, kf, caps, rfl, hok, hth⟩ := thr_all HOT.out.no X Y Z j hlj
          have cg : wi.cell? ⟨G, j, none⟩ = some (.func (.func kf) #[] caps) := (cell_of_row wi G j _ _ _ HO.out.rG).trans hf
          have e3 : (j : Int) < 3 := by omega
          have e4 : (0 : Int) ≤ (j : Int) := by omega
          have HTH := Lib.hid hth
          have HOK := Lib.hid hok
          have HJ := Lib.hid hlj
          clear hf
          go_wp2_with (fail)
          have cX : wi.drew.cell? ⟨X, 0, none⟩ = some (.iface t v) := cell_of_row _ X 0 _ _ _ HO.out.rX
          have hne := HOT.out.eq
          clear cg
          go_region_with ((go_at_call 28; go_loud ((refine (meetsO kf caps HOK.out t v _ (fun wz hz => HTH.out wz (keep_row hz (by exact HO.out.rX)) (keep_row hz (by exact HO.out.rY)))).mono ?_; rintro e w8 ⟨rfl, hb8⟩; have hb9 : Below wi.heap.size wi w8 := ((Below.refl _ wi).drew.trans hb8); have HO8 := Lib.hid (HO.out.below hb9); have HB8 : Hid (Below w.heap.size w w8) := Lib.hid (HB.out.trans (hb9.mono HB.out.size)); have cX8 : w8.cell? ⟨X, 0, none⟩ = some (.iface t v) := cell_of_row _ X 0 _ _ _ HO8.out.rX; clear hb8 hb9))))
          all_goals
            go_wp2_with (fail)
            exact ⟨⟨j + 1, by omega, by go_num, HO8.out, HB8.out⟩, by simp [intOf]; omega⟩
        · as_aux_lemma =>
          obtain rfl : j = 3 := by omega
          have HB' := HB
          have cZ : wi.cell? ⟨Z, 0, none⟩ = some (.int .i64 0) := cell_of_row _ Z 0 _ _ _ HO.out.rZ
          have hs := HO.out.rS
          have hk4 := HK.out
          go_wp2_with (fail)
          exact ⟨⟨k + 1, by omega, by go_num, hs, HB'.out⟩, by simp [intOf]; omega⟩
    · as_aux_lemma =>
      obtain rfl : k = 4 := by omega
      have HB' := HB
      go_wp2_with (fail)
      go_ret
      exact ⟨rfl, HB'.out⟩
end Go.Proofs.Ytikobhbknnlgbaa
