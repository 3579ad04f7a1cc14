/- GuardAgain, walked. -/
import Derived.Test.YtkniednjchnncaaGuardRowsW
namespace Go.Proofs.Ytkniednjchnncaa
open Go.RowKit

theorem okA : FnOk 33 := fun args w => Go.MuLone.run_callFunc_enter Try.func33 (by kernel_rfl) rfl args w
set_option maxHeartbeats 1000000 in
set_option maxRecDepth 100000 in
theorem again1 (S g : Nat) (x kd nn : Int) (hx : -300000 ≤ x ∧ x ≤ 300000) (W : World) (hS : W.heap[S]? = some (.cells #[.int .i64 x] 3)) (hg : W.heap[g]? = some (.cells #[.int .i64 kd, .int .i64 nn] 35)) :
    Calls Try.prog 33 #[.pointer (some ⟨S, 0, none⟩), .pointer (some ⟨g, 0, none⟩)] W fun e w' => w' = W.setCell ⟨S, 0, none⟩ (.int .i64 (x + 1)) ∧ ((kd = 1 ∧ e = .panicked [{ v := crashI nn, recovered := false }]) ∨ (kd ≠ 1 ∧ e = .returned (.tuple #[]))) := by
  have hne : g ≠ S := by
    intro e
    rw [e, hS] at hg
    injection hg with hg
    injection hg with _ hg
    exact absurd hg (by decide)
  have c := cell_of_row W S 0 _ _ _ hS
  have z0 := cell_of_row W g 0 _ _ _ hg
  have z1 := cell_of_row W g 1 _ _ _ hg
  simp only [List.getElem?_toArray, List.getElem?_cons_zero, List.getElem?_cons_succ] at c z0 z1
  have f : W.frozen? ⟨S, 0, none⟩ = false := by simp [World.frozen?, hS]
  have ew : IntKind.i64.wrap (x + 1) = x + 1 := by rw [IntKind.wrap_i64]; omega
  clear hS hg
  by_cases h1 : kd = 1
  · have d : (kd == 1) = true := by rw [h1]; rfl
    have H1 := Lib.hid h1
    clear h1
    go_enter Try.func33, Try.ntmps33
    go_wp2_with (fail)
    exact ⟨rfl, rfl, .inl ⟨H1.out, rfl⟩⟩
  · have d : (kd == 1) = false := by rw [beq_eq_false_iff_ne]; exact h1
    have H1 := Lib.hid h1
    clear h1
    go_enter Try.func33, Try.ntmps33
    go_wp2_with (fail)
    go_end0
    exact ⟨rfl, .inr ⟨H1.out, rfl⟩⟩

def AgainI (w : World) (S : Nat) (v : Value) (L : List (Int × Int)) (Gs : List Nat) (at_ i : Nat) (W : World) : Prop :=
  FnRow W w.heap.size 33 S v L Gs ∧ W.heap[S]? = some (.cells #[.int .i64 ((at_ + i : Nat) : Int)] 3) ∧ Below w.heap.size w W
def AgainP (w : World) (S : Nat) (v : Value) (L : List (Int × Int)) (Gs : List Nat) (at_ i : Nat) (op : Int) (W : World) : Prop :=
  op = (L.getD (at_ + i) (0, 0)).2 ∧ (L.getD (at_ + i) (0, 0)).1 = 1 ∧ AgainI w S v L Gs at_ (i + 1) W

def Again2 (w : World) (S : Nat) (v : Value) (L : List (Int × Int)) (Gs : List Nat) (at_ : Nat) (W : World) : Prop := at_ ≤ L.length + 1 ∧ AgainI w S v L Gs (min at_ L.length) 0 W
theorem AgainI.below {w W W' : World} {S : Nat} {v : Value} {L : List (Int × Int)} {Gs : List Nat} {at_ i : Nat} (h : AgainI w S v L Gs at_ i W) (hb : Below W.heap.size W W') : AgainI w S v L Gs at_ i W' :=
  ⟨h.1.below hb, (hb.block _ (Array.getElem?_eq_some_iff.1 h.2.1).1).trans h.2.1, h.2.2.trans (hb.mono h.2.2.size)⟩
theorem AgainI.next {w W W' : World} {S : Nat} {v : Value} {L : List (Int × Int)} {Gs : List Nat} {p i q : Nat} (h : AgainI w S v L Gs p i W) (hb : Below W.heap.size W W') (hq : p + i = min q L.length) (hl : q ≤ L.length + 1) : Again2 w S v L Gs q W' := by
  have := h.below hb
  refine ⟨hl, this.1, ?_, this.2.2⟩
  rw [← hq, Nat.add_zero]
  exact this.2.1
theorem FnRow.room {W : World} {base : Nat} {k : FuncId} {S : Nat} {A : Option Addr} {m c : Nat} {L : List (Int × Int)} {Gs : List Nat} (h : FnRow W base k S (.slice A m c) L Gs) (hi : 0 < L.length) : ∃ b, A = some ⟨b, 0, none⟩ ∧ L.length ≤ c ∧ c ≤ 9223372036854775807 := by
  rcases h.2.1.2 with ⟨e, h0⟩ | ⟨g, cap, cur, e, h1, h2, h3, h4, _⟩
  · omega
  · injection e with e1 e2 e3
    subst e1 e3
    exact ⟨g, rfl, h3, by simpa only [maxLen] using h4⟩

theorem againRow (w wr : World) (S : Nat) (v : Value) (b c : Nat) (L : List (Int × Int)) (Gs : List Nat) (at_ : Nat) (hat : at_ < L.length) (hv : v = .slice (some ⟨b, 0, none⟩) L.length c) (hn : L.length ≤ 100) (hBS : w.heap.size ≤ S) (h0 : AgainI w S v L Gs at_ 0 wr) :
    Calls Try.prog 18 #[.slice (some ⟨b, at_, none⟩) (L.length - at_) (c - at_)] wr (RowPost (L.length - at_) (AgainI w S v L Gs at_) (AgainP w S v L Gs at_)) := by
  have hSl : S < wr.heap.size := (Array.getElem?_eq_some_iff.1 h0.2.1).1
  have hBw : w.heap.size ≤ wr.heap.size := h0.2.2.size
  refine guardRow (some ⟨b, at_, none⟩) (L.length - at_) (c - at_) wr (by omega) _ _ h0 ?_ ?_ ?_
  · rintro i W W' ⟨h1, h2, h4⟩ hb
    exact ⟨h0.1.stable h1 hb, by rw [hb.block _ hSl]; exact h2, h4.trans (hb.mono hBw)⟩
  · rintro i op W W' ⟨h5, h6, h1, h2, h4⟩ hb
    exact ⟨h5, h6, h0.1.stable h1 hb, by rw [hb.block _ hSl]; exact h2, h4.trans (hb.mono hBw)⟩
  · rintro i W ⟨h1, h2, h4⟩ hi
    have h1' := h1
    rw [hv] at h1'
    obtain ⟨b', gi, e, hg, hc⟩ := h1'.read (i := at_ + i) (by omega)
    injection e with e
    injection e with e
    subst e
    refine ⟨b, at_, _, rfl, by rw [← hc, Nat.zero_add], .inr ⟨_, _, rfl, okA, ?_⟩⟩
    rintro w1 ⟨k1, k2, k4⟩ hsz
    have hq : L[at_ + i]? = some (L.getD (at_ + i) (0, 0)) := by rw [List.getD_eq_getElem?_getD, List.getElem?_eq_getElem (by omega)]; rfl
    have hrow := k1.2.2 (at_ + i) gi _ hg hq
    refine (again1 S gi ((at_ + i : Nat) : Int) _ _ (by omega) w1 k2 hrow).mono ?_
    rintro e w2 ⟨rfl, hcase⟩
    have hk := keeps_set (B := wr.heap.size) hSl w1 (.int .i64 (((at_ + i : Nat) : Int) + 1))
    have hS2 : (w1.setCell ⟨S, 0, none⟩ (.int .i64 (((at_ + i : Nat) : Int) + 1))).heap[S]? = some (.cells #[.int .i64 ((at_ + (i + 1) : Nat) : Int)] 3) := heap_setCell_same w1 S 0 _ _ _ k2
    have hB2 := k4.setCell (p := ⟨S, 0, none⟩) hBS (.int .i64 (((at_ + i : Nat) : Int) + 1))
    refine ⟨hk.1, hk.2, ?_⟩
    rcases hcase with ⟨hkd, rfl⟩ | ⟨hkd, rfl⟩
    · exact .inr ⟨_, rfl, rfl, hkd, k1.setS k2 _, hS2, hB2⟩
    · exact .inl ⟨rfl, k1.setS k2 _, hS2, hB2⟩

set_option maxHeartbeats 4000000 in
set_option maxRecDepth 100000 in
theorem guardAgain_walk (A : Option Addr) (n c : Nat) (L : List (Int × Int)) (w : World) (hP : Ps w A n c L) : Calls Try.prog 9 #[.slice A n c] w (True_ w) := by
  have hmf : ∀ (fn : Fn) (first cap : Array Value) (w : World), (Instr.makeFunc fn first cap).run Try.prog w = .ok (.func fn first cap) w := fun _ _ _ _ => rfl
  have hmax := hP.nmax
  have HP := Lib.hid hP
  clear hP
  go_enter Try.func9, Try.ntmps9
  go_wp2_with (fail)
  refine (guardAlive w).mono ?_
  rintro e w1 ⟨rfl, hb1⟩
  have HB1 := Lib.hid hb1
  clear hb1
  by_cases hlong : (100 : Int) < (n : Int)
  · go_wp2_with (fail)
    refine (guardAlive w1).mono ?_
    rintro e w2 ⟨rfl, hb2⟩
    go_wp2_with (fail)
    go_ret
    exact ⟨rfl, HB1.out.trans (hb2.mono HB1.out.size)⟩
  · have HN : Hid (n ≤ 100) := Lib.hid (by omega)
    go_wp2_with (fail)
    have hn2 := heap_alloc_new w1 (.cells #[.int .i64 0] 3)
    have HB2 : Hid (Below w.heap.size w (w1.alloc (.cells #[.int .i64 0] 3))) := Lib.hid (HB1.out.alloc HB1.out.size _)
    obtain ⟨S, hS⟩ : ∃ q, q = w1.heap.size := ⟨_, rfl⟩
    have HBS : Hid (w.heap.size ≤ S) := Lib.hid (by rw [hS]; exact HB1.out.size)
    rw [← hS] at hn2 ⊢
    clear hS HB1
    generalize w1.alloc (.cells #[.int .i64 0] 3) = w2 at *
    go_loopw [21, 4, 6] (fun i v _ wr => ∃ j : Nat, j ≤ n ∧ i = .int .i64 j ∧ (∃ Gs, FnRow wr w.heap.size 33 S v (L.take j) Gs) ∧ wr.heap[S]? = some (.cells #[.int .i64 0] 3) ∧ Below w.heap.size w wr) (fun i _ _ _ => n - (intOf i).toNat)
    case atStart => exact ⟨0, Nat.zero_le _, rfl, ⟨[], by rw [List.take_zero]; exact FnRow.nil _ _ _ _⟩, hn2, HB2.out⟩
    case round =>
      clear hn2 HB2
      obtain ⟨j, hj, rfl, ⟨Gs, hF⟩, hS0, hB⟩ := hrel
      have HF := Lib.hid hF
      have HS0 := Lib.hid hS0
      have HB := Lib.hid hB
      clear hF hS0 hB
      by_cases hlt : j < n
      · have HPr := HP.out.below (HB.out.mono (Nat.le_refl _))
        obtain ⟨b, o, rfl, _, hc⟩ := HPr.at_ (by omega)
        have hLl : j < L.length := by rw [HP.out.1]; exact hlt
        have hcc := hc j (L.getD j (0, 0)) (by rw [List.getD_eq_getElem?_getD, List.getElem?_eq_getElem hLl]; rfl)
        have z0 := hcc.1
        have z1 := hcc.2
        have HTK := Lib.hid (take_more L j hLl)
        have HTL : Hid ((L.take j).length = j) := Lib.hid (by rw [List.length_take]; omega)
        obtain ⟨qq, hqq⟩ : ∃ y, y = L.getD j (0, 0) := ⟨_, rfl⟩
        rw [← hqq] at z0 z1 HTK
        clear hc hcc hLl HPr hqq
        have e1 : (j : Int) < (n : Int) := by omega
        have e0 : (0 : Int) ≤ (j : Int) := by omega
        have HLT := Lib.hid hlt
        clear hlt
        have tok1 : Hid True := Lib.hid trivial
        go_wp2_with (at_builtin; have _t := tok1; go_loud ((refine wpList_fn rfl (.tmp 25) (.tmp 27) rfl w.heap.size _ (L.take j).length (Gs.map (fvS 33 S)) rfl ((HF.out.2.1.alloc _).alloc _) (wr.heap.size + 1) (fvS 33 S wr.heap.size) rfl rfl ((rows_two wr.heap _ _).2) (by have := HTL.out; have := HN.out; have := HLT.out; omega) (by have := HB.out.size; simp; omega) ?_; intro v' w' hown hgr; have HOWN := Lib.hid hown; have HGR := Lib.hid hgr; clear tok1 hown hgr _t)))
        have h2 := rows_two wr.heap (.cells #[.int .i64 qq.1, .int .i64 qq.2] 35) (.cells #[fvS 33 S wr.heap.size] 1)
        have hbw : Below wr.heap.size wr ((wr.alloc (.cells #[.int .i64 qq.1, .int .i64 qq.2] 35)).alloc (.cells #[fvS 33 S wr.heap.size] 1)) := ((Below.refl _ wr).alloc (Nat.le_refl _) _).alloc (by simp) _
        have hFW := HF.out.below hbw
        have hSW : ((wr.alloc (.cells #[.int .i64 qq.1, .int .i64 qq.2] 35)).alloc (.cells #[fvS 33 S wr.heap.size] 1)).heap[S]? = some (.cells #[.int .i64 0] 3) := (hbw.block S (Array.getElem?_eq_some_iff.1 HS0.out).1).trans HS0.out
        have hBW := HB.out.trans (hbw.mono HB.out.size)
        have hzW : w.heap.size ≤ ((wr.alloc (.cells #[.int .i64 qq.1, .int .i64 qq.2] 35)).alloc (.cells #[fvS 33 S wr.heap.size] 1)).heap.size := Nat.le_trans HB.out.size hbw.size
        refine ⟨⟨j + 1, HLT.out, by go_num, ⟨_, by rw [HTK.out]; exact FnRow.more (q := qq) hFW h2.1 HOWN.out HGR.out⟩, ?_, hBW.grown HGR.out hzW (fun k hk => (hFW.2.1.lt k hk).1)⟩, by have := HLT.out; simp [intOf]; omega⟩
        rw [HGR.out.block S (Array.getElem?_eq_some_iff.1 hSW).1 (own_ne hFW.2.1 hSW (by decide))]
        exact hSW
      · obtain rfl : j = n := by omega
        have hLn : L.length = j := HP.out.1
        have hF2 := HF.out
        rw [List.take_of_length_le (by omega)] at hF2
        obtain ⟨A2, c2, hv⟩ := hF2.form
        subst hv
        have HI : Hid (AgainI w S (.slice A2 L.length c2) L Gs 0 0 wr) := Lib.hid ⟨hF2, HS0.out, HB.out⟩
        have HLN := Lib.hid hLn
        clear hF2 HF HS0 hLn HB
        have hLN := HLN.out
        clear HLN
        subst hLN
        clear hj hlt
        go_wp2_with (fail)
        go_loopw [7, 8, 9, 10] (fun a _ _ _ wq => ∃ p : Nat, a = .int .i64 p ∧ Again2 w S (.slice A2 L.length c2) L Gs p wq) (fun a _ _ _ _ => L.length + 1 - (intOf a).toNat)
        case atStart => exact ⟨0, rfl, Nat.zero_le _, by rw [Nat.zero_min]; exact HI.out⟩
        case round =>
          clear HI
          obtain ⟨p, rfl, hp, hI⟩ := hrel
          have HPL := Lib.hid hp
          clear hp
          by_cases hlt : p < L.length
          · rw [Nat.min_eq_left (by omega)] at hI
            obtain ⟨b, rfl, hc1, hc2⟩ := hI.1.room (by omega)
            have HI := Lib.hid hI
            clear hI
            have e1 : (p : Int) < (L.length : Int) := by omega
            have e0 : (0 : Int) ≤ (p : Int) := by omega
            have hcp : ¬ c2 = p := by omega
            have HLT := Lib.hid hlt
            clear hlt
            go_wp2_with (fail)
            refine (againRow w wr S _ b c2 L Gs p HLT.out rfl HN.out HBS.out HI.out).mono ?_
            rintro e w3 hcase
            obtain ⟨m, hm⟩ : ∃ m, m = L.length - p := ⟨_, rfl⟩
            rw [← hm] at hcase
            have HM : Hid (p + m = L.length) := Lib.hid (by have := HLT.out; omega)
            have ew : IntKind.i64.wrap ((L.length : Int) - (p : Int)) = (m : Int) := by have := HLT.out; rw [IntKind.wrap_i64]; omega
            clear hm HI
            rcases hcase with ⟨rfl, hI⟩ | ⟨i, op, hi, rfl, hop, hkd, hI⟩
            · have HI := Lib.hid hI
              clear hI
              go_wp2_with (fail)
              have d1 : decide ((m : Int) < 0) = false := by simp
              go_quiet (fail)
              go_wp2_with (fail)
              have hlen := HN.out
              have hm := HM.out
              have ev : wrap64 ((p : Int) + wrap64 ((m : Int) + 1)) = ((L.length + 1 : Nat) : Int) := by
                rw [show wrap64 ((m : Int) + 1) = (m : Int) + 1 from IntWalk.wrap64_in _ (by omega), IntWalk.wrap64_in _ (by omega)]; omega
              rw [ev]
              refine ⟨⟨_, rfl, HI.out.next (drawN_below ((Below.refl _ w3).alloc (Nat.le_refl _) _) _) (by omega) (by omega)⟩, by simp [intOf]; omega⟩
            · have HI := Lib.hid hI
              have HB3 := Lib.hid hI.2.2
              have HIM := Lib.hid hi
              have hLl : p + i < L.length := by have := HM.out; omega
              have d1 : decide ((i : Int) < 0) = false := by simp
              have d2 : decide (m < i) = false := by simp; omega
              have d3 : decide (i < m) = true := by simp; omega
              have ew2 : IntKind.i64.wrap ((p : Int) + (i : Int)) = ((p + i : Nat) : Int) := by rw [IntKind.wrap_i64]; omega
              have e2 : ((p + i : Nat) : Int) < (L.length : Int) := by omega
              have HOP := Lib.hid hop
              have HKD := Lib.hid hkd
              have HLL := Lib.hid hLl
              clear hI hop hkd hi hLl
              go_wp2_with (fail)
              have hb4 := (Below.refl w3.heap.size w3).alloc (Nat.le_refl _) (.cells #[.int .i64 op] 24)
              have hG := heap_alloc_new w3 (.cells #[.int .i64 op] 24)
              have HI4 := Lib.hid (HI.out.below hb4)
              have HP4 := Lib.hid (HP.out.below (HI4.out.2.2.mono (Nat.le_refl _)))
              obtain ⟨G, hGG⟩ : ∃ y, y = w3.heap.size := ⟨_, rfl⟩
              rw [← hGG] at hG ⊢
              clear hb4 hGG HI HB3
              generalize w3.alloc (.cells #[.int .i64 op] 24) = w4 at *
              have cG := cell_of_row w4 G 0 _ _ _ hG
              simp only [List.getElem?_toArray, List.getElem?_cons_zero] at cG
              obtain ⟨bA, oA, rfl, _, hc⟩ := HP4.out.at_ (by omega)
              have hcc := hc (p + i) (L.getD (p + i) (0, 0)) (by rw [List.getD_eq_getElem?_getD, List.getElem?_eq_getElem HLL.out]; rfl)
              rw [HKD.out, ← HOP.out] at hcc
              have z0 := hcc.1
              have z1 := hcc.2
              clear hc hcc hG
              go_quiet (fail)
              go_wp2_with (fail)
              have hm := HM.out
              have him := HIM.out
              have ev : (p : Int) + ((i : Int) + 1) = ((p + i + 1 : Nat) : Int) := by omega
              rw [ev]
              refine ⟨⟨_, rfl, HI4.out.next (drawN_below (Below.refl _ w4) _) (by omega) (by omega)⟩, by simp [intOf]; omega⟩
          · rw [Nat.min_eq_right (by omega)] at hI
            have cS := cell_of_row wr S 0 _ _ _ hI.2.1
            simp only [List.getElem?_toArray, List.getElem?_cons_zero, Nat.add_zero] at cS
            have HI := Lib.hid hI
            have e1 : ¬ (p : Int) < (L.length : Int) := by omega
            clear hI hlt
            go_wp2_with (fail)
            go_ret
            exact ⟨rfl, HI.out.2.2⟩
end Go.Proofs.Ytkniednjchnncaa
