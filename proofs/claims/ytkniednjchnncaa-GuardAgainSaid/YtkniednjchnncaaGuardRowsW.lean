/- GuardRows, walked. -/
import Derived.Test.YtkniednjchnncaaGuardRowsA
import Derived.Test.YtkniednjchnncaaHeld
import Derived.OwnWalk
namespace Go.Proofs.Ytkniednjchnncaa
open Go.RowKit

def RowsI (w : World) (k : FuncId) (S : Nat) (v : Value) (L : List (Int × Int)) (Gs : List Nat) (i : Nat) (W : World) : Prop :=
  FnRow W w.heap.size k S v L Gs ∧ W.heap[S]? = some (.cells #[.int .i64 (psum L i)] 3) ∧ quiet L i ∧ Below w.heap.size w W ∧ i ≤ 300
def RowsP (w : World) (S : Nat) (L : List (Int × Int)) (i : Nat) (op : Int) (W : World) : Prop :=
  op = (L.getD i (0, 0)).2 ∧ (L.getD i (0, 0)).1 = 1 ∧ quiet L i ∧ W.heap[S]? = some (.cells #[.int .i64 (psum L (i + 1))] 3) ∧ Below w.heap.size w W

theorem rowsRow (w wr : World) (S : Nat) (v : Value) (A : Option Addr) (c : Nat) (L : List (Int × Int)) (Gs : List Nat) (hv : v = .slice A L.length c) (hn : L.length ≤ 300) (hBS : w.heap.size ≤ S) (h0 : RowsI w 16 S v L Gs 0 wr) :
    Calls Try.prog 18 #[.slice A L.length c] wr (RowPost L.length (RowsI w 16 S v L Gs) (RowsP w S L)) := by
  have hSl : S < wr.heap.size := (Array.getElem?_eq_some_iff.1 h0.2.1).1
  have hBw : w.heap.size ≤ wr.heap.size := h0.2.2.2.1.size
  refine guardRow A L.length c wr (by omega) _ _ h0 ?_ ?_ ?_
  · rintro i W W' ⟨h1, h2, h3, h4, h5⟩ hb
    exact ⟨h0.1.stable h1 hb, by rw [hb.block _ hSl]; exact h2, h3, h4.trans (hb.mono hBw), h5⟩
  · rintro i op W W' ⟨h1, h2, h3, h4, h5⟩ hb
    exact ⟨h1, h2, h3, by rw [hb.block _ hSl]; exact h4, h5.trans (hb.mono hBw)⟩
  · rintro i W ⟨h1, h2, h3, h4, h5⟩ hi
    rw [hv] at h1
    obtain ⟨b, gi, e, hg, hc⟩ := h1.read hi
    refine ⟨b, 0, _, e, hc, .inr ⟨_, _, rfl, okS, ?_⟩⟩
    rintro w1 ⟨k1, k2, k3, k4, k5⟩ hsz
    have hq : L[i]? = some (L.getD i (0, 0)) := by rw [List.getD_eq_getElem?_getD, List.getElem?_eq_getElem hi]; rfl
    have hrow := k1.2.2 i gi _ hg hq
    have hpb := psum_bound L i
    refine (rows1 S gi (psum L i) _ _ _ rfl (by omega) w1 k2 hrow).mono ?_
    rintro e w2 ⟨rfl, hcase⟩
    have hk := keeps_set (B := wr.heap.size) hSl w1 (.int .i64 (psum L i + (L.getD i (0, 0)).2.tmod 1000))
    have hS2 : (w1.setCell ⟨S, 0, none⟩ (.int .i64 (psum L i + (L.getD i (0, 0)).2.tmod 1000))).heap[S]? = some (.cells #[.int .i64 (psum L (i + 1))] 3) := heap_setCell_same w1 S 0 _ _ _ k2
    have hB2 := k4.setCell (p := ⟨S, 0, none⟩) hBS (.int .i64 (psum L i + (L.getD i (0, 0)).2.tmod 1000))
    refine ⟨hk.1, hk.2, ?_⟩
    rcases hcase with ⟨hkd, rfl⟩ | ⟨hkd, rfl⟩
    · exact .inr ⟨_, rfl, rfl, hkd, k3, hS2, hB2⟩
    · refine .inl ⟨rfl, k1.setS k2 _, hS2, fun j hj => ?_, hB2, by omega⟩
      by_cases hji : j = i
      · rw [hji]; exact hkd
      · exact k3 j (by omega)

def Out (n : Nat) (L : List (Int × Int)) (r op : Int) (gone : Bool) (sum : Int) : Prop :=
  (quiet L n ∧ r = (n : Int) ∧ op = 0 ∧ gone = false ∧ sum = psum L n) ∨ ∃ i : Nat, i < n ∧ quiet L i ∧ (L.getD i (0, 0)).1 = 1 ∧ r = (i : Int) ∧ op = (L.getD i (0, 0)).2 ∧ gone = true ∧ sum = psum L (i + 1)
theorem Out.uniq {n : Nat} {L : List (Int × Int)} {r op r' op' sum sum' : Int} {gone gone' : Bool} (h : Out n L r op gone sum) (h' : Out n L r' op' gone' sum') : r' = r ∧ op' = op ∧ gone' = gone ∧ sum' = sum := by
  rcases h with ⟨hq, rfl, rfl, rfl, rfl⟩ | ⟨i, hi, hq, hk, rfl, rfl, rfl, rfl⟩ <;> rcases h' with ⟨hq', rfl, rfl, rfl, rfl⟩ | ⟨i', hi', hq', hk', rfl, rfl, rfl, rfl⟩
  · exact ⟨rfl, rfl, rfl, rfl⟩
  · exact absurd hk' (hq i' hi')
  · exact absurd hk (hq' i hi)
  · rcases Nat.lt_trichotomy i i' with h | h | h
    · exact absurd hk (hq' i h)
    · subst h; exact ⟨rfl, rfl, rfl, rfl⟩
    · exact absurd hk' (hq i' h)
theorem out_row {w : World} {k : FuncId} {S : Nat} {v : Value} {L : List (Int × Int)} {Gs : List Nat} {e : Ending} {w' : World} (h : RowPost L.length (RowsI w k S v L Gs) (RowsP w S L) e w') :
    ∃ r op gone sum, e = .returned (.tuple #[.int .i64 r, crash op, .bool gone]) ∧ Out L.length L r op gone sum ∧ w'.heap[S]? = some (.cells #[.int .i64 sum] 3) ∧ Below w.heap.size w w' := by
  rcases h with ⟨rfl, _, h2, h3, h4, _⟩ | ⟨i, op, hi, rfl, rfl, h2, h3, h4, h5⟩
  · exact ⟨_, _, _, _, rfl, .inl ⟨h3, rfl, rfl, rfl, rfl⟩, h2, h4⟩
  · exact ⟨_, _, _, _, rfl, .inr ⟨i, hi, h3, h2, rfl, rfl, rfl, rfl⟩, h4, h5⟩
theorem out_ref {n : Nat} {L : List (Int × Int)} {w : World} {e : Ending} {w' : World} (h : RefRow n L w e w') :
    ∃ r op gone sum, e = .returned (.tuple #[.int .i64 r, .int .i64 op, .bool gone, .int .i64 sum]) ∧ Out n L r op gone sum ∧ Below w.heap.size w w' := by
  rcases h with ⟨hb, ⟨h1, rfl⟩ | ⟨i, hi, h1, h2, rfl⟩⟩
  · exact ⟨_, _, _, _, rfl, .inl ⟨h1, rfl, rfl, rfl, rfl⟩, hb⟩
  · exact ⟨_, _, _, _, rfl, .inr ⟨i, hi, h1, h2, rfl, rfl, rfl, rfl⟩, hb⟩

theorem take_more (L : List (Int × Int)) (j : Nat) (hj : j < L.length) : L.take (j + 1) = L.take j ++ [L.getD j (0, 0)] := by
  rw [List.take_add_one, List.getD_eq_getElem?_getD, List.getElem?_eq_getElem hj]
  rfl

set_option maxHeartbeats 4000000 in
set_option maxRecDepth 100000 in
theorem guardRows_walk (A : Option Addr) (n c : Nat) (L : List (Int × Int)) (w : World) (hP : Ps w A n c L) : Calls Try.prog 4 #[.slice A n c] w (True_ w) := by
  have hmf : ∀ (fn : Fn) (first cap : Array Value) (w : World), (Instr.makeFunc fn first cap).run Try.prog w = .ok (.func fn first cap) w := fun _ _ _ _ => rfl
  have hmax := hP.nmax
  have HP := Lib.hid hP
  clear hP
  go_enter Try.func4, Try.ntmps4
  go_wp2_with (fail)
  refine (guardAlive w).mono ?_
  rintro e w1 ⟨rfl, hb1⟩
  have HB1 := Lib.hid hb1
  clear hb1
  by_cases hlong : (300 : Int) < (n : Int)
  · go_wp2_with (fail)
    refine (guardAlive w1).mono ?_
    rintro e w2 ⟨rfl, hb2⟩
    go_wp2_with (fail)
    go_ret
    exact ⟨rfl, HB1.out.trans (hb2.mono HB1.out.size)⟩
  · have HN : Hid (n ≤ 300) := Lib.hid (by omega)
    go_wp2_with (fail)
    have hn2 := heap_alloc_new w1 (.cells #[.int .i64 0] 3)
    have HB2 : Hid (Below w.heap.size w (w1.alloc (.cells #[.int .i64 0] 3))) := Lib.hid (HB1.out.alloc HB1.out.size _)
    obtain ⟨S, hS⟩ : ∃ q, q = w1.heap.size := ⟨_, rfl⟩
    have HBS : Hid (w.heap.size ≤ S) := Lib.hid (by rw [hS]; exact HB1.out.size)
    rw [← hS] at hn2 ⊢
    clear hS HB1
    generalize w1.alloc (.cells #[.int .i64 0] 3) = w2 at *
    go_loopw [24, 4, 6] (fun i v _ wr => ∃ j : Nat, j ≤ n ∧ i = .int .i64 j ∧ (∃ Gs, FnRow wr w.heap.size 16 S v (L.take j) Gs) ∧ wr.heap[S]? = some (.cells #[.int .i64 0] 3) ∧ Below w.heap.size w wr) (fun i _ _ _ => n - (intOf i).toNat)
    case atStart => exact ⟨0, Nat.zero_le _, rfl, ⟨[], by rw [List.take_zero]; exact FnRow.nil _ _ _ _⟩, hn2, HB2.out⟩
    case round =>
      clear hn2 HB2
      obtain ⟨j, hj, rfl, ⟨Gs, hF⟩, hS0, hB⟩ := hrel
      have HF := Lib.hid hF
      have HS0 := Lib.hid hS0
      have HB := Lib.hid hB
      clear hF hS0 hB
      by_cases hlt : j < n
      · have HPr := HP.out.below (HB.out.mono (Nat.le_refl _))
        obtain ⟨b, o, rfl, _, hc⟩ := HPr.at_ (by omega)
        have hLl : j < L.length := by rw [HP.out.1]; exact hlt
        have hcc := hc j (L.getD j (0, 0)) (by rw [List.getD_eq_getElem?_getD, List.getElem?_eq_getElem hLl]; rfl)
        have z0 := hcc.1
        have z1 := hcc.2
        have HTK := Lib.hid (take_more L j hLl)
        have HTL : Hid ((L.take j).length = j) := Lib.hid (by rw [List.length_take]; omega)
        obtain ⟨qq, hqq⟩ : ∃ y, y = L.getD j (0, 0) := ⟨_, rfl⟩
        rw [← hqq] at z0 z1 HTK
        clear hc hcc hLl HPr hqq
        have e1 : (j : Int) < (n : Int) := by omega
        have e0 : (0 : Int) ≤ (j : Int) := by omega
        have HLT := Lib.hid hlt
        clear hlt
        have tok1 : Hid True := Lib.hid trivial
        go_wp2_with (at_builtin; have _t := tok1; go_loud ((refine wpList_fn rfl (.tmp 28) (.tmp 30) rfl w.heap.size _ (L.take j).length (Gs.map (fvS 16 S)) rfl ((HF.out.2.1.alloc _).alloc _) (wr.heap.size + 1) (fvS 16 S wr.heap.size) rfl rfl ((rows_two wr.heap _ _).2) (by have := HTL.out; have := HN.out; have := HLT.out; omega) (by have := HB.out.size; simp; omega) ?_; intro v' w' hown hgr; have HOWN := Lib.hid hown; have HGR := Lib.hid hgr; clear tok1 hown hgr _t)))
        have h2 := rows_two wr.heap (.cells #[.int .i64 qq.1, .int .i64 qq.2] 35) (.cells #[fvS 16 S wr.heap.size] 1)
        have hbw : Below wr.heap.size wr ((wr.alloc (.cells #[.int .i64 qq.1, .int .i64 qq.2] 35)).alloc (.cells #[fvS 16 S wr.heap.size] 1)) := ((Below.refl _ wr).alloc (Nat.le_refl _) _).alloc (by simp) _
        have hFW := HF.out.below hbw
        have hSW : ((wr.alloc (.cells #[.int .i64 qq.1, .int .i64 qq.2] 35)).alloc (.cells #[fvS 16 S wr.heap.size] 1)).heap[S]? = some (.cells #[.int .i64 0] 3) := (hbw.block S (Array.getElem?_eq_some_iff.1 HS0.out).1).trans HS0.out
        have hBW := HB.out.trans (hbw.mono HB.out.size)
        have hzW : w.heap.size ≤ ((wr.alloc (.cells #[.int .i64 qq.1, .int .i64 qq.2] 35)).alloc (.cells #[fvS 16 S wr.heap.size] 1)).heap.size := Nat.le_trans HB.out.size hbw.size
        refine ⟨⟨j + 1, HLT.out, by go_num, ⟨_, by rw [HTK.out]; exact FnRow.more (q := qq) hFW h2.1 HOWN.out HGR.out⟩, ?_, hBW.grown HGR.out hzW (fun k hk => (hFW.2.1.lt k hk).1)⟩, by have := HLT.out; simp [intOf]; omega⟩
        rw [HGR.out.block S (Array.getElem?_eq_some_iff.1 hSW).1 (own_ne hFW.2.1 hSW (by decide))]
        exact hSW
      · obtain rfl : j = n := by omega
        have hLn : L.length = j := HP.out.1
        have hF2 := HF.out
        rw [List.take_of_length_le (by omega)] at hF2
        obtain ⟨A2, c2, hv⟩ := hF2.form
        subst hv
        have HI : Hid (RowsI w 16 S (.slice A2 L.length c2) L Gs 0 wr) := Lib.hid ⟨hF2, HS0.out, fun i hi => by omega, HB.out, by omega⟩
        have HLN := Lib.hid hLn
        clear hF2 HF HS0 hLn
        go_wp2_with (fail)
        refine (rowsRow w wr S _ A2 c2 L Gs rfl (by have := HLN.out; have := HN.out; omega) HBS.out HI.out).mono ?_
        rintro e w3 hcase
        obtain ⟨r, op, gone, sum, rfl, hout, hS3, hB3⟩ := out_row hcase
        have HO := Lib.hid hout
        have HS3 := Lib.hid hS3
        have HB3 := Lib.hid hB3
        have HSL := Lib.hid (Array.getElem?_eq_some_iff.1 hS3).1
        clear hcase hout hS3 hB3 HI
        go_wp2_with (fail)
        have hb4 := (Below.refl w3.heap.size w3).alloc (Nat.le_refl _) (.cells #[.int .i64 op] 24)
        have HH4 : Hid (Held (w3.alloc (.cells #[.int .i64 op] 24)) [(w3.heap.size, .cells #[.int .i64 op] 24), (S, .cells #[.int .i64 sum] 3)]) := Lib.hid ⟨heap_alloc_new w3 _, (hb4.block _ HSL.out).trans HS3.out, trivial⟩
        have HB4 : Hid (Below w.heap.size w (w3.alloc (.cells #[.int .i64 op] 24))) := Lib.hid (HB3.out.alloc HB3.out.size _)
        obtain ⟨G8, hG8⟩ : ∃ q, q = w3.heap.size := ⟨_, rfl⟩
        rw [← hG8] at HH4 ⊢
        clear hb4 hG8 HS3 HB3 HSL
        generalize w3.alloc (.cells #[.int .i64 op] 24) = w4 at *
        refine (refRow A j c L HN.out w4 (HP.out.below HB4.out)).mono ?_
        rintro e w5 hcase
        obtain ⟨r', op', gone', sum', rfl, hout', hb5⟩ := out_ref hcase
        rw [HLN.out] at HO
        obtain ⟨rfl, rfl, rfl, rfl⟩ := HO.out.uniq hout'
        have HH5 := Lib.hid (HH4.out.below hb5)
        have HB5 := Lib.hid (HB4.out.trans (hb5.mono HB4.out.size))
        clear hcase hout' hb5 HH4 HB4 HO
        have cG := cell_of_row w5 G8 0 _ _ _ HH5.out.1
        have cS := cell_of_row w5 S 0 _ _ _ HH5.out.2.1
        simp only [List.getElem?_toArray, List.getElem?_cons_zero] at cG cS
        go_wp2_with (fail)
        go_ret
        exact ⟨rfl, HB5.out⟩
end Go.Proofs.Ytkniednjchnncaa
