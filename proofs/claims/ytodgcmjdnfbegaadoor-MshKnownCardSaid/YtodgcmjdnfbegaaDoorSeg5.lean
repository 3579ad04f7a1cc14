/- Layer 8: a field, its repetitions and components, walked. -/
import Derived.Test.YtodgcmjdnfbegaaDoorSeg4
namespace Go.Proofs.YtodgcmjdnfbegaaDoor
open Go.RowKit

/-- what the n-th is told as -/
abbrev toldV (o : Option (List UInt8)) : Value := .tuple #[str (o.getD []), .bool o.isSome]

theorem nthD_pos {T : List (List UInt8)} {n : Int} (h : n < 1) : nthD T n = none := by
  unfold nthD
  rw [if_neg (by omega)]
theorem nthD_tail (T : List (List UInt8)) (n : Int) (h : 1 ≤ n) : nthD T.tail n = nthD T (n + 1) := by
  unfold nthD
  rw [if_pos h, if_pos (by omega), List.getElem?_tail]
  rw [show (n + 1 - 1).toNat = (n - 1).toNat + 1 by omega]
theorem nthD_cons (x : List UInt8) (T : List (List UInt8)) (n : Int) (h : 2 ≤ n) : nthD (x :: T) n = nthD T (n - 1) := by
  unfold nthD
  rw [if_pos (by omega), if_pos (by omega), show (n - 1).toNat = (n - 1 - 1).toNat + 1 by omega, List.getElem?_cons_succ]
theorem nthD_le {T : List (List UInt8)} {n : Int} {k : Nat} {x : List UInt8} (hT : ∀ y ∈ T, y.length ≤ k) (h : nthD T n = some x) : x.length ≤ k := by
  unfold nthD at h
  split at h
  · exact hT x (List.mem_of_getElem? h)
  · cases h

set_option maxHeartbeats 4000000 in
theorem field_ (s : ByteArray) (n : Int) (d : Sgn) (w : World) (hs : s.size ≤ 9223372036854775806) (hn : n ≤ 9223372036854775807) (hn2 : -9223372036854775808 ≤ n) : Calls Tryd.prog 22 #[.string s, .int .i64 n, d.v] w fun e w' => e = .returned (toldV (nthD (fieldsD s d.a) n)) ∧ Below w.heap.size w w' := by
  have HS := Lib.hid hs
  have hb0 := boxSgn_below d w
  have HB0 := Lib.hid hb0
  clear hs hb0
  by_cases h1 : n < 1
  · have d0 : decide (n < 1) = true := by simpa using h1
    rw [nthD_pos h1]
    clear hn hn2
    go_enter Tryd.func22, Tryd.ntmps22
    go_wp2_with (fail)
    go_ret2
    exact ⟨rfl, HB0.out⟩
  have d0 : decide (n < 1) = false := by simpa using h1
  by_cases hm : nameS s = mshB
  · have d1 := name_t hm
    cases hb : behD s d.a with
    | none =>
      have hf : fieldsD s d.a = [] := by unfold fieldsD; rw [if_pos hm, hb]
      rw [hf, nthD_none (by simp; omega)]
      have HB := Lib.hid hb
      clear hb hm hf hn hn2
      go_enter Tryd.func22, Tryd.ntmps22
      go_wp2_with (fail)
      refine (nameS_ s _).mono ?_
      rintro e w1 ⟨rfl, rfl⟩
      go_wp2_with (fail)
      refine (behind_ s d.a _).mono ?_
      rintro e w1 ⟨rfl, rfl⟩
      rw [HB.out]
      go_wp2_with (fail)
      go_ret2
      exact ⟨rfl, HB0.out⟩
    | some r =>
      have hf : fieldsD s d.a = [d.a] :: cutAt d.a r.data.toList := by unfold fieldsD; rw [if_pos hm, hb]
      rw [hf]
      have hrs := behD_size hb
      have HR : Hid (r.size ≤ 9223372036854775806) := Lib.hid (by have := HS.out; omega)
      have HB := Lib.hid hb
      by_cases he : n = 1
      · subst he
        have HX : Hid (nthD ([d.a] :: cutAt d.a r.data.toList) 1 = some [d.a]) := Lib.hid rfl
        rw [HX.out]
        have hcv := (Bs.of_block (w := (boxSgn d w).alloc (.cells #[u8 d.a] 5)) (g := w.heap.size + 1) (n := 1) (c := 1) (l := [d.a]) (by have := heap_alloc_new (boxSgn d w) (.cells #[u8 d.a] 5); rw [boxSgn_size] at this; exact this) (by rfl) rfl (by decide) (by decide)).str (P := Tryd.prog) 22 5 9 Tryd.underlying22 Tryd.underlying5 Tryd.underlying9
        have HBF : Hid (Below w.heap.size w ((boxSgn d w).alloc (.cells #[u8 d.a] 5))) := Lib.hid (HB0.out.alloc HB0.out.size _)
        clear hb hm hf hrs hn hn2 h1
        go_enter Tryd.func22, Tryd.ntmps22
        go_wp2_with (fail)
        refine (nameS_ s _).mono ?_
        rintro e w1 ⟨rfl, rfl⟩
        go_wp2_with (fail)
        refine (behind_ s d.a _).mono ?_
        rintro e w1 ⟨rfl, rfl⟩
        rw [HB.out]
        go_wp2_with (fail)
        go_ret2
        exact ⟨rfl, HBF.out⟩
      · have d2 : (n == 1) = false := by simpa using he
        rw [nthD_cons _ _ n (by omega)]
        obtain ⟨m, hm1⟩ : ∃ m : Int, n - 1 = m := ⟨_, rfl⟩
        have hw : IntKind.i64.wrap (n - 1) = m := by rw [IntKind.wrap_i64]; omega
        rw [hm1]
        have hr1 : -9223372036854775808 ≤ m ∧ m ≤ 9223372036854775807 := by omega
        clear hb hm hf hrs hn hn2 h1 he
        go_enter Tryd.func22, Tryd.ntmps22
        go_wp2_with (fail)
        refine (nameS_ s _).mono ?_
        rintro e w1 ⟨rfl, rfl⟩
        go_wp2_with (fail)
        refine (behind_ s d.a _).mono ?_
        rintro e w1 ⟨rfl, rfl⟩
        rw [HB.out]
        go_wp2_with (fail)
        refine (nth_ r d.a m _ HR.out).mono ?_
        rintro e w2 ⟨rfl, hb2⟩
        have HB2 := Lib.hid (HB0.out.trans (hb2.mono HB0.out.size))
        clear hb2
        go_wp2_with (fail)
        go_ret2
        exact ⟨rfl, HB2.out⟩
  · have d1 := name_f hm
    have hf : fieldsD s d.a = (cutAt d.a s.data.toList).tail := by unfold fieldsD; rw [if_neg hm]
    rw [hf, nthD_tail _ n (by omega)]
    have hcl := cut_le d.a s
    obtain ⟨m, hm1⟩ : ∃ m : Int, wrap64 (n + 1) = m := ⟨_, rfl⟩
    have hnn : nthD (cutAt d.a s.data.toList) (n + 1) = nthD (cutAt d.a s.data.toList) m := by
      by_cases hx : n + 1 ≤ 9223372036854775807
      · rw [← hm1, IntWalk.wrap64_in _ (by omega)]
      · have hs2 := HS.out
        have : n = 9223372036854775807 := by omega
        subst this
        rw [nthD_none (by omega), ← hm1, nthD_pos (by unfold wrap64; omega)]
    rw [hnn]
    have hw : IntKind.i64.wrap (n + 1) = m := by rw [← hm1, IntKind.wrap_i64, wrap64]
    clear hm hf hcl hm1 hnn hn hn2
    go_enter Tryd.func22, Tryd.ntmps22
    go_wp2_with (fail)
    refine (nameS_ s _).mono ?_
    rintro e w1 ⟨rfl, rfl⟩
    go_wp2_with (fail)
    refine (nth_ s d.a m _ HS.out).mono ?_
    rintro e w2 ⟨rfl, hb2⟩
    have HB2 := Lib.hid (HB0.out.trans (hb2.mono HB0.out.size))
    clear hb2
    go_wp2_with (fail)
    go_ret2
    exact ⟨rfl, HB2.out⟩

/-- the components of a repetition -/
def partsD (f : ByteArray) (d : Sgn) (i : Int) : List (List UInt8) := match nthD (cutAt d.c f.data.toList) i with
  | none => []
  | some x => cutAt d.b x

theorem told_size {f : ByteArray} {c : UInt8} {i : Int} {x : List UInt8} (hx : nthD (cutAt c f.data.toList) i = some x) : x.length ≤ f.size :=
  nthD_le (k := f.size) (fun y hy => by have := cutAt_mem_le c _ y hy; have h2 : f.data.toList.length = f.size := by simp
                                        omega) hx
theorem txt_size' (x : List UInt8) : (txt x).size = x.length := by simp [ByteArray.size]

set_option maxHeartbeats 4000000 in
theorem part_ (f : ByteArray) (i k : Int) (d : Sgn) (w : World) (hs : f.size ≤ 9223372036854775806) : Calls Tryd.prog 63 #[.string f, .int .i64 i, .int .i64 k, d.v] w fun e w' => e = .returned (toldV (nthD (partsD f d i) k)) ∧ Below w.heap.size w w' := by
  have HB0 := Lib.hid (boxSgn_below d w)
  have HS := Lib.hid hs
  clear hs
  unfold partsD
  cases hx : nthD (cutAt d.c f.data.toList) i with
  | none =>
    have HX := Lib.hid hx
    clear hx
    rw [show nthD (match none with | none => [] | some x => cutAt d.b x) k = none from nthD_none (by simp; omega)]
    go_enter Tryd.func63, Tryd.ntmps63
    go_wp2_with (fail)
    refine (nth_ f d.c i _ HS.out).mono ?_
    rintro e w2 ⟨rfl, hb2⟩
    rw [HX.out]
    have HB2 := Lib.hid (HB0.out.trans (hb2.mono HB0.out.size))
    clear hb2
    go_wp2_with (fail)
    go_ret2
    exact ⟨rfl, HB2.out⟩
  | some x =>
    have HX := Lib.hid hx
    have HXS := Lib.hid (told_size hx)
    clear hx
    go_enter Tryd.func63, Tryd.ntmps63
    go_wp2_with (fail)
    refine (nth_ f d.c i _ HS.out).mono ?_
    rintro e w2 ⟨rfl, hb2⟩
    rw [HX.out]
    obtain ⟨_, hc1, _⟩ := boxSgn_cells d w w2 (hb2.mono (by simp))
    have HB2 := Lib.hid (HB0.out.trans (hb2.mono HB0.out.size))
    clear hb2
    go_wp2_with (fail)
    refine (nth_ (txt x) d.b k _ (by rw [txt_size']; have := HXS.out; have := HS.out; omega)).mono ?_
    rintro e w3 ⟨rfl, hb3⟩
    have HB3 := Lib.hid (HB2.out.trans (hb3.mono HB2.out.size))
    clear hb3 hc1
    go_wp2_with (fail)
    go_ret2
    exact ⟨rfl, HB3.out⟩
end Go.Proofs.YtodgcmjdnfbegaaDoor
