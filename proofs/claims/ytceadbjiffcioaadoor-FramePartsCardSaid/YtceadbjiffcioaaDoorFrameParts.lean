/- The law FrameParts, walked. -/
import Derived.Test.YtceadbjiffcioaaDoorFrameMath
namespace Go.Proofs.YtceadbjiffcioaaDoor
open Go.RowKit

theorem wpList_want {P : Program} {ops : Array Oper} {rest : List Oper} {o : Oper} {a : Act} {w : World} {Q : Exit → Act → World → Prop} (hw : Region.wanted o (yielded ops a.tmps) = true)
    (h : ∀ K : Act → World → Prop, (∀ a w, wpList P ops Q rest a w → K a w) → o.wp P a w K Q) : wpList P ops Q (o :: rest) a w :=
  wpList_step fun K hK => by rw [if_pos hw]; exact h K hK

/-- append, the operation guarded and wanted -/
theorem wpList_appG {P : Program} {w : World} {ops : Array Oper} {rest : List Oper} {o : Oper} {a : Act} {Q : Exit → Act → World → Prop} (hw : Region.wanted o (yielded ops a.tmps) = true) (s x : Operand) (t : TypeId)
    (ho : o.op = .call { callee := .builtin .append, args := #[s, x], argTypes := #[t, t] }) (base : Nat) (e : TypeId) (ht : P.underlying t = some (.slice e)) (hi : (P.info? e).map (fun i => (i.zero, i.size, i.bytes)) = some (some (.int .u8 0), 1, 1))
    (v : Value) (xs : List UInt8) (hs : a.eval s = v) (hown : Own e w base v xs) (A : Option Addr) (m c : Nat) (l : List UInt8) (hx : a.eval x = .slice A m c) (hl : Bs w A m c l) (hbytes : xs.length + m ≤ 140737488355328) (hbase : base ≤ w.heap.size)
    (h : ∀ v' w', Own e w' base v' (xs ++ l) → Below base w w' → w.grownBy w' v.ownBlock → wpList P ops Q rest (a.put o.dst v') w') : wpList P ops Q (o :: rest) a w :=
  wpList_want hw fun K hK => by
    obtain ⟨v', w', hrun, h2, h3, h4⟩ := run_app (P := P) base t o.type e ht hi v xs hown A m c l hl hbytes hbase
    unfold Oper.wp execOp
    simp only [ho, resolve, invoke, builtin, Sem.run_bind, Sem.run_pure, Result.andThen_ok, List.map_toArray, List.map_cons, List.map_nil, hs, hx, hrun]
    exact hK _ _ (h v' w' h2 h3 h4)

theorem good_drop {l : List UInt8} (h : good l = true) (k : Nat) : good (l.drop k) = true := by
  refine good_of (fun hm => good_no_start h (List.mem_of_mem_drop hm)) (fun i hi => ?_)
  rw [List.length_drop] at hi
  have hb := good_at h (i := k + i) (by omega)
  unfold badAt at hb ⊢
  rw [List.getElem?_drop, List.getElem?_drop, List.length_drop]
  have e : decide (i + 1 = l.length - k) = decide (k + i + 1 = l.length) := by
    by_cases h1 : i + 1 = l.length - k
    · rw [decide_eq_true h1, decide_eq_true (by omega)]
    · rw [decide_eq_false h1, decide_eq_false (by omega)]
  rw [e]
  exact hb
theorem good_take_yes {l : List UInt8} (h : good l = true) {k : Nat} (hk : k ≤ l.length) (he : k = 0 ∨ l[k - 1]? ≠ some 28) : good (l.take k) = true := by
  refine good_of (fun hm => good_no_start h (List.mem_of_mem_take hm)) (fun i hi => ?_)
  rw [List.length_take] at hi
  have hb := good_at h (i := i) (by omega)
  unfold badAt at hb ⊢
  rw [List.getElem?_take, if_pos (by omega), List.getElem?_take, List.length_take]
  by_cases h1 : i + 1 < k
  · rw [if_pos h1]
    have h2 : ¬ i + 1 = min k l.length := by omega
    have h3 : ¬ i + 1 = l.length := by omega
    simp only [h2, h3] at hb ⊢
    exact hb
  · have h4 : i = k - 1 := by omega
    have h5 := he.resolve_left (by omega)
    rw [← h4] at h5
    simp [h5]
theorem good_take_no {l : List UInt8} {k : Nat} (hk : k ≤ l.length) (h0 : 0 < k) (he : l[k - 1]? = some 28) : good (l.take k) = false := by
  refine not_good_at (i := k - 1) (by rw [List.length_take]; omega) ?_
  unfold badAt
  rw [List.getElem?_take, if_pos (by omega), he, List.length_take]
  have : k - 1 + 1 = min k l.length := by omega
  simp [this]
theorem good_append {a b : List UInt8} (ha : good a = true) (hb : good b = true) : good (a ++ b) = true := by
  refine good_of (fun hm => ?_) (fun i hi => ?_)
  · rcases List.mem_append.1 hm with h | h
    · exact good_no_start ha h
    · exact good_no_start hb h
  · rw [List.length_append] at hi
    rcases Nat.lt_or_ge i a.length with h | h
    · have h1 := good_at ha h
      unfold badAt at h1 ⊢
      rw [List.getElem?_append_left h]
      cases h28 : a[i]? == some 28 with
      | false => rfl
      | true =>
        rw [h28] at h1
        simp only [Bool.true_and, Bool.or_eq_false_iff, decide_eq_false_iff_not] at h1 ⊢
        rw [List.getElem?_append_left (by omega), List.length_append]
        exact ⟨by omega, h1.2⟩
    · have h1 := good_at hb (i := i - a.length) (by omega)
      unfold badAt at h1 ⊢
      rw [List.getElem?_append_right h, List.getElem?_append_right (by omega), List.length_append, show i + 1 - a.length = i - a.length + 1 by omega]
      have e : decide (i + 1 = a.length + b.length) = decide (i - a.length + 1 = b.length) := by
        by_cases h2 : i + 1 = a.length + b.length
        · rw [decide_eq_true h2, decide_eq_true (by omega)]
        · rw [decide_eq_false h2, decide_eq_false (by omega)]
      rw [e]
      exact h1
theorem good_append_no {a b : List UInt8} (hb : good b = false) : good (a ++ b) = false := by
  cases h : good (a ++ b) with
  | false => rfl
  | true =>
    have := good_drop h a.length
    rw [List.drop_left] at this
    rw [this] at hb
    cases hb

theorem Bs.upto {w : World} {A : Option Addr} {n c : Nat} {l : List UInt8} (h : Bs w A n c l) {k : Nat} (hk : k ≤ n) : Bs w A k c (l.take k) := by
  refine ⟨by rw [List.length_take, h.1]; omega, Nat.le_trans hk h.le, h.2.2.1, fun h0 => ?_⟩
  obtain ⟨b, o, e, hc⟩ := h.2.2.2 (by omega)
  refine ⟨b, o, e, fun i x hx => hc i x ?_⟩
  rw [List.getElem?_take] at hx
  split at hx
  · exact hx
  · cases hx
theorem Bs.from_ {w : World} {b o n c : Nat} {l : List UInt8} (h : Bs w (some ⟨b, o, none⟩) n c l) {k : Nat} (hk : k < n) : Bs w (some ⟨b, o + k, none⟩) (n - k) (c - k) (l.drop k) := by
  have := h.cut (i := k) (j := n) (by omega) (Nat.le_refl _)
  have hle := h.le
  rw [if_neg (by omega), Option.map_some, Addr.add_lit, List.take_of_length_le (by rw [h.1]; omega)] at this
  exact this

set_option maxRecDepth 100000 in
set_option maxHeartbeats 1000000 in
theorem frameParts_great (A : Option Addr) (n c : Nat) (l : List UInt8) (A' : Option Addr) (n' c' : Nat) (l' : List UInt8) (w : World) (hS : Signs w) (hB : Bs w A n c l) (hB' : Bs w A' n' c' l') (hn : 400 < n ∨ 400 < n') :
    Calls Tryd.prog 6 #[.slice A n c, .slice A' n' c'] w (Alive w) := by
  have hmax := hB.nmax
  have hmax' := hB'.nmax
  have HS := Lib.hid hS
  clear hS hB hB'
  by_cases h : 400 < n
  · clear hn
    go_enter Tryd.func6, Tryd.ntmps6
    go_wp2_with (fail)
    refine (alive_any w HS.out).mono ?_
    rintro e w1 ⟨rfl, hb1⟩
    go_wp2
    go_ret
    exact ⟨rfl, hb1⟩
  · have h' : 400 < n' := by omega
    clear hn
    go_enter Tryd.func6, Tryd.ntmps6
    go_wp2_with (fail)
    refine (alive_any w HS.out).mono ?_
    rintro e w1 ⟨rfl, hb1⟩
    go_wp2
    go_ret
    exact ⟨rfl, hb1⟩

set_option maxRecDepth 100000 in
set_option maxHeartbeats 1000000 in
theorem frameParts_no1 (A : Option Addr) (n c : Nat) (l : List UInt8) (A' : Option Addr) (n' c' : Nat) (w : World) (hS : Signs w) (hB : Bs w A n c l) (hn : n ≤ 400) (hn' : n' ≤ 400) (hg : good l = false) :
    Calls Tryd.prog 6 #[.slice A n c, .slice A' n' c'] w (Alive w) := by
  have HS := Lib.hid hS
  have HB := Lib.hid hB
  have HG := Lib.hid hg
  clear hS hB hg
  go_enter Tryd.func6, Tryd.ntmps6
  go_wp2_with (fail)
  refine (frameGood_b A n c l w HS.out HB.out false HG.out).mono ?_
  rintro e w1 ⟨rfl, hb1⟩
  go_wp2_with (fail)
  refine (alive_any w1 (HS.out.below hb1)).mono ?_
  rintro e w2 ⟨rfl, hb2⟩
  have b2 := Lib.hid (hb1.trans (hb2.mono hb1.size))
  go_wp2_with (fail)
  refine (frameGood_b A n c l w2 (HS.out.below b2.out) (HB.out.below b2.out) false HG.out).mono ?_
  rintro e w3 ⟨rfl, hb3⟩
  go_wp2_with (fail)
  go_ret
  exact ⟨rfl, b2.out.trans (hb3.mono b2.out.size)⟩

set_option maxRecDepth 100000 in
set_option maxHeartbeats 1000000 in
theorem frameParts_no2 (A : Option Addr) (n c : Nat) (l : List UInt8) (A' : Option Addr) (n' c' : Nat) (l' : List UInt8) (w : World) (hS : Signs w) (hB : Bs w A n c l) (hB' : Bs w A' n' c' l') (hn : n ≤ 400) (hn' : n' ≤ 400) (hg : good l = true) (hg' : good l' = false) :
    Calls Tryd.prog 6 #[.slice A n c, .slice A' n' c'] w (Alive w) := by
  have HL := Lib.hid hB.len
  have HL' := Lib.hid hB'.len
  have HS := Lib.hid hS
  have HB := Lib.hid hB
  have HB' := Lib.hid hB'
  have HG := Lib.hid hg
  have HG' := Lib.hid hg'
  have tok1 : True := trivial
  have tok2 : True := trivial
  clear hS hB hg hB' hg'
  go_enter Tryd.func6, Tryd.ntmps6
  go_wp2_with (fail)
  refine (frameGood_b A n c l w HS.out HB.out true HG.out).mono ?_
  rintro e w1 ⟨rfl, hb1⟩
  go_wp2_with (fail)
  refine (frameGood_b A' n' c' l' w1 (HS.out.below hb1) (HB'.out.below hb1) false HG'.out).mono ?_
  rintro e w2 ⟨rfl, hb2⟩
  have b2 := Lib.hid (hb1.trans (hb2.mono hb1.size))
  go_wp2_with (fail)
  refine (alive_any w2 (HS.out.below b2.out)).mono ?_
  rintro e w3 ⟨rfl, hb3⟩
  have b3 := Lib.hid (b2.out.trans (hb3.mono b2.out.size))
  go_wp2_with (fail)
  refine (frameGood_b A n c l w3 (HS.out.below b3.out) (HB.out.below b3.out) true HG.out).mono ?_
  rintro e w4 ⟨rfl, hb4⟩
  have b4 := Lib.hid (b3.out.trans (hb4.mono b3.out.size))
  have B4 := Lib.hid (HB.out.below b4.out)
  have B4' := Lib.hid (HB'.out.below b4.out)
  go_wp2_with (first
    | (at_builtin; have _t := tok1
       refine wpList_appG (by rfl) (.tmp 29) (.tmp 30) 22 rfl w4.heap.size 5 Tryd.underlying22 byteInfo _ [] rfl (Own.lit 5 w4 [] (Nat.le_refl _) (by simp [maxLen])) _ n c l rfl (B4.out.alloc _) (by simp; omega) (by simp) ?_
       intro v5 w5 hown5 hb5 hg5
       have b5 := Lib.hid ((((Below.refl _ w4).alloc (Nat.le_refl _) _)).trans hb5)
       clear hb5 hg5 tok1 _t)
    | (at_builtin; have _t := tok2
       refine wpList_appG (by rfl) (.tmp 31) (.tmp 32) 22 rfl w4.heap.size 5 Tryd.underlying22 byteInfo _ ([] ++ l) rfl hown5 _ n' c' l' rfl (B4'.out.below b5.out) (by have := HL.out; simp; omega) b5.out.size ?_
       intro v6 w6 hown6 hb6 hg6
       have b6 := Lib.hid (b5.out.trans hb6)
       clear hb6 hg6 tok2 _t hown5))
  obtain ⟨A6, c6, hv6, hB6, _⟩ := hown6.bs
  subst hv6
  clear hown6
  rw [List.nil_append] at hB6
  have b46 := Lib.hid (b4.out.trans (b6.out.mono b4.out.size))
  refine (frameGood_b A6 _ c6 _ w6 (HS.out.below b46.out) hB6 false (good_append_no HG'.out)).mono ?_
  rintro e w7 ⟨rfl, hb7⟩
  go_wp2_with (fail)
  go_ret
  exact ⟨rfl, b46.out.trans (hb7.mono b46.out.size)⟩
end Go.Proofs.YtceadbjiffcioaaDoor
