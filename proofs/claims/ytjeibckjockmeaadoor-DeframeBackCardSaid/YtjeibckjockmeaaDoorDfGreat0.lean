/- Layer 5: are pieces more than are looked at; appends of bytes that tell where the row lies. -/
import Derived.Test.YtjeibckjockmeaaDoorDfAlive
namespace Go.Proofs.YtjeibckjockmeaaDoor
open Go.RowKit

abbrev lensOf (L : List (List UInt8)) : Nat := (L.map List.length).sum
theorem lensOf_snoc (L : List (List UInt8)) (x : List UInt8) : lensOf (L ++ [x]) = lensOf L + x.length := by simp [lensOf]
theorem lensOf_le (L : List (List UInt8)) (M : Nat) (h : ∀ x ∈ L, x.length ≤ M) : lensOf L ≤ L.length * M := by
  induction L with
  | nil => simp [lensOf]
  | cons x r ih =>
    have h1 := ih (fun y hy => h y (List.mem_cons_of_mem _ hy))
    have h2 := h x (by simp)
    simp only [lensOf, List.map_cons, List.sum_cons, List.length_cons] at h1 ⊢
    rw [Nat.add_mul]
    omega
theorem take_getD (L : List (List UInt8)) (k : Nat) (h : k < L.length) : L.take (k + 1) = L.take k ++ [L.getD k []] := by
  rw [List.take_succ_eq_append_getElem h, List.getD_eq_getElem?_getD, List.getElem?_eq_getElem h]
  rfl

def GreatPost (n : Nat) (L : List (List UInt8)) (e : Ending) : Prop := ∃ r : Bool, e = .returned (.bool r) ∧ (r = false → n ≤ 100 ∧ lensOf L ≤ 3000)
theorem lens_take (L : List (List UInt8)) (k : Nat) : lensOf (L.take k) ≤ lensOf L := by
  have h : lensOf (L.take k ++ L.drop k) = lensOf (L.take k) + lensOf (L.drop k) := by simp only [lensOf, List.map_append, List.sum_append]
  rw [List.take_append_drop] at h
  omega

set_option maxHeartbeats 1000000 in
set_option maxRecDepth 100000 in
theorem great05 (A : Option Addr) (n c : Nat) (L : List (List UInt8)) (w : World) (hS : Rd w A n c L) (hM : ∀ x ∈ L, x.length ≤ 140737488351232) :
    Calls Tryd.prog 7 #[.slice A n c] w fun e w' => GreatPost n L e ∧ w = w' := by
  have hmax := hS.nmax
  have HS := Lib.hid hS
  have HM := Lib.hid hM
  have HLN := Lib.hid hS.1
  clear hS hM
  go_enter Tryd.func7, Tryd.ntmps7
  go_wp2_with (fail)
  go_loopw [3, 8, 5] (fun s i _ wr => ∃ (k : Nat) (v : Int), k ≤ n ∧ i = .int .i64 k ∧ s = .int .i64 v ∧ (k ≤ 100 → v = (lensOf (L.take k) : Int)) ∧ w = wr) (fun _ i _ _ => n - (intOf i).toNat)
  case atStart => exact ⟨0, 0, Nat.zero_le _, rfl, rfl, fun _ => by simp [lensOf], rfl⟩
  case round =>
    obtain ⟨k, v, hk, rfl, rfl, hv, rfl⟩ := hrel
    have HV := Lib.hid hv
    clear hv
    by_cases hlt : k < n
    · obtain ⟨b, o, Ai, ci, rfl, _, hc, hB⟩ := HS.out.read hlt
      have e1 : (k : Int) < (n : Int) := by omega
      have hxl : (L.getD k []).length ≤ 140737488351232 := HM.out _ (by
        rw [List.getD_eq_getElem?_getD, List.getElem?_eq_getElem (by rw [HLN.out]; exact hlt)]
        exact List.getElem_mem _)
      have htk := take_getD L k (by rw [HLN.out]; exact hlt)
      have HTK := Lib.hid htk
      have HLT := Lib.hid hlt
      have HKL : Hid (k < 100 → lensOf (L.take k) ≤ 100 * 140737488351232) := Lib.hid (fun h => by
        have := lensOf_le (L.take k) 140737488351232 (fun x hx => HM.out x (List.mem_of_mem_take hx))
        have h2 : (L.take k).length ≤ 100 := by rw [List.length_take]; omega
        exact Nat.le_trans this (Nat.mul_le_mul_right _ h2))
      generalize L.getD k [] = y at *
      obtain ⟨v', hv'⟩ : ∃ v', IntKind.i64.wrap (v + (y.length : Int)) = v' := ⟨_, rfl⟩
      have HV' : Hid (k + 1 ≤ 100 → v' = (lensOf (L.take (k + 1)) : Int)) := Lib.hid (fun h => by
        have h1 := HV.out (by omega)
        have h2 := HKL.out (by omega)
        rw [HTK.out, lensOf_snoc, ← hv', h1, IntKind.wrap_i64]
        omega)
      clear hlt htk hxl HV HKL
      go_wp2_with (fail)
      exact ⟨⟨k + 1, v', HLT.out, by go_num, rfl, HV'.out, trivial⟩, by have := HLT.out; simp [intOf]; omega⟩
    · obtain rfl : k = n := by omega
      by_cases hbig : (100 : Int) < (k : Int)
      · go_wp2_with (fail)
        go_ret
        exact ⟨⟨true, by simp, fun h => by cases h⟩, rfl⟩
      · have HBG := Lib.hid hbig
        go_wp2_with (fail)
        go_ret
        refine ⟨⟨_, rfl, fun h => ?_⟩, rfl⟩
        have hv := HV.out (by have := HBG.out; omega)
        rw [List.take_of_length_le (by rw [HLN.out]; exact Nat.le_refl _)] at hv
        have hbg := HBG.out
        simp only [decide_eq_false_iff_not] at h
        omega

theorem Rd.drop {w : World} {A : Option Addr} {n c : Nat} {L : List (List UInt8)} (h : Rd w A n c L) {q : Nat} (hq : q ≤ n) : Rd w (if c = q then A else Option.map (fun x => x.add q) A) (n - q) (c - q) (L.drop q) := by
  obtain ⟨h1, h2, h3, h4⟩ := h
  refine ⟨by rw [List.length_drop, h1], by omega, by omega, fun hn => ?_⟩
  obtain ⟨b, o, rfl, hlt, hc⟩ := h4 (by omega)
  rw [if_neg (by omega)]
  refine ⟨b, o + q, by rw [Option.map_some, Addr.add_lit], hlt, fun i x hx => ?_⟩
  rw [List.getElem?_drop] at hx
  obtain ⟨Ai, ci, h5, h6⟩ := hc (q + i) x hx
  exact ⟨Ai, ci, by rw [Nat.add_assoc]; exact h5, h6⟩
/-- 'append(s, x...)' of bytes, which tells where the new row lies -/
theorem wpList_appL {ops : Array Oper} {rest : List Oper} {o : Oper} {a : Act} {Q : Exit → Act → World → Prop} {w : World} (hgd : o.guard = none) (s x : Operand)
    (ho : o.op = .call { callee := .builtin .append, args := #[s, x], argTypes := #[23, 23] }) (base : Nat) (v : Value) (xs : List UInt8) (hs : a.eval s = v) (hown : Own 5 w base v xs) (A : Option Addr) (m c : Nat) (l : List UInt8) (hx : a.eval x = .slice A m c) (hl : Bs w A m c l)
    (hn : xs.length + m ≤ 1099511627776) (hbase : base ≤ w.heap.size)
    (h : ∀ v' w', Own 5 w' base v' (xs ++ l) → w.grownBy w' v.ownBlock → (v'.ownBlock = v.ownBlock ∨ v'.ownBlock = some w.heap.size) → wpList Tryd.prog ops Q rest (a.put o.dst v') w') : wpList Tryd.prog ops Q (o :: rest) a w := by
  have hlen := hl.len
  rcases A with _ | ad
  · have hm : m = 0 := by
      rcases Nat.eq_zero_or_pos m with h | h
      · exact h
      · obtain ⟨b, o, e, _⟩ := hl.2.2.2 h
        cases e
    subst hm
    obtain rfl := hl.empty
    refine wpList_plain hgd fun K hK => ?_
    obtain ⟨i, hi, hzz⟩ := Option.map_eq_some_iff.1 (byteInfo : (Tryd.prog.info? 5).map (fun i => (i.zero, i.size, i.bytes)) = some (some (.int .u8 0), 1, 1))
    simp only [Prod.mk.injEq] at hzz
    have hrun : (Builtin.append_ #[23, 23] o.type #[v, .slice none 0 c]).run Tryd.prog w = .ok v w := by
      rcases hown.2 with ⟨rfl, _⟩ | ⟨g, cap, cur, rfl, _, _, hnc, _⟩
      · simp [Builtin.append_, run_underlying Tryd.underlying23, sizeOf, typeInfo, hi, Builtin.lenOf, Builtin.firstCells]
      · simp [Builtin.append_, run_underlying Tryd.underlying23, sizeOf, typeInfo, hi, Builtin.lenOf, Builtin.firstCells, hnc, storeCells]
    unfold Oper.wp execOp
    simp only [ho, resolve, invoke, builtin, Sem.run_bind, Sem.run_pure, Result.andThen_ok, List.map_toArray, List.map_cons, List.map_nil, hs, hx, hrun]
    exact hK _ _ (h v w (by simpa using hown) (World.grownBy.refl w _) (.inl rfl))
  · refine wpList_appAt hgd s x 23 ho base 5 (.int .u8 0) 1 Tryd.underlying23 byteInfo rfl (by decide) v xs.length (u8s xs) hs hown ad m c (u8s l) hx (by simp [hlen]) (fun j u hu => ?_) (fun u hu => ?_) hn hbase (fun v' w' q1 q2 q3 => h v' w' ?_ q2 q3)
    · obtain ⟨y, hy, rfl⟩ := u8s_get hu
      have hm : 0 < m := by have := (List.getElem?_eq_some_iff.1 hy).1; omega
      obtain ⟨b, o', e, hc⟩ := hl.2.2.2 hm
      injection e with e
      subst e
      rw [Addr.add_lit]
      exact hc j y hy
    · obtain ⟨j, hj⟩ := List.getElem?_of_mem hu
      obtain ⟨y, hy, rfl⟩ := u8s_get hj
      rfl
    · unfold Own
      rw [List.length_append, hlen]
      simpa using q1
end Go.Proofs.YtjeibckjockmeaaDoor
