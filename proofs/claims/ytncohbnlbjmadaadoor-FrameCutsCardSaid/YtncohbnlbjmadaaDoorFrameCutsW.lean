/- FrameCuts, walked. -/
import Derived.Test.YtncohbnlbjmadaaDoorOrd
import Derived.Test.YtncohbnlbjmadaaDoorFrameBack
import Derived.Test.YtncohbnlbjmadaaDoorRowsG0
namespace Go.Proofs.YtncohbnlbjmadaaDoor
open Go.RowKit

/-- append of bytes, in a region that draws its order; where the new row lies -/
theorem step_appL {ops : Array Oper} {o : Oper} {a : Act} {w : World} {K : Act → World → Prop} {Q : Exit → Act → World → Prop} {E : Prop} (hgd : o.guard = none) (s x : Operand)
    (ho : o.op = .call { callee := .builtin .append, args := #[s, x], argTypes := #[22, 22] }) (base : Nat)
    (v : Value) (xs : List UInt8) (hs : a.eval s = v) (hown : Own 5 w base v xs) (A : Option Addr) (m c : Nat) (l : List UInt8) (hx : a.eval x = .slice A m c) (hl : Bs w A m c l) (hn : xs.length + m ≤ 1099511627776) (hbase : base ≤ w.heap.size)
    (h : ∀ v' w', Own 5 w' base v' (xs ++ l) → w.grownBy w' v.ownBlock → (v'.ownBlock = v.ownBlock ∨ v'.ownBlock = some w.heap.size) → K (a.put o.dst v') w') :
    if Region.wanted o (yielded ops a.tmps) = true then Oper.wp Tryd.prog o a w K Q else E := by
  have hw : Region.wanted o (yielded ops a.tmps) = true := by simp [Region.wanted, hgd]
  rw [if_pos hw]
  have hlen := hl.len
  rcases A with _ | ad
  · have hm : m = 0 := by
      rcases Nat.eq_zero_or_pos m with h | h
      · exact h
      · obtain ⟨b, o, e, _⟩ := hl.2.2.2 h
        cases e
    subst hm
    obtain rfl := hl.empty
    obtain ⟨i, hi, hzz⟩ := Option.map_eq_some_iff.1 (byteInfo : (Tryd.prog.info? 5).map (fun i => (i.zero, i.size, i.bytes)) = some (some (.int .u8 0), 1, 1))
    simp only [Prod.mk.injEq] at hzz
    have hrun : (Builtin.append_ #[22, 22] o.type #[v, .slice none 0 c]).run Tryd.prog w = .ok v w := by
      rcases hown.2 with ⟨rfl, _⟩ | ⟨g, cap, cur, rfl, _, _, hnc, _⟩
      · simp [Builtin.append_, run_underlying Tryd.underlying22, sizeOf, typeInfo, hi, Builtin.lenOf, Builtin.firstCells]
      · simp [Builtin.append_, run_underlying Tryd.underlying22, sizeOf, typeInfo, hi, Builtin.lenOf, Builtin.firstCells, hnc, storeCells]
    unfold Oper.wp execOp
    simp only [ho, resolve, invoke, builtin, Sem.run_bind, Sem.run_pure, Result.andThen_ok, List.map_toArray, List.map_cons, List.map_nil, hs, hx, hrun]
    exact h v w (by simpa using hown) (World.grownBy.refl w _) (.inl rfl)
  · obtain ⟨i, hi, hzz⟩ := Option.map_eq_some_iff.1 (byteInfo : (Tryd.prog.info? 5).map (fun i => (i.zero, i.size, i.bytes)) = some (some (.int .u8 0), 1, 1))
    simp only [Prod.mk.injEq] at hzz
    obtain ⟨v', w', hrun, h2, h3, _, h5⟩ := run_append_own_at (P := Tryd.prog) w base 22 o.type 5 i (.int .u8 0) 1 1 Tryd.underlying22 hi hzz.1 hzz.2.1 hzz.2.2 rfl (by decide) v xs.length (u8s xs) hown ad m c (u8s l) (by simp [hlen]) (fun j u hu => by
        obtain ⟨y, hy, rfl⟩ := u8s_get hu
        have hm : 0 < m := by have := (List.getElem?_eq_some_iff.1 hy).1; omega
        obtain ⟨b, o', e, hc⟩ := hl.2.2.2 hm
        injection e with e
        subst e
        rw [Addr.add_lit]
        exact hc j y hy) (fun u hu => by
        obtain ⟨j, hj⟩ := List.getElem?_of_mem hu
        obtain ⟨y, hy, rfl⟩ := u8s_get hj
        rfl) (by simp only [maxLen]; omega) (by omega) hbase
    unfold Oper.wp execOp
    simp only [ho, resolve, invoke, builtin, Sem.run_bind, Sem.run_pure, Result.andThen_ok, List.map_toArray, List.map_cons, List.map_nil, hs, hx, hrun]
    refine h v' w' ?_ h3 h5
    unfold Own
    rw [List.length_append, hlen]
    simpa using h2
theorem noF1 {l : List UInt8} (hg : good l = true) : isFrame ((11 :: (l ++ [28, 13])).drop 1) = false := by
  by_cases hf : isFrame ((11 :: (l ++ [28, 13])).drop 1) = true
  · obtain ⟨_, _, h⟩ := frame_parts hf
    generalize List.drop 1 (List.take _ _) = x at h
    have hm : (11 : UInt8) ∈ l ++ [28, 13] := by
      have h' : 11 :: (x ++ [28, 13]) = l ++ [28, 13] := h
      rw [← h']
      exact List.mem_cons_self ..
    rcases List.mem_append.1 hm with hm | hm
    · exact absurd hm (good_no_start hg)
    · exact absurd hm (by decide)
  · simpa using hf
theorem noF2 {l : List UInt8} : isFrame ((11 :: (l ++ [28, 13])).take (l.length + 2)) = false := by
  by_cases hf : isFrame ((11 :: (l ++ [28, 13])).take (l.length + 2)) = true
  · have e : (11 :: (l ++ [28, 13])).take (l.length + 2) = (11 :: l) ++ [28] := by
      have : (11 :: (l ++ [28, 13]) : List UInt8) = ((11 :: l) ++ [28]) ++ [13] := by simp
      rw [this, List.take_append_of_le_length (by simp), List.take_of_length_le (by simp)]
    rw [e] at hf
    obtain ⟨_, _, h⟩ := frame_parts hf
    generalize List.drop 1 (List.take _ _) = x at h
    have h' : ((11 :: x) ++ [28]) ++ [13] = (11 :: l) ++ [28] := by rw [← h]; simp
    have := (List.append_inj' h' rfl).2
    exact absurd this (by decide)
  · simpa using hf
theorem noF3 {l : List UInt8} (y : UInt8) : isFrame (y :: 11 :: (l ++ [28, 13])) = false := by
  by_cases hf : isFrame (y :: 11 :: (l ++ [28, 13])) = true
  · obtain ⟨_, hx, h⟩ := frame_parts hf
    generalize List.drop 1 (List.take _ _) = x at h hx
    have h' : x ++ [28, 13] = 11 :: (l ++ [28, 13]) := (List.cons.inj h).2
    have hm : (11 : UInt8) ∈ x ++ [28, 13] := by rw [h']; exact List.mem_cons_self ..
    rcases List.mem_append.1 hm with hm | hm
    · exact absurd hm (good_no_start hx)
    · exact absurd hm (by decide)
  · simpa using hf
theorem noF4 {l : List UInt8} (y : UInt8) : isFrame ((11 :: (l ++ [28, 13])) ++ [y]) = false := by
  by_cases hf : isFrame ((11 :: (l ++ [28, 13])) ++ [y]) = true
  · obtain ⟨_, _, h⟩ := frame_parts hf
    generalize List.drop 1 (List.take _ _) = x at h
    have h' : ((11 :: x) ++ [28]) ++ [13] = (((11 :: l) ++ [28]) ++ [13]) ++ [y] := by
      have : (11 :: (x ++ [28, 13]) : List UInt8) = ((11 :: x) ++ [28]) ++ [13] := by simp
      rw [← this, h]
      simp
    have := (List.append_inj' (List.append_inj' h' rfl).1 rfl).2
    exact absurd this (by decide)
  · simpa using hf
theorem noF5 {l : List UInt8} : isFrame ((11 :: (l ++ [28, 13])) ++ (11 :: (l ++ [28, 13]))) = false := by
  by_cases hf : isFrame ((11 :: (l ++ [28, 13])) ++ (11 :: (l ++ [28, 13]))) = true
  · obtain ⟨_, hx, h⟩ := frame_parts hf
    generalize List.drop 1 (List.take _ _) = x at h hx
    have h' : x ++ [28, 13] = (l ++ [28, 13]) ++ (11 :: (l ++ [28, 13])) := (List.cons.inj h).2
    have hm : (11 : UInt8) ∈ x ++ [28, 13] := by rw [h']; simp
    rcases List.mem_append.1 hm with hm | hm
    · exact absurd hm (good_no_start hx)
    · exact absurd hm (by decide)
  · simpa using hf
/-- rows of the call's own, none of which is another -/
structure Owns4 (w : World) (B : Nat) (p q r s : Value × List UInt8) : Prop where
  op : Own 5 w B p.1 p.2
  oq : Own 5 w B q.1 q.2
  or : Own 5 w B r.1 r.2
  os : Own 5 w B s.1 s.2
  pq : ∀ k, p.1.ownBlock = some k → q.1.ownBlock = some k → False
  pr : ∀ k, p.1.ownBlock = some k → r.1.ownBlock = some k → False
  ps : ∀ k, p.1.ownBlock = some k → s.1.ownBlock = some k → False
  qr : ∀ k, q.1.ownBlock = some k → r.1.ownBlock = some k → False
  qs : ∀ k, q.1.ownBlock = some k → s.1.ownBlock = some k → False
  rs : ∀ k, r.1.ownBlock = some k → s.1.ownBlock = some k → False
section
variable {w w' : World} {B : Nat} {p p' q r s : Value × List UInt8}
theorem Owns4.rot (h : Owns4 w B p q r s) : Owns4 w B q r s p := ⟨h.oq, h.or, h.os, h.op, h.qr, h.qs, fun k a b => h.pq k b a, h.rs, fun k a b => h.pr k b a, fun k a b => h.ps k b a⟩
theorem Owns4.set (h : Owns4 w B p q r s) (ho : Own 5 w' B p'.1 p'.2) (hg : w.grownBy w' p.1.ownBlock) (hf : p'.1.ownBlock = p.1.ownBlock ∨ ∀ k, p'.1.ownBlock = some k → w.heap.size ≤ k) : Owns4 w' B p' q r s := by
  have hc : Ch (fun k => p.1.ownBlock = some k) w w' := Ch.of_grown hg (fun k hk => hk)
  have hn : ∀ t : Value × List UInt8, Own 5 w B t.1 t.2 → (∀ k, p.1.ownBlock = some k → t.1.ownBlock = some k → False) → ∀ k, p'.1.ownBlock = some k → t.1.ownBlock = some k → False := fun t ht hd k h1 h2 => by
    rcases hf with e | e
    · exact hd k (by rw [← e]; exact h1) h2
    · have h3 := e k h1
      have := (ht.lt k h2).2
      omega
  exact ⟨ho, h.oq.ch hc (fun k a b => h.pq k b a), h.or.ch hc (fun k a b => h.pr k b a), h.os.ch hc (fun k a b => h.ps k b a), hn q h.oq h.pq, hn r h.or h.pr, hn s h.os h.ps, h.qr, h.qs, h.rs⟩
theorem Owns4.below (h : Owns4 w B p q r s) (hb : Below w.heap.size w w') : Owns4 w' B p q r s := ⟨h.op.below hb, h.oq.below hb, h.or.below hb, h.os.below hb, h.pq, h.pr, h.ps, h.qr, h.qs, h.rs⟩
end
theorem grown_below {w w' : World} {row : Option Nat} (h : Below w.heap.size w w') : w.grownBy w' row := ⟨h.os, h.tape, h.output, h.size, fun k hk _ => h.block k hk⟩
theorem below_grown {w w' : World} {row : Option Nat} {B : Nat} (h : w.grownBy w' row) (hr : ∀ k, row = some k → B ≤ k) (hB : B ≤ w.heap.size) : Below B w w' := (Ch.of_grown h (fun _ hk => hk)).below hr hB
theorem own_row {w : World} {B : Nat} {v : Value} {l : List UInt8} (h : Own 5 w B v l) : ∃ A n c, v = .slice A n c := by
  obtain ⟨A, c, e, _⟩ := h.bs
  exact ⟨A, _, c, e⟩
def E0 : Value × List UInt8 := (.slice none 0 0, [])
/-- the values of FrameCuts in the region, by what has come up -/
def cutsAct (A A1 : Option Addr) (n c N c1 M : Nat) (y : UInt8) (v39 v46 v48 v49 v51 v53 v54 v55 v57 v59 v60 v61 : Value) : Act := { tmps := #[.slice A n c, u8 y, undef, undef, .bool false, .slice A1 N c1, .int .i64 0, undef, undef, undef, undef, .tuple #[.slice A1 N c1, .int .i64 0], .slice A n c, .tuple #[.slice A1 N c1, .int .i64 0], .slice A1 N c1, .int .i64 0, .int .i64 0, .bool false, .bool false, .slice A n c, .int .i64 (n : Int), .bool false, .bool false, .bool false, .slice A1 N c1, .int .i64 (N : Int), .bool false, .bool false, undef, undef, undef, undef, undef, undef, undef, undef, undef, undef, .slice A1 N c1, v39, .slice A1 N c1, .slice A1 N c1, .int .i64 (N : Int), .int .i64 (M : Int), .slice A1 M c1, u8 y, v46, .slice A1 N c1, v48, v49, .slice A1 N c1, v51, u8 y, v53, v54, v55, .slice A1 N c1, v57, .slice A1 N c1, v59, v60, v61, .int .i64 0, undef, undef, undef, undef, undef, undef, undef, undef, undef, undef, undef, undef, undef, undef, undef, undef, undef], defers := [] }
def cutsL (b8 b10 b11 b13 b15 b16 b17 b19 b21 b22 b23 : Bool) : Array Bool := #[true, true, true, true, true, true, true, true, b8, true, b10, b11, true, b13, true, b15, b16, b17, true, b19, true, b21, b22, b23, true]
def ordB (b8 b10 b11 b13 b15 b16 b17 b19 b21 b22 b23 : Bool) : Bool := (!b10 || b8) && (!b13 || b11) && (!b16 || b13) && (!b16 || b15) && (!b19 || b17) && (!b21 || b19) && (!b22 || b10) && (!b22 || b16) && (!b22 || b21) && (!b23 || b22)
set_option maxRecDepth 100000 in
theorem ord8 : ∀ b10 b11 b13 b15 b16 b17 b19 b21 b22 b23 : Bool, ordB false b10 b11 b13 b15 b16 b17 b19 b21 b22 b23 = true → b10 = false ∧ b22 = false ∧ b23 = false ∧ ordB true b10 b11 b13 b15 b16 b17 b19 b21 b22 b23 = true := by decide
set_option maxRecDepth 100000 in
theorem ord10 : ∀ b11 b13 b15 b16 b17 b19 b21 b22 b23 : Bool, ordB true false b11 b13 b15 b16 b17 b19 b21 b22 b23 = true → b22 = false ∧ b23 = false ∧ ordB true true b11 b13 b15 b16 b17 b19 b21 b22 b23 = true := by decide
set_option maxRecDepth 100000 in
theorem ord11 : ∀ b8 b10 b13 b15 b16 b17 b19 b21 b22 b23 : Bool, ordB b8 b10 false b13 b15 b16 b17 b19 b21 b22 b23 = true → b13 = false ∧ b16 = false ∧ b22 = false ∧ b23 = false ∧ ordB b8 b10 true b13 b15 b16 b17 b19 b21 b22 b23 = true := by decide
set_option maxRecDepth 100000 in
theorem ord13 : ∀ b8 b15 b16 b17 b19 b21 b22 b23 : Bool, ordB b8 true true false b15 b16 b17 b19 b21 b22 b23 = true → b8 = true ∧ b16 = false ∧ b22 = false ∧ b23 = false ∧ ordB b8 true true true b15 b16 b17 b19 b21 b22 b23 = true := by decide
set_option maxRecDepth 100000 in
theorem ord15 : ∀ b8 b10 b11 b13 b16 b17 b19 b21 b22 b23 : Bool, ordB b8 b10 b11 b13 false b16 b17 b19 b21 b22 b23 = true → b16 = false ∧ b22 = false ∧ b23 = false ∧ ordB b8 b10 b11 b13 true b16 b17 b19 b21 b22 b23 = true := by decide
set_option maxRecDepth 100000 in
theorem ord16 : ∀ b8 b10 b11 b17 b19 b21 b22 b23 : Bool, ordB b8 b10 b11 true true false b17 b19 b21 b22 b23 = true → b11 = true ∧ b22 = false ∧ b23 = false ∧ ordB b8 b10 b11 true true true b17 b19 b21 b22 b23 = true := by decide
set_option maxRecDepth 100000 in
theorem ord17 : ∀ b8 b10 b11 b13 b15 b16 b19 b21 b22 b23 : Bool, ordB b8 b10 b11 b13 b15 b16 false b19 b21 b22 b23 = true → b19 = false ∧ b21 = false ∧ b22 = false ∧ b23 = false ∧ ordB b8 b10 b11 b13 b15 b16 true b19 b21 b22 b23 = true := by decide
set_option maxRecDepth 100000 in
theorem ord19 : ∀ b8 b10 b11 b13 b15 b21 b22 b23 : Bool, ordB b8 b10 b11 b13 b15 true true false b21 b22 b23 = true → b11 = true ∧ b13 = true ∧ b15 = true ∧ b21 = false ∧ b22 = false ∧ b23 = false ∧ ordB b8 b10 b11 b13 b15 true true true b21 b22 b23 = true := by decide
set_option maxRecDepth 100000 in
theorem ord21 : ∀ b8 b10 b11 b13 b15 b16 b17 b22 b23 : Bool, ordB b8 b10 b11 b13 b15 b16 b17 true false b22 b23 = true → b17 = true ∧ b22 = false ∧ b23 = false ∧ ordB b8 b10 b11 b13 b15 b16 b17 true true b22 b23 = true := by decide
set_option maxRecDepth 100000 in
theorem ord22 : ∀ b8 b11 b13 b15 b17 b19 b23 : Bool, ordB b8 true b11 b13 b15 true b17 b19 true false b23 = true → b8 = true ∧ b11 = true ∧ b13 = true ∧ b15 = true ∧ b17 = true ∧ b19 = true ∧ b23 = false ∧ ordB b8 true b11 b13 b15 true b17 b19 true true b23 = true := by decide
set_option maxRecDepth 100000 in
theorem ord23 : ∀ b8 b10 b11 b13 b15 b16 b17 b19 b21 : Bool, ordB b8 b10 b11 b13 b15 b16 b17 b19 b21 true false = true → b8 = true ∧ b10 = true ∧ b11 = true ∧ b13 = true ∧ b15 = true ∧ b16 = true ∧ b17 = true ∧ b19 = true ∧ b21 = true ∧ ordB b8 b10 b11 b13 b15 b16 b17 b19 b21 true true = true := by decide
def stA (b8 b10 : Bool) (v46 v48 : Value) (y : UInt8) (F : List UInt8) : Value × List UInt8 := if b10 then (v48, [y] ++ F) else if b8 then (v46, [y]) else E0
def stB (b11 b13 b16 : Bool) (v49 v51 v54 : Value) (y : UInt8) (F : List UInt8) : Value × List UInt8 := if b16 then (v54, F ++ [y]) else if b13 then (v51, F) else if b11 then (v49, []) else E0
def stD (b15 : Bool) (v53 : Value) (y : UInt8) : Value × List UInt8 := if b15 then (v53, [y]) else E0
def stC (b17 b19 b21 : Bool) (v55 v57 v59 : Value) (F : List UInt8) : Value × List UInt8 := if b21 then (v59, F ++ F) else if b19 then (v57, F) else if b17 then (v55, []) else E0
theorem owns_nil (w : World) (B : Nat) : Owns4 w B E0 E0 E0 E0 := ⟨Own.nil _ _ _, Own.nil _ _ _, Own.nil _ _ _, Own.nil _ _ _, (fun _ h _ => by cases h), (fun _ h _ => by cases h), (fun _ h _ => by cases h), (fun _ h _ => by cases h), (fun _ h _ => by cases h), (fun _ h _ => by cases h)⟩
/-- how the region stands -/
def CutsI (w1 : World) (A A1 : Option Addr) (n c N c1 M : Nat) (y : UInt8) (v39 : Value) (F : List UInt8) (L : Array Bool) (a : Act) (w : World) : Prop :=
  ∃ (b8 b10 b11 b13 b15 b16 b17 b19 b21 b22 b23 : Bool) (v46 v48 v49 v51 v53 v54 v55 v57 v59 v60 v61 : Value), L = cutsL b8 b10 b11 b13 b15 b16 b17 b19 b21 b22 b23 ∧ ordB b8 b10 b11 b13 b15 b16 b17 b19 b21 b22 b23 = true ∧ a = cutsAct A A1 n c N c1 M y v39 v46 v48 v49 v51 v53 v54 v55 v57 v59 v60 v61 ∧ Below w1.heap.size w1 w ∧
    Owns4 w w1.heap.size (stA b8 b10 v46 v48 y F) (stB b11 b13 b16 v49 v51 v54 y F) (stD b15 v53 y) (stC b17 b19 b21 v55 v57 v59 F) ∧
    (b22 = true → ∃ g, w1.heap.size ≤ g ∧ v60 = .slice (some ⟨g, 0, none⟩) 5 5 ∧ w.heap[g]? = some (.cells #[v39, .slice A1 M c1, v48, v54, v59] 22)) ∧ (b23 = true → v61 = .int .i64 5)
theorem cuts_who {b8 b10 b11 b13 b15 b16 b17 b19 b21 b22 b23 : Bool} : ∀ {i : Nat}, (cutsL b8 b10 b11 b13 b15 b16 b17 b19 b21 b22 b23).getD i true = false → i = 8 ∨ i = 10 ∨ i = 11 ∨ i = 13 ∨ i = 15 ∨ i = 16 ∨ i = 17 ∨ i = 19 ∨ i = 21 ∨ i = 22 ∨ i = 23
  | 0, h => Bool.noConfusion (show true = false from h)
  | 1, h => Bool.noConfusion (show true = false from h)
  | 2, h => Bool.noConfusion (show true = false from h)
  | 3, h => Bool.noConfusion (show true = false from h)
  | 4, h => Bool.noConfusion (show true = false from h)
  | 5, h => Bool.noConfusion (show true = false from h)
  | 6, h => Bool.noConfusion (show true = false from h)
  | 7, h => Bool.noConfusion (show true = false from h)
  | 8, h => by decide
  | 9, h => Bool.noConfusion (show true = false from h)
  | 10, h => by decide
  | 11, h => by decide
  | 12, h => Bool.noConfusion (show true = false from h)
  | 13, h => by decide
  | 14, h => Bool.noConfusion (show true = false from h)
  | 15, h => by decide
  | 16, h => by decide
  | 17, h => by decide
  | 18, h => Bool.noConfusion (show true = false from h)
  | 19, h => by decide
  | 20, h => Bool.noConfusion (show true = false from h)
  | 21, h => by decide
  | 22, h => by decide
  | 23, h => by decide
  | 24, h => Bool.noConfusion (show true = false from h)
  | n + 25, h => Bool.noConfusion (show true = false from h)
set_option maxRecDepth 100000
set_option maxHeartbeats 4000000
theorem cuts_good (A : Option Addr) (n c : Nat) (l : List UInt8) (y : UInt8) (w0 : World) (hS : Signs w0) (hB : Bs w0 A n c l) (hn : n ≤ 1000) (hg : good l = true) :
    Calls Tryd.prog 3 #[.slice A n c, u8 y] w0 (Alive w0) := by
  have hlen := hB.len
  have HS := Lib.hid hS
  have HB := Lib.hid hB
  have HG := Lib.hid hg
  have HL := Lib.hid hlen
  clear hS hB hg hlen
  go_enter Tryd.func3, Tryd.ntmps3
  go_wp2_with (fail)
  refine (frameWrap_yes A n c l w0 HS.out HB.out HG.out (by omega)).mono ?_
  rintro e w1 ⟨A1, c1, rfl, hF1, hb1⟩
  have S1 := Lib.hid (HS.out.below hb1)
  have hl1 : (11 :: (l ++ [28, 13]) : List UInt8).length = n + 3 := by rw [← HL.out]; simp
  obtain ⟨N, hN⟩ : ∃ N, N = n + 3 := ⟨_, rfl⟩
  obtain ⟨M, hM⟩ : ∃ M, M = n + 2 := ⟨_, rfl⟩
  rw [hl1, ← hN] at hF1 ⊢
  have F1 := Lib.hid hF1
  have HB1 := Lib.hid hb1
  have hle1 := hF1.le
  have e1 : decide ((1000 : Int) < (n : Int)) = false := by simp; omega
  have e2 : ((N : Int) == 0) = false := by simp; omega
  have e3 : (1 : Int) ≤ (N : Int) := by omega
  have e4 : (N : Int) ≤ (c1 : Int) := by omega
  have e5 : (M : Int) ≤ (c1 : Int) := by omega
  have e6 : (0 : Int) ≤ (M : Int) := by omega
  have e7 : IntKind.i64.wrap ((N : Int) - 1) = (M : Int) := by rw [IntKind.wrap_i64]; omega
  have HM := Lib.hid hM
  have HN := Lib.hid hN
  clear hF1 hl1 hb1 hN hM
  go_wp2_with (fail)
  refine wp_region_held_drew (S := fun _ => True) (by kernel_rfl) trivial (fun _ => ?_)
  refine takes (P := Tryd.prog) (by kernel_rfl) (fun _ _ _ _ _ h => h) [0, 1, 2, 3, 4, 5, 6, 7, 9, 12, 14, 18, 20, 24] 11 _ _ _ (by kernel_rfl) trivial ?_
  simp only [pick, List.getElem?_cons_zero, List.getElem?_cons_succ]
  repeat (first | (refine ⟨_, fun _ => rfl, ?_⟩) | go_big_quiet_step (fail) | (unfold wpQuiet; go_simp))
  obtain ⟨A39, hA39⟩ : ∃ A39, A39 = if c1 = 1 then A1 else Option.map (fun x : Addr => ({ block := x.block, off := x.off + 1 } : Addr)) A1 := ⟨_, rfl⟩
  rw [← hA39]
  have HA39 := Lib.hid hA39
  clear hA39
  obtain ⟨F, hF⟩ : ∃ F, F = 11 :: (l ++ [28, 13]) := ⟨_, rfl⟩
  rw [← hF] at F1
  have hFl : F.length = N := F1.out.len
  have hNs : N ≤ 1003 := by have := HN.out; omega
  refine wpAnyH_inv (I := CutsI w1 A A1 n c N c1 M y (.slice A39 (N - 1) (c1 - 1)) F) (fun _ _ _ _ => trivial) (fun L a w hI => ?_) (fun L a w hI hr => ?_) (fun L a w hI i hi => ?_) 11 _ _ _ (by decide +kernel) ?_
  · obtain ⟨b8, b10, b11, b13, b15, b16, b17, b19, b21, b22, b23, v46, v48, v49, v51, v53, v54, v55, v57, v59, v60, v61, rfl, _⟩ := hI
    rfl
  · obtain ⟨b8, b10, b11, b13, b15, b16, b17, b19, b21, b22, b23, v46, v48, v49, v51, v53, v54, v55, v57, v59, v60, v61, rfl, hord, rfl, hb, ho, hg, h61⟩ := hI
    have no : ∀ i, i ∉ Region.ready .any _ (cutsL b8 b10 b11 b13 b15 b16 b17 b19 b21 b22 b23) := fun i hi => by rw [hr] at hi; cases hi
    obtain rfl : b8 = true := by
      cases b8 with
      | true => rfl
      | false => exact absurd (mem_ready.2 ⟨rfl, _, rfl, by simp [cutsL]⟩) (no 8)
    obtain rfl : b10 = true := by
      cases b10 with
      | true => rfl
      | false => exact absurd (mem_ready.2 ⟨rfl, _, rfl, by simp [cutsL]⟩) (no 10)
    obtain rfl : b11 = true := by
      cases b11 with
      | true => rfl
      | false => exact absurd (mem_ready.2 ⟨rfl, _, rfl, by simp [cutsL]⟩) (no 11)
    obtain rfl : b13 = true := by
      cases b13 with
      | true => rfl
      | false => exact absurd (mem_ready.2 ⟨rfl, _, rfl, by simp [cutsL]⟩) (no 13)
    obtain rfl : b15 = true := by
      cases b15 with
      | true => rfl
      | false => exact absurd (mem_ready.2 ⟨rfl, _, rfl, by simp [cutsL]⟩) (no 15)
    obtain rfl : b16 = true := by
      cases b16 with
      | true => rfl
      | false => exact absurd (mem_ready.2 ⟨rfl, _, rfl, by simp [cutsL]⟩) (no 16)
    obtain rfl : b17 = true := by
      cases b17 with
      | true => rfl
      | false => exact absurd (mem_ready.2 ⟨rfl, _, rfl, by simp [cutsL]⟩) (no 17)
    obtain rfl : b19 = true := by
      cases b19 with
      | true => rfl
      | false => exact absurd (mem_ready.2 ⟨rfl, _, rfl, by simp [cutsL]⟩) (no 19)
    obtain rfl : b21 = true := by
      cases b21 with
      | true => rfl
      | false => exact absurd (mem_ready.2 ⟨rfl, _, rfl, by simp [cutsL]⟩) (no 21)
    obtain rfl : b22 = true := by
      cases b22 with
      | true => rfl
      | false => exact absurd (mem_ready.2 ⟨rfl, _, rfl, by simp [cutsL]⟩) (no 22)
    obtain rfl : b23 = true := by
      cases b23 with
      | true => rfl
      | false => exact absurd (mem_ready.2 ⟨rfl, _, rfl, by simp [cutsL]⟩) (no 23)
    have h48 : Own 5 w w1.heap.size v48 ([y] ++ F) := ho.op
    have h54 : Own 5 w w1.heap.size v54 (F ++ [y]) := ho.oq
    have h59 : Own 5 w w1.heap.size v59 (F ++ F) := ho.os
    obtain ⟨g, hg1, rfl, hg2⟩ := hg rfl
    obtain rfl := h61 rfl
    obtain ⟨A48, c48, e48, hb48, _⟩ := h48.bs
    obtain ⟨n48, hn48⟩ : ∃ m, m = ([y] ++ F).length := ⟨_, rfl⟩
    rw [← hn48] at e48 hb48
    subst e48
    obtain ⟨A54, c54, e54, hb54, _⟩ := h54.bs
    obtain ⟨n54, hn54⟩ : ∃ m, m = (F ++ [y]).length := ⟨_, rfl⟩
    rw [← hn54] at e54 hb54
    subst e54
    obtain ⟨A59, c59, e59, hb59, _⟩ := h59.bs
    obtain ⟨n59, hn59⟩ : ∃ m, m = (F ++ F).length := ⟨_, rfl⟩
    rw [← hn59] at e59 hb59
    subst e59
    have hF1 := F1.out.below hb
    have hrow : ∀ k, k < 5 → ∃ A' n' c' X, w.cell? ⟨g, k, none⟩ = some (.slice A' n' c') ∧ Bs w A' n' c' X ∧ isFrame X = false ∧ n' ≤ 5000 := by
      intro k hk
      have hc := cell_of_row w g k _ _ _ hg2
      rcases k with _ | _ | _ | _ | _ | k
      · refine ⟨A39, N - 1, c1 - 1, F.drop 1, hc, ?_, by rw [hF]; exact noF1 HG.out, by omega⟩
        have h := hF1.drop (i := 1) (by omega)
        have e : A39 = if c1 = 1 then A1 else A1.map (·.add 1) := by
          obtain ⟨b, o, rfl, _⟩ := hF1.at_ (by omega)
          rw [HA39.out]
          simp [Addr.add_lit]
        rw [e]
        exact h
      · exact ⟨A1, M, c1, F.take M, hc, hF1.take (by have := HM.out; have := HN.out; omega), by rw [hF, HM.out, ← HL.out]; exact noF2, by have := HM.out; omega⟩
      · exact ⟨A48, n48, c48, [y] ++ F, hc, hb48, by rw [hF]; exact noF3 y, by rw [hn48]; simp; omega⟩
      · exact ⟨A54, n54, c54, F ++ [y], hc, hb54, by rw [hF]; exact noF4 y, by rw [hn54]; simp; omega⟩
      · exact ⟨A59, n59, c59, F ++ F, hc, hb59, by rw [hF]; exact noF5, by rw [hn59]; simp; omega⟩
      · omega
    have HROW := Lib.hid hrow
    have HBW : Hid (Below w0.heap.size w0 w) := Lib.hid (HB1.out.trans (hb.mono HB1.out.size))
    have HGL : Hid (g < w.heap.size) := Lib.hid (Array.getElem?_eq_some_iff.1 hg2).1
    unfold cutsAct
    clear hn48 hn54 hn59 hr no hord ho hg h61 h48 h54 h59 hb48 hb54 hb59 hrow hF1 hg2 hb HA39
    go_wp2_with (fail)
    go_loopw [4, 8, 9, 10, 62, 63, 64, 65, 66, 67, 68, 69, 70, 71, 72, 73, 74, 75, 76, 77, 78] (fun _ _ _ _ i _ _ _ _ _ _ _ _ _ _ _ _ _ _ _ _ wr => ∃ (k : Nat), i = .int .i64 k ∧ k ≤ 5 ∧ Below w.heap.size w wr) (fun _ _ _ _ i _ _ _ _ _ _ _ _ _ _ _ _ _ _ _ _ _ => 5 - (intOf i).toNat)
    case atStart => exact ⟨0, rfl, Nat.zero_le _, Below.refl _ _⟩
    case round =>
      obtain ⟨wi, rfl⟩ : ∃ wi : World, wi = wr := ⟨_, rfl⟩
      obtain ⟨k, rfl, hk, hst⟩ := hrel
      have HST := Lib.hid hst
      have HBI : Hid (Below w0.heap.size w0 wi) := Lib.hid (HBW.out.trans (hst.mono HBW.out.size))
      clear hst
      by_cases hlt : k < 5
      · obtain ⟨A', n', c', X, hcell, hbs, hnf, hn'⟩ := HROW.out k hlt
        have hc2 : wi.cell? ⟨g, k, none⟩ = some (.slice A' n' c') := (HST.out.cell (p := ⟨g, k, none⟩) HGL.out).trans hcell
        have HBS := Lib.hid (hbs.below HST.out)
        have HNF := Lib.hid hnf
        have HN' := Lib.hid hn'
        have e8 : (k : Int) < 5 := by omega
        clear hcell hbs hnf hn'
        go_wp2_with (fail)
        refine (frameUnwrap_err A' n' c' X wi (HS.out.below HBI.out) HBS.out (by have := HN'.out; omega) HNF.out).mono ?_
        rintro e w4 ⟨r, hr, A4, c4, rfl, _, hb4⟩
        have hr1 : (r == 0) = false := by simpa using hr
        have HB4 := Lib.hid (HST.out.trans (hb4.mono HST.out.size))
        clear hr hb4 hc2 HBS
        go_wp2_with (fail)
        exact ⟨⟨k + 1, by go_num, by omega, HB4.out⟩, by simp [intOf]; omega⟩
      · obtain rfl : k = 5 := by omega
        go_wp2_with (fail)
        refine (alive_any wi (HS.out.below HBI.out)).mono ?_
        rintro e w5 ⟨rfl, hb5⟩
        have HB5 := Lib.hid (HBI.out.trans (hb5.mono HBI.out.size))
        clear hb5
        go_wp2_with (fail)
        go_ret
        exact ⟨rfl, HB5.out⟩
  · obtain ⟨b8, b10, b11, b13, b15, b16, b17, b19, b21, b22, b23, v46, v48, v49, v51, v53, v54, v55, v57, v59, v60, v61, rfl, hord, rfl, hb, ho, hg, h61⟩ := hI
    obtain ⟨h1, o, h2, h3⟩ := mem_ready.1 hi
    have hF1 := F1.out.below hb
    have hws := hb.size
    rcases cuts_who h1 with rfl | rfl | rfl | rfl | rfl | rfl | rfl | rfl | rfl | rfl | rfl
    all_goals simp only [List.getElem?_toArray, List.getElem?_cons_succ, List.getElem?_cons_zero, Option.some.injEq] at h2
    all_goals subst h2
    all_goals refine wpOp_step rfl (fun K hK => ?_)
    · obtain rfl : b8 = false := h1
      obtain ⟨rfl, rfl, rfl, hord2⟩ := ord8 _ _ _ _ _ _ _ _ _ _ hord
      have hba : Below w.heap.size w (w.alloc (.cells #[u8 y] 5)) := (Below.refl _ _).alloc (Nat.le_refl _) _
      unfold cutsAct
      go_simp
      exact hK _ _ ⟨true, false, b11, b13, b15, b16, b17, b19, b21, false, false, .slice (some ⟨w.heap.size, 0, none⟩) 1 1, v48, v49, v51, v53, v54, v55, v57, v59, v60, v61, rfl, hord2, rfl, hb.trans (hba.mono hws), (ho.set (p' := (.slice (some ⟨w.heap.size, 0, none⟩) 1 1, [y])) (Own.lit 5 w [y] hws (by simp [maxLen])) (grown_below hba) (.inr (fun k hk => by simp only [Value.ownBlock, Option.some.injEq] at hk; omega))), (fun h => by cases h), (fun h => by cases h)⟩
    · obtain rfl : b10 = false := h1
      obtain rfl : b8 = true := h3 { on := 8, ground := .data } (by simp) rfl
      obtain ⟨rfl, rfl, hord2⟩ := ord10 _ _ _ _ _ _ _ _ _ hord
      refine step_appL rfl (.tmp 46) (.tmp 47) rfl w1.heap.size v46 ([y]) rfl ho.op A1 N c1 F rfl hF1 (by first | (simp; omega) | omega) hws ?_
      intro v' w' ho' hg' hf'
      exact hK _ _ ⟨true, true, b11, b13, b15, b16, b17, b19, b21, false, false, v46, v', v49, v51, v53, v54, v55, v57, v59, v60, v61, rfl, hord2, rfl, hb.trans (below_grown hg' (fun k hk => ((ho).op.lt k hk).1) hws), (ho.set (p' := (v', [y] ++ F)) ho' hg' (hf'.imp id (fun e k hk => by rw [e] at hk; injection hk with hk; omega))), (fun h => by cases h), (fun h => by cases h)⟩
    · obtain rfl : b11 = false := h1
      obtain ⟨rfl, rfl, rfl, rfl, hord2⟩ := ord11 _ _ _ _ _ _ _ _ _ _ hord
      have hba : Below w.heap.size w (w.alloc (.cells #[] 5)) := (Below.refl _ _).alloc (Nat.le_refl _) _
      unfold cutsAct
      go_simp
      exact hK _ _ ⟨b8, b10, true, false, b15, false, b17, b19, b21, false, false, v46, v48, .slice (some ⟨w.heap.size, 0, none⟩) 0 0, v51, v53, v54, v55, v57, v59, v60, v61, rfl, hord2, rfl, hb.trans (hba.mono hws), (ho.rot.set (p' := (.slice (some ⟨w.heap.size, 0, none⟩) 0 0, [])) (Own.lit 5 w [] hws (by simp [maxLen])) (grown_below hba) (.inr (fun k hk => by simp only [Value.ownBlock, Option.some.injEq] at hk; omega))).rot.rot.rot, (fun h => by cases h), (fun h => by cases h)⟩
    · obtain rfl : b13 = false := h1
      obtain rfl : b11 = true := h3 { on := 11, ground := .data } (by simp) rfl
      obtain rfl : b10 = true := h3 { on := 10, ground := .chain } (by simp) rfl
      obtain ⟨rfl, rfl, rfl, rfl, hord2⟩ := ord13 _ _ _ _ _ _ _ _ hord
      refine step_appL rfl (.tmp 49) (.tmp 50) rfl w1.heap.size v49 ([]) rfl ho.oq A1 N c1 F rfl hF1 (by first | (simp; omega) | omega) hws ?_
      intro v' w' ho' hg' hf'
      exact hK _ _ ⟨true, true, true, true, b15, false, b17, b19, b21, false, false, v46, v48, v49, v', v53, v54, v55, v57, v59, v60, v61, rfl, hord2, rfl, hb.trans (below_grown hg' (fun k hk => ((ho.rot).op.lt k hk).1) hws), (ho.rot.set (p' := (v', F)) ho' hg' (hf'.imp id (fun e k hk => by rw [e] at hk; injection hk with hk; omega))).rot.rot.rot, (fun h => by cases h), (fun h => by cases h)⟩
    · obtain rfl : b15 = false := h1
      obtain ⟨rfl, rfl, rfl, hord2⟩ := ord15 _ _ _ _ _ _ _ _ _ _ hord
      have hba : Below w.heap.size w (w.alloc (.cells #[u8 y] 5)) := (Below.refl _ _).alloc (Nat.le_refl _) _
      unfold cutsAct
      go_simp
      exact hK _ _ ⟨b8, b10, b11, b13, true, false, b17, b19, b21, false, false, v46, v48, v49, v51, .slice (some ⟨w.heap.size, 0, none⟩) 1 1, v54, v55, v57, v59, v60, v61, rfl, hord2, rfl, hb.trans (hba.mono hws), (ho.rot.rot.set (p' := (.slice (some ⟨w.heap.size, 0, none⟩) 1 1, [y])) (Own.lit 5 w [y] hws (by simp [maxLen])) (grown_below hba) (.inr (fun k hk => by simp only [Value.ownBlock, Option.some.injEq] at hk; omega))).rot.rot, (fun h => by cases h), (fun h => by cases h)⟩
    · obtain rfl : b16 = false := h1
      obtain rfl : b13 = true := h3 { on := 13, ground := .data } (by simp) rfl
      obtain rfl : b15 = true := h3 { on := 15, ground := .data } (by simp) rfl
      obtain ⟨rfl, rfl, rfl, hord2⟩ := ord16 _ _ _ _ _ _ _ _ hord
      have h53 : Own 5 w w1.heap.size v53 [y] := ho.or
      obtain ⟨Ad, cd, rfl, hbd, _⟩ := h53.bs
      refine step_appL rfl (.tmp 51) (.tmp 53) rfl w1.heap.size v51 F rfl ho.oq Ad 1 cd [y] rfl hbd (by first | (simp; omega) | omega) hws ?_
      intro v' w' ho' hg' hf'
      exact hK _ _ ⟨b8, b10, true, true, true, true, b17, b19, b21, false, false, v46, v48, v49, v51, _, v', v55, v57, v59, v60, v61, rfl, hord2, rfl, hb.trans (below_grown hg' (fun k hk => ((ho.rot).op.lt k hk).1) hws), (ho.rot.set (p' := (v', F ++ [y])) ho' hg' (hf'.imp id (fun e k hk => by rw [e] at hk; injection hk with hk; omega))).rot.rot.rot, (fun h => by cases h), (fun h => by cases h)⟩
    · obtain rfl : b17 = false := h1
      obtain ⟨rfl, rfl, rfl, rfl, hord2⟩ := ord17 _ _ _ _ _ _ _ _ _ _ hord
      have hba : Below w.heap.size w (w.alloc (.cells #[] 5)) := (Below.refl _ _).alloc (Nat.le_refl _) _
      unfold cutsAct
      go_simp
      exact hK _ _ ⟨b8, b10, b11, b13, b15, b16, true, false, false, false, false, v46, v48, v49, v51, v53, v54, .slice (some ⟨w.heap.size, 0, none⟩) 0 0, v57, v59, v60, v61, rfl, hord2, rfl, hb.trans (hba.mono hws), (ho.rot.rot.rot.set (p' := (.slice (some ⟨w.heap.size, 0, none⟩) 0 0, [])) (Own.lit 5 w [] hws (by simp [maxLen])) (grown_below hba) (.inr (fun k hk => by simp only [Value.ownBlock, Option.some.injEq] at hk; omega))).rot, (fun h => by cases h), (fun h => by cases h)⟩
    · obtain rfl : b19 = false := h1
      obtain rfl : b17 = true := h3 { on := 17, ground := .data } (by simp) rfl
      obtain rfl : b16 = true := h3 { on := 16, ground := .chain } (by simp) rfl
      obtain ⟨rfl, rfl, rfl, rfl, rfl, rfl, hord2⟩ := ord19 _ _ _ _ _ _ _ _ hord
      refine step_appL rfl (.tmp 55) (.tmp 56) rfl w1.heap.size v55 ([]) rfl ho.os A1 N c1 F rfl hF1 (by first | (simp; omega) | omega) hws ?_
      intro v' w' ho' hg' hf'
      exact hK _ _ ⟨b8, b10, true, true, true, true, true, true, false, false, false, v46, v48, v49, v51, v53, v54, v55, v', v59, v60, v61, rfl, hord2, rfl, hb.trans (below_grown hg' (fun k hk => ((ho.rot.rot.rot).op.lt k hk).1) hws), (ho.rot.rot.rot.set (p' := (v', F)) ho' hg' (hf'.imp id (fun e k hk => by rw [e] at hk; injection hk with hk; omega))).rot, (fun h => by cases h), (fun h => by cases h)⟩
    · obtain rfl : b21 = false := h1
      obtain rfl : b19 = true := h3 { on := 19, ground := .data } (by simp) rfl
      obtain ⟨rfl, rfl, rfl, hord2⟩ := ord21 _ _ _ _ _ _ _ _ _ hord
      refine step_appL rfl (.tmp 57) (.tmp 58) rfl w1.heap.size v57 F rfl ho.os A1 N c1 F rfl hF1 (by first | (simp; omega) | omega) hws ?_
      intro v' w' ho' hg' hf'
      exact hK _ _ ⟨b8, b10, b11, b13, b15, b16, true, true, true, false, false, v46, v48, v49, v51, v53, v54, v55, v57, v', v60, v61, rfl, hord2, rfl, hb.trans (below_grown hg' (fun k hk => ((ho.rot.rot.rot).op.lt k hk).1) hws), (ho.rot.rot.rot.set (p' := (v', F ++ F)) ho' hg' (hf'.imp id (fun e k hk => by rw [e] at hk; injection hk with hk; omega))).rot, (fun h => by cases h), (fun h => by cases h)⟩
    · obtain rfl : b22 = false := h1
      obtain rfl : b10 = true := h3 { on := 10, ground := .data } (by simp) rfl
      obtain rfl : b16 = true := h3 { on := 16, ground := .data } (by simp) rfl
      obtain rfl : b21 = true := h3 { on := 21, ground := .data } (by simp) rfl
      obtain ⟨rfl, rfl, rfl, rfl, rfl, rfl, rfl, hord2⟩ := ord22 _ _ _ _ _ _ _ hord
      have h48 : Own 5 w w1.heap.size v48 ([y] ++ F) := ho.op
      have h54 : Own 5 w w1.heap.size v54 (F ++ [y]) := ho.oq
      have h59 : Own 5 w w1.heap.size v59 (F ++ F) := ho.os
      obtain ⟨A48, n48, c48, rfl⟩ := own_row h48
      obtain ⟨A54, n54, c54, rfl⟩ := own_row h54
      obtain ⟨A59, n59, c59, rfl⟩ := own_row h59
      have hba : Below w.heap.size w (w.alloc (.cells #[.slice A39 (N - 1) (c1 - 1), .slice A1 M c1, .slice A48 n48 c48, .slice A54 n54 c54, .slice A59 n59 c59] 22)) := (Below.refl _ _).alloc (Nat.le_refl _) _
      unfold cutsAct
      go_simp
      exact hK _ _ ⟨true, true, true, true, true, true, true, true, true, true, false, v46, _, v49, v51, v53, _, v55, v57, _, _, v61, rfl, hord2, rfl, hb.trans (hba.mono hws), ho.below hba, (fun _ => ⟨w.heap.size, hws, rfl, heap_alloc_new w _⟩), (fun h => by cases h)⟩
    · obtain rfl : b23 = false := h1
      obtain rfl : b22 = true := h3 { on := 22, ground := .data } (by simp) rfl
      obtain ⟨rfl, rfl, rfl, rfl, rfl, rfl, rfl, rfl, rfl, hord2⟩ := ord23 _ _ _ _ _ _ _ _ _ hord
      obtain ⟨g, hg1, rfl, hg2⟩ := hg rfl
      unfold cutsAct
      go_simp
      exact hK _ _ ⟨true, true, true, true, true, true, true, true, true, true, true, v46, v48, v49, v51, v53, v54, v55, v57, v59, _, _, rfl, hord2, rfl, hb, ho, (fun _ => ⟨g, hg1, rfl, hg2⟩), (fun _ => rfl)⟩
  · exact ⟨false, false, false, false, false, false, false, false, false, false, false, undef, undef, undef, undef, undef, undef, undef, undef, undef, undef, undef, rfl, rfl, rfl, (Below.refl _ w1).drew, owns_nil _ _, (fun h => by cases h), (fun h => by cases h)⟩
theorem cuts_no (A : Option Addr) (n c : Nat) (l : List UInt8) (y : UInt8) (w : World) (hS : Signs w) (hB : Bs w A n c l) (hg : good l = false) :
    Calls Tryd.prog 3 #[.slice A n c, u8 y] w (Alive w) := by
  have hmax := hB.nmax
  have HS := Lib.hid hS
  have HB := Lib.hid hB
  have HG := Lib.hid hg
  clear hS hB hg
  go_enter Tryd.func3, Tryd.ntmps3
  go_wp2_with (fail)
  refine (frameWrap_no A n c l w HS.out HB.out HG.out).mono ?_
  rintro e w3 ⟨A1, c1, rfl, hF1, hb1⟩
  have b3 := Lib.hid hb1
  clear hb1 hF1
  go_wp2_with (fail)
  refine (alive_any w3 (HS.out.below b3.out)).mono ?_
  rintro e w5 ⟨rfl, hb5⟩
  have b5 := Lib.hid (b3.out.trans (hb5.mono b3.out.size))
  clear hb5
  go_wp2_with (fail)
  go_ret
  exact ⟨rfl, b5.out⟩
theorem cuts_great (A : Option Addr) (n c : Nat) (l : List UInt8) (y : UInt8) (w : World) (hS : Signs w) (hB : Bs w A n c l) (hn : 1000 < n) (hc : c ≤ 140737488351232) (hg : good l = true) :
    Calls Tryd.prog 3 #[.slice A n c, u8 y] w (Alive w) := by
  have hmax := hB.nmax
  have hle := hB.le
  have HS := Lib.hid hS
  have HB := Lib.hid hB
  have HG := Lib.hid hg
  have e1 : decide ((1000 : Int) < (n : Int)) = true := by simp; omega
  clear hS hB hg
  go_enter Tryd.func3, Tryd.ntmps3
  go_wp2_with (fail)
  refine (frameWrap_yes A n c l w HS.out HB.out HG.out (by omega)).mono ?_
  rintro e w3 ⟨A1, c1, rfl, hF1, hb1⟩
  have b3 := Lib.hid hb1
  clear hb1 hF1
  go_wp2_with (fail)
  refine (alive_any w3 (HS.out.below b3.out)).mono ?_
  rintro e w5 ⟨rfl, hb5⟩
  have b5 := Lib.hid (b3.out.trans (hb5.mono b3.out.size))
  clear hb5
  go_wp2_with (fail)
  go_ret
  exact ⟨rfl, b5.out⟩
theorem frameCuts_walk (A : Option Addr) (n c : Nat) (l : List UInt8) (y : UInt8) (w : World) (hS : Signs w) (hB : Bs w A n c l) (hc : c ≤ 140737488351232) :
    Calls Tryd.prog 3 #[.slice A n c, u8 y] w (Alive w) := by
  cases hg : good l with
  | false => exact cuts_no A n c l y w hS hB hg
  | true =>
    by_cases hn : n ≤ 1000
    · exact cuts_good A n c l y w hS hB hn hg
    · exact cuts_great A n c l y w hS hB (by omega) hc hg
theorem frameCuts_walkI (A : Option Addr) (n c : Nat) (l : List UInt8) (x : Int) (w : World) (hS : Signs w) (hB : Bs w A n c l) (hc : c ≤ 140737488351232) (wf : (Lit.int .u8 x).wf = true) :
    Calls Tryd.prog 3 #[.slice A n c, .int .u8 x] w (Alive w) := by
  have hx : 0 ≤ x ∧ x < 256 := by
    simp [Lit.wf, IntKind.min, IntKind.max, IntKind.signed, IntKind.bits] at wf
    omega
  have e : x = ((UInt8.ofNat x.toNat).toNat : Int) := by
    rw [UInt8.toNat_ofNat']
    omega
  rw [e]
  exact frameCuts_walk A n c l _ w hS hB hc
end Go.Proofs.YtncohbnlbjmadaaDoor
