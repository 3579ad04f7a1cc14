/- A region that draws its order, whose operations only read, and whose callees hand back one value and leave all that was there: one walk, in the order of the text. -/
import Derived.Test.YtncohbnlbjmadaaDoorBase
import Derived.Deep.RegionLaw
import Derived.Laws.CopyOwn
namespace Go.Proofs.YtncohbnlbjmadaaDoor
open Go.RowKit

theorem byteInfo : (Tryd.prog.info? 5).map (fun i => (i.zero, i.size, i.bytes)) = some (some (.int .u8 0), 1, 1) := by kernel_rfl

/-- a world that comes behind w: all that was there is as it was -/
structure Later (w : World) where
  u : World
  h : Below w.heap.size w u
instance (w : World) : Nonempty (Later w) := ⟨⟨w, Below.refl _ _⟩⟩

theorem region_later {P : Program} {id : Nat} {Q : Exit → Act → World → Prop} {a : Act} {w : World} {l : List Oper} (hm : P.follows .mixedOrders = true) (hB : Region.lexB .any l.toArray = true)
    (h : wpQuiet P l.toArray (fun w' => ∃ n : Later w, w' = n.u) (fun a' => ∀ n : Later w, Q .normal a' n.u) l a) : (Code.region id l.toArray true).wp P Q a w :=
  wp_region_quiet (C := fun w' => ∃ n : Later w, w' = n.u) hm hB ⟨⟨{ w with drawn := w.drawn + 1 }, ⟨rfl, rfl, rfl, Nat.le_refl _, fun _ _ => rfl⟩⟩, rfl⟩ (by
    have e : (fun a' => ∀ w', (∃ n : Later w, w' = n.u) → Q .normal a' w') = fun a' => ∀ n : Later w, Q .normal a' n.u :=
      funext fun a' => propext ⟨fun h n => h _ ⟨n, rfl⟩, fun h w' ⟨n, e⟩ => e ▸ h n⟩
    rw [e]
    simpa using h)

theorem Calls.later {P : Program} {f : FuncId} {args : Array Value} {w : World} {n : Later w} {v : Value}
    (h : Calls P f args n.u fun e w' => e = .returned v ∧ Below n.u.heap.size n.u w') : Calls P f args n.u fun e w'' => e = .returned v ∧ ∃ m : Later w, w'' = m.u :=
  h.mono fun _ w' ⟨he, hb⟩ => ⟨he, ⟨w', n.h.trans (hb.mono n.h.size)⟩, rfl⟩
theorem Calls.later_same {P : Program} {f : FuncId} {args : Array Value} {w : World} {n : Later w} {v : Value}
    (h : Calls P f args n.u fun e w' => e = .returned v ∧ n.u = w') : Calls P f args n.u fun e w'' => e = .returned v ∧ ∃ m : Later w, w'' = m.u :=
  h.mono fun _ _ ⟨he, hb⟩ => ⟨he, n, hb.symm⟩
theorem Later.bs {w : World} (n : Later w) {A : Option Addr} {k c : Nat} {l : List UInt8} (h : Bs w A k c l) : Bs n.u A k c l := h.below n.h
theorem Bs.take {w : World} {A : Option Addr} {n c : Nat} {l : List UInt8} (h : Bs w A n c l) {j : Nat} (hj : j ≤ n) : Bs w A j c (l.take j) :=
  ⟨by rw [List.length_take, h.1]; omega, Nat.le_trans hj h.le, h.2.2.1, fun h0 => by
    obtain ⟨b, o, e, hc⟩ := h.2.2.2 (by omega)
    refine ⟨b, o, e, fun i x hx => hc i x ?_⟩
    rw [List.getElem?_take] at hx
    split at hx
    · exact hx
    · cases hx⟩
/-- the whole of a block -/
theorem Bs.block {w : World} {g n : Nat} {t : TypeId} {f : Nat × Nat} {l : List UInt8} (h : w.heap[g]? = some (.cells (u8s l).toArray t f)) (hn : l.length = n) (hm : n ≤ maxLen) : Bs w (some ⟨g, 0, none⟩) n n l :=
  Bs.of_block h (by rw [List.take_of_length_le (by simp)]) hn (Nat.le_refl _) hm
theorem u8s_set (l : List UInt8) (j : Nat) (x : UInt8) : (u8s l).toArray.setIfInBounds j (.int .u8 (x.toNat : Int)) = (u8s (l.set j x)).toArray := by
  simp [u8s]
/-- copy(dst, src): dst a block of the call's own from place 'off' on, src of no more bytes than there is place for -/
theorem wpList_cpyTo {P : Program} {w : World} {ops : Array Oper} {rest : List Oper} {o : Oper} {a : Act} {Q : Exit → Act → World → Prop} (hgd : o.guard = none) (d s : Operand) (dT sT : TypeId)
    (ho : o.op = .call { callee := .builtin .copy, args := #[d, s], argTypes := #[dT, sT] }) (e : TypeId) (hu : P.underlying dT = some (.slice e)) (hi : (P.info? e).map (fun i => (i.zero, i.size, i.bytes)) = some (some (.int .u8 0), 1, 1))
    (g off m cap : Nat) (D : Option Addr) (hd : a.eval d = .slice D m cap) (cur : List UInt8) (t : TypeId) (hg : w.heap[g]? = some (.cells (u8s cur).toArray t (0, 0)))
    (A : Option Addr) (n' n c : Nat) (l : List UInt8) (hs : a.eval s = .slice A n' c) (hB : Bs w A n c l) (hD : 0 < n → D = some ⟨g, off, none⟩) (hn : n = min n' m) (hcur : off + n ≤ cur.length)
    (h : ∀ w', Hid (w'.heap[g]? = some (.cells (u8s (cur.take off ++ (l ++ cur.drop (off + n)))).toArray t (0, 0))) → Below g w w' → wpList P ops Q rest (a.put o.dst (.int .i64 (n : Int))) w') : wpList P ops Q (o :: rest) a w := by
  have hl := hB.len
  refine wpList_copy_splice hgd d s dT sT ho e hu (by obtain ⟨i, hi, hzz⟩ := Option.map_eq_some_iff.1 hi; simp only [Prod.mk.injEq] at hzz; rw [hi]; simp [hzz.2.1]) D A m cap n' c hd hs g off (u8s cur) t hg (u8s l) (by simp only [List.length_map, hl]; exact hn)
    (fun hp => ?_) (by simp [hl]; exact hcur) (u8s_one l) g w (Below.refl _ _) (Nat.le_refl _) (fun w' hw' hb => ?_)
  · have h0 : 0 < n := by simpa [hl] using hp
    obtain ⟨b, o', rfl, _, hc⟩ := hB.at_ h0
    refine ⟨hD h0, _, rfl, fun j v hj => ?_⟩
    obtain ⟨x, hx, rfl⟩ := u8s_get hj
    rw [Addr.add_lit]
    exact hc j x hx
  · have hsp : splice (u8s cur) off (u8s l) = u8s (cur.take off ++ (l ++ cur.drop (off + n))) := by
      unfold splice
      simp [u8s, hl]
    have hh := hw'.out
    rw [hsp] at hh
    have := h w' (Lib.hid hh) hb
    simpa [hl, goInt] using this
/-- the same in a region that draws its order -/
theorem step_cpyTo {P : Program} {ops : Array Oper} {o : Oper} {a : Act} {w : World} {K : Act → World → Prop} {Q : Exit → Act → World → Prop} {E : Prop} (hgd : o.guard = none) (d s : Operand) (dT sT : TypeId)
    (ho : o.op = .call { callee := .builtin .copy, args := #[d, s], argTypes := #[dT, sT] }) (e : TypeId) (hu : P.underlying dT = some (.slice e)) (hi : (P.info? e).map (fun i => (i.zero, i.size, i.bytes)) = some (some (.int .u8 0), 1, 1))
    (g off m cap : Nat) (D : Option Addr) (hd : a.eval d = .slice D m cap) (cur : List UInt8) (t : TypeId) (hg : w.heap[g]? = some (.cells (u8s cur).toArray t (0, 0)))
    (A : Option Addr) (n' n c : Nat) (l : List UInt8) (hs : a.eval s = .slice A n' c) (hB : Bs w A n c l) (hD : 0 < n → D = some ⟨g, off, none⟩) (hn : n = min n' m) (hcur : off + n ≤ cur.length)
    (h : ∀ w', Hid (w'.heap[g]? = some (.cells (u8s (cur.take off ++ (l ++ cur.drop (off + n)))).toArray t (0, 0))) → Below g w w' → K (a.put o.dst (.int .i64 (n : Int))) w') :
    if Region.wanted o (yielded ops a.tmps) = true then Oper.wp P o a w K Q else E := by
  have hl := hB.len
  refine step_copy_splice hgd d s dT sT ho e hu (by obtain ⟨i, hi, hzz⟩ := Option.map_eq_some_iff.1 hi; simp only [Prod.mk.injEq] at hzz; rw [hi]; simp [hzz.2.1]) D A m cap n' c hd hs g off (u8s cur) t hg (u8s l) (by simp only [List.length_map, hl]; exact hn)
    (fun hp => ?_) (by simp [hl]; exact hcur) (u8s_one l) g w (Below.refl _ _) (Nat.le_refl _) (fun w' hw' hb => ?_)
  · have h0 : 0 < n := by simpa [hl] using hp
    obtain ⟨b, o', rfl, _, hc⟩ := hB.at_ h0
    refine ⟨hD h0, _, rfl, fun j v hj => ?_⟩
    obtain ⟨x, hx, rfl⟩ := u8s_get hj
    rw [Addr.add_lit]
    exact hc j x hx
  · have hsp : splice (u8s cur) off (u8s l) = u8s (cur.take off ++ (l ++ cur.drop (off + n))) := by
      unfold splice
      simp [u8s, hl]
    have hh := hw'.out
    rw [hsp] at hh
    have := h w' (Lib.hid hh) hb
    simpa [hl, goInt] using this
/-- noughts, as make lays them -/
theorem zero_cells (r : Nat) : Array.replicate r (Value.int .u8 0) = (u8s (List.replicate r 0)).toArray := by simp [u8s]
/-- make([]byte, k) -/
theorem mk_zeros (x : Int) (k : Nat) (hx : x = (k : Int)) (hk : k ≤ 140737488355328) : ∃ Z : List UInt8, Hid (Z = List.replicate k 0) ∧ Z.length = k ∧ ∀ w : World, (Instr.makeSlice 22 (.int .i64 x) (.int .i64 x)).run Tryd.prog w = .ok (.slice (some ⟨w.heap.size, 0, none⟩) k k) (w.alloc (.cells (u8s Z).toArray 5)) := by
  subst hx
  refine ⟨List.replicate k 0, Lib.hid rfl, by simp, fun w => ?_⟩
  rw [← zero_cells]
  exact run_mk 22 5 Tryd.underlying22 byteInfo k k (Nat.le_refl _) (by omega) w
theorem Calls.quiet_sym {P : Program} {f : FuncId} {args : Array Value} {w : World} {n : Nat} {v : Value}
    (h : Calls P f args (w.drewN n) fun e w' => e = .returned v ∧ w.drewN n = w') : Calls P f args (w.drewN n) fun e w'' => e = .returned v ∧ ∃ m, w'' = w.drewN m :=
  h.mono fun _ _ ⟨he, hm⟩ => ⟨he, n, hm.symm⟩
theorem Bs.drop {w : World} {A : Option Addr} {n c : Nat} {l : List UInt8} (h : Bs w A n c l) {i : Nat} (hi : i ≤ n) : Bs w (if c = i then A else A.map (·.add i)) (n - i) (c - i) (l.drop i) := by
  have := h.cut (i := i) (j := n) hi (Nat.le_refl _)
  rwa [List.take_of_length_le (by rw [h.len]; exact Nat.le_refl _)] at this
theorem bits_index (at_ : Int) (n : Nat) (h0 : 0 < n) (h1 : n ≤ 1099511627776) : ∃ i : Nat, i < n ∧ wrap64 ((IntKind.u64.wrap at_).tmod (n : Int)) = (i : Int) := by
  have h2 : 0 ≤ IntKind.u64.wrap at_ := by simp [IntKind.wrap, IntKind.signed]; omega
  generalize IntKind.u64.wrap at_ = u at *
  have h3 : 0 ≤ u.tmod (n : Int) := Int.tmod_nonneg _ h2
  have h4 : u.tmod (n : Int) < (n : Int) := Int.tmod_lt_of_pos _ (by omega)
  refine ⟨(u.tmod (n : Int)).toNat, by omega, ?_⟩
  rw [IntWalk.wrap64_in _ (by omega)]
  omega
/-- what a law comes to -/
def True_ (w : World) (e : Ending) (w' : World) : Prop := e = .returned (.bool true) ∧ Below w.heap.size w w'
end Go.Proofs.YtncohbnlbjmadaaDoor
