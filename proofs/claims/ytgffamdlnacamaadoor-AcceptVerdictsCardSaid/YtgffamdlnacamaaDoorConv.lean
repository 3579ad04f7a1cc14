/- '[]byte(s)' of a text, and 'append' onto it. -/
import Derived.Test.YtgffamdlnacamaaDoorBase
import Derived.Test.YtgffamdlnacamaaDoorHeld
import Derived.Lib.ConvBytes
import Derived.Deep.AppendSrc
namespace Go.Proofs.YtgffamdlnacamaaDoor
open Go.RowKit

theorem Below.setCells {B : Nat} {w : World} {g : Nat} (hg : B ≤ g) : ∀ (vs : List Value) (o : Nat) (W : World), Below B w W → Below B w (W.setCells g o vs)
  | [], _, _, h => h
  | v :: r, o, W, h => Below.setCells hg r (o + 1) (W.setCell ⟨g, o, none⟩ v) (h.setCell (p := ⟨g, o, none⟩) hg v)

theorem txt_app (a b : List UInt8) : txt a ++ txt b = txt (a ++ b) := by
  apply ByteArray.ext
  simp [txt]
theorem txt_size (a : List UInt8) : (txt a).size = a.length := by simp [ByteArray.size]

/-- a row that a text's conversion made: the bytes, and room behind them -/
structure Conv (W : World) (base n cap g : Nat) (xs : List UInt8) : Prop where
  hb : base ≤ g
  hg : g < W.heap.size
  hn : xs.length = n
  hc : n ≤ cap
  hm : cap ≤ maxLen
  cell : ∀ i x, xs[i]? = some x → W.cell? ⟨g, i, none⟩ = some (u8 x)
  there : ∀ j, j < cap → (W.cell? ⟨g, j, none⟩).isSome = true
  free : ∀ j, j < cap → W.frozen? ⟨g, j, none⟩ = false

theorem Conv.below {W W' : World} {base n cap g : Nat} {xs : List UInt8} (h : Conv W base n cap g xs) (hb : Below W.heap.size W W') : Conv W' base n cap g xs := by
  have hc : ∀ j, W'.cell? ⟨g, j, none⟩ = W.cell? ⟨g, j, none⟩ := fun j => hb.cell (p := ⟨g, j, none⟩) h.hg
  refine ⟨h.hb, Nat.lt_of_lt_of_le h.hg hb.size, h.hn, h.hc, h.hm, fun i x hx => by rw [hc]; exact h.cell i x hx, fun j hj => by rw [hc]; exact h.there j hj, fun j hj => ?_⟩
  have := h.free j hj
  unfold World.frozen? at this ⊢
  rw [hb.block g h.hg]
  exact this

section
variable {P : Program}

theorem Conv.bs {W : World} {base n cap g : Nat} {xs : List UInt8} (h : Conv W base n cap g xs) : Bs W (some ⟨g, 0, none⟩) n cap xs :=
  ⟨h.hn, h.hc, h.hm, fun _ => ⟨g, 0, rfl, fun i x hx => by rw [Nat.zero_add]; exact h.cell i x hx⟩⟩

theorem conv_run (w : World) (src dst e : TypeId) (s : ByteArray) {u : TypeDesc} (hs : P.underlying src = some u) (hd : P.underlying dst = some (.slice e)) (he : P.underlying e = some (.int .u8)) (base : Nat) (hb : base ≤ w.heap.size) (hl : s.size ≤ maxLen) :
    ∃ cap W, (convert src dst (.string s)).run P w = .ok (.slice (some ⟨w.heap.size, 0, none⟩) s.size cap) W ∧ Conv W base s.size cap w.heap.size s.data.toList ∧ Below w.heap.size w W := by
  refine ⟨_, _, Lib.run_convert_string_bytes w src dst e s hs hd he, ⟨hb, ?_, ?_, grownCap_ge _ _ _ _, grownCap_le_maxLen _ _ _ _ hl, ?_, ?_, ?_⟩, ?_⟩
  · rw [Lib.bytesWorld_size]; omega
  · rw [Array.length_toList]; rfl
  · intro i x hx
    have hi := (List.getElem?_eq_some_iff.1 hx).1
    rw [Lib.bytesWorld_cell w e s i (by rw [Array.length_toList] at hi; exact hi), List.getD_eq_getElem?_getD, hx]
    rfl
  · intro j hj
    have hge := grownCap_ge w s.size 0 e
    have hz : (Lib.bytesCells w e s).size = grownCap w s.size 0 e := by
      simp only [Lib.bytesCells, Array.size_append, Array.size_map, Array.size_replicate]
      have : s.data.size = s.size := rfl
      omega
    rw [cell_of_row _ _ _ _ _ _ (Lib.bytesWorld_at_new w e s), Array.getElem?_eq_getElem (by omega)]
    rfl
  · intro j hj
    have hge := grownCap_ge w s.size 0 e
    have hz : (Lib.bytesCells w e s).size = grownCap w s.size 0 e := by
      simp only [Lib.bytesCells, Array.size_append, Array.size_map, Array.size_replicate]
      have : s.data.size = s.size := rfl
      omega
    simp only [World.frozen?, Lib.bytesWorld_at_new w e s, Bool.and_eq_false_iff, decide_eq_false_iff_not]
    left
    omega
  · refine ⟨rfl, rfl, rfl, ?_, fun k hk => Lib.bytesWorld_at_old w e s k hk⟩
    rw [Lib.bytesWorld_size]; omega

theorem conv_list (w : World) (src dst e : TypeId) (l : List UInt8) (N : Nat) {u : TypeDesc} (hs : P.underlying src = some u) (hd : P.underlying dst = some (.slice e)) (he : P.underlying e = some (.int .u8)) (hN : l.length = N) (hl : N ≤ maxLen) :
    ∃ cap W, (convert src dst (.string (txt l))).run P w = .ok (.slice (some ⟨w.heap.size, 0, none⟩) N cap) W ∧ Conv W w.heap.size N cap w.heap.size l ∧ Below w.heap.size w W := by
  have h := conv_run (P := P) w src dst e (txt l) hs hd he w.heap.size (Nat.le_refl _) (by rw [txt_size, hN]; exact hl)
  rwa [txt_size, hN] at h

theorem Bs.src (src e : TypeId) (hs : P.underlying src = some (.slice e)) {W : World} {A : Option Addr} {m c : Nat} {l : List UInt8} (h : Bs W A m c l) : Src P 1 src (.slice A m c) m (u8s l) W := by
  have hlen := h.len
  rcases A with _ | a
  · have hm : m = 0 := by
      rcases Nat.eq_zero_or_pos m with h0 | h0
      · exact h0
      · obtain ⟨b, o, e, _⟩ := h.2.2.2 h0
        cases e
    subst hm
    obtain rfl := h.empty
    exact Src.ofNil W hs c
  · refine Src.ofSlice W hs a m c (u8s l) (by simp [hlen]) (fun j u hu => ?_) (u8s_one l)
    obtain ⟨x, hx, rfl⟩ := u8s_get hu
    have hm : 0 < m := by have := (List.getElem?_eq_some_iff.1 hx).1; omega
    obtain ⟨b, o, e, _, hc⟩ := h.at_ hm
    injection e with e
    subst e
    rw [Addr.add_lit]
    exact hc j x hx

/-- 'append(row, x...)' -/
theorem Conv.app (t ty e : TypeId) (ht : P.underlying t = some (.slice e)) (hi : (P.info? e).map (fun i => (i.zero, i.size, i.bytes)) = some (some (.int .u8 0), 1, 1))
    {W : World} {base n cap g : Nat} {xs : List UInt8} (h : Conv W base n cap g xs) {A : Option Addr} {m c : Nat} {l : List UInt8} (hl : Bs W A m c l) (hb : base ≤ W.heap.size) (hbytes : n + m ≤ 140737488355328) :
    ∃ B c' W', (Builtin.append_ #[t, t] ty #[.slice (some ⟨g, 0, none⟩) n cap, .slice A m c]).run P W = .ok (.slice B (n + m) c') W' ∧ Bs W' B (n + m) c' (xs ++ l) ∧ Below base W W' := by
  obtain ⟨i, hi, hzz⟩ := Option.map_eq_some_iff.1 hi
  simp only [Prod.mk.injEq] at hzz
  obtain ⟨hz, hsz, hby⟩ := hzz
  have hs := Bs.src (P := P) t e ht hl
  have hlen := hl.len
  have hul : (u8s l).length = m := by simp [hlen]
  by_cases hroom : n + m ≤ cap
  · have hr := run_append_room_src (P := P) W t t ty e i ht hi g 0 n cap (.slice A m c) m (u8s l) (by rw [hsz]; exact hs) hroom
      (fun j hj => by rw [hsz]; exact h.there _ (by omega)) (fun j hj => by rw [hsz]; exact h.free _ (by omega))
    refine ⟨_, _, _, hr, ⟨by rw [List.length_append, h.hn, hlen], hroom, h.hm, fun _ => ⟨g, 0, rfl, fun k x hx => ?_⟩⟩, Below.setCells h.hb _ _ _ (Below.refl _ _)⟩
    rw [hsz, Nat.mul_one, Nat.zero_add, Nat.zero_add]
    by_cases hk : k < n
    · rw [List.getElem?_append_left (by rw [h.hn]; exact hk)] at hx
      rw [World.cell?_setCells_out g _ _ _ _ (fun _ _ => .inl hk)]
      exact h.cell k x hx
    · rw [List.getElem?_append_right (by rw [h.hn]; omega), h.hn] at hx
      have hk2 := (List.getElem?_eq_some_iff.1 hx).1
      have hin := World.cell?_setCells_in g (u8s l) n W (fun j hj => h.there _ (by omega)) (k - n) (by omega)
      rw [show n + (k - n) = k from by omega] at hin
      rw [hin]
      congr 1
      rw [List.getElem_map]
      rw [List.getElem?_eq_getElem hk2] at hx
      injection hx with hx
      rw [hx]
  · have hold : (Builtin.firstCells i.size n (.slice (some ⟨g, 0, none⟩) n cap)).run P W.drew = .ok (u8s xs).toArray W.drew := by
      rw [hsz]
      exact run_firstCells_some (P := P) W.drew 1 n ⟨g, 0, none⟩ n cap (u8s xs) (by simp [h.hn]) (fun j u hu => by
        obtain ⟨x, hx, rfl⟩ := u8s_get hu
        rw [Addr.add_lit, Nat.zero_add]
        exact h.cell j x hx)
    have hr := run_append_grow_src (P := P) W t t ty e i (.int .u8 0) ht hi hz (some ⟨g, 0, none⟩) n cap (u8s xs) hold (.slice A m c) m (u8s l) (by rw [hsz]; exact hs) (by omega) (by omega)
      (growslice_fits (by omega) (by rw [hby]; omega))
    refine ⟨_, _, _, hr, Bs.of_block (g := W.heap.size) (t := e) (f := (0, 0)) (cur := u8s (xs ++ l) ++ (Builtin.zeroCells (Value.int .u8 0).cells (grownCap W (n + m) cap e - (n + m))).toList) ?_ ?_ (by rw [List.length_append, h.hn, hlen]) (grownCap_ge _ _ _ _) (grownCap_le_maxLen _ _ _ _ (by simp only [maxLen]; omega)), ((Below.refl base W).drew).alloc (by simpa using hb) _⟩
    · rw [show (W.drew.alloc (.cells ((u8s xs ++ u8s l).toArray ++ Builtin.zeroCells (Value.int .u8 0).cells (grownCap W (n + m) cap e - (n + m))) e)).heap[W.heap.size]? = _ from heap_alloc_new W.drew _]
      congr 2
      apply Array.ext'
      simp
    · rw [List.take_append_of_le_length (by simp), List.take_of_length_le (by simp)]

theorem wpList_appC {ops : Array Oper} {rest : List Oper} {o : Oper} {a : Act} {Q : Exit → Act → World → Prop} {W : World} (hgd : o.guard = none) (s x : Operand) (t : TypeId)
    (ho : o.op = .call { callee := .builtin .append, args := #[s, x], argTypes := #[t, t] }) (e : TypeId) (ht : P.underlying t = some (.slice e)) (hi : (P.info? e).map (fun i => (i.zero, i.size, i.bytes)) = some (some (.int .u8 0), 1, 1))
    {base n cap g : Nat} {xs : List UInt8} (hs : a.eval s = .slice (some ⟨g, 0, none⟩) n cap) (hC : Conv W base n cap g xs) {A : Option Addr} {m c : Nat} {l : List UInt8} (hx : a.eval x = .slice A m c) (hl : Bs W A m c l) (hb : base ≤ W.heap.size) (hbytes : n + m ≤ 140737488355328)
    (h : ∀ B c' W', Bs W' B (n + m) c' (xs ++ l) → Below base W W' → wpList P ops Q rest (a.put o.dst (.slice B (n + m) c')) W') : wpList P ops Q (o :: rest) a W :=
  wpList_plain hgd fun K hK => by
    obtain ⟨B, c', W', hrun, h2, h3⟩ := Conv.app (P := P) t o.type e ht hi hC hl hb hbytes
    unfold Oper.wp execOp
    simp only [ho, resolve, invoke, builtin, Sem.run_bind, Sem.run_pure, Result.andThen_ok, List.map_toArray, List.map_cons, List.map_nil, hs, hx, hrun]
    exact hK _ _ (h B c' W' h2 h3)
end

end Go.Proofs.YtgffamdlnacamaaDoor
