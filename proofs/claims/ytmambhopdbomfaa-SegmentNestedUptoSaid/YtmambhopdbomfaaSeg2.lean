/- Layer 8: how many texts, the n-th, walked. -/
import Derived.Test.YtmambhopdbomfaaSeg1
namespace Go.Proofs.Ytmambhopdbomfaa
open Go.RowKit Go.Shelf
attribute [local go_sem] Oper.semAt_some

theorem cell_of_box_l {W : World} {B : Nat} {v : Value} {t : TypeId} (h : W.heap[B]? = some (.cells #[v] t (0, 0))) : W.cell? ⟨B, 0, none⟩ = some v ∧ W.frozen? ⟨B, 0, none⟩ = false := by
  constructor <;> simp [World.cell?, World.frozen?, h]
theorem cell_new_l (W : World) (v : Value) (t : TypeId) : (W.alloc (.cells #[v] t)).cell? ⟨W.heap.size, 0, none⟩ = some v ∧ (W.alloc (.cells #[v] t)).frozen? ⟨W.heap.size, 0, none⟩ = false := cell_of_box_l (World.alloc_heap_new W _)
theorem cell_alloc_l {W : World} {a : Addr} {v : Value} (o : Obj) (h : W.cell? a = some v) : (W.alloc o).cell? a = some v := cell_kept h (World.grownBy_alloc W o none) (fun r e => by cases e)
theorem frozen_alloc_l {W : World} {a : Addr} {v : Value} (o : Obj) (h : W.cell? a = some v) (hf : W.frozen? a = false) : (W.alloc o).frozen? a = false := (frozen_kept h (World.grownBy_alloc W o none) (fun r e => by cases e)).trans hf

set_option maxHeartbeats 4000000 in
set_option maxRecDepth 100000 in
theorem howMany_w (s : ByteArray) (c : UInt8) (w : World) (hs : s.size ≤ 9223372036854775807) : Calls Try.prog 33 #[.string s, u8 c] w fun e w' => e = .returned (.int .i64 (wrap64 ((cutAt c s.data.toList).length : Nat))) ∧ Below w.heap.size w w' := by
  refine (callsIn_wide (n := 9)).1 ?_
  have HS := Lib.hid hs
  clear hs
  refine callsIn_of_wp_marks Try.func33 rfl trivial ?_ rfl
  simp only [Try.ntmps33, List.size_toArray, List.length_cons, List.length_nil, Nat.reduceAdd, Nat.reduceSub, Array.replicate_succ, Array.replicate_zero, List.push_toArray, List.append_toArray, List.nil_append, List.cons_append]
  gi_wp2
  refine ⟨trivial, (callsIn_wide.2 (texts_ s c _)).mono ?_⟩
  rintro e w1 ⟨rfl, rfl⟩
  gi_wp2
  obtain ⟨N, hN⟩ : ∃ N, N = w.heap.size := ⟨_, rfl⟩
  obtain ⟨W0, hW0⟩ : ∃ W0, ((w.alloc (.cells #[.int .i64 0] 3)).alloc (.cells #[.string s] 9)).alloc (.cells #[u8 c] 5) = W0 := ⟨_, rfl⟩
  have cn : W0.cell? ⟨N, 0, none⟩ = some (.int .i64 0) := by rw [← hW0, hN]; exact cell_alloc_l _ (cell_alloc_l _ (cell_new_l w (.int .i64 0) 3).1)
  have fz : W0.frozen? ⟨N, 0, none⟩ = false := by rw [← hW0, hN]; exact frozen_alloc_l _ (cell_alloc_l _ (cell_new_l w (.int .i64 0) 3).1) (frozen_alloc_l _ (cell_new_l w (.int .i64 0) 3).1 (cell_new_l w (.int .i64 0) 3).2)
  have cs : W0.cell? ⟨N + 1, 0, none⟩ = some (.string s) := by
    have := (cell_new_l (w.alloc (.cells #[.int .i64 0] 3)) (.string s) 9).1
    rw [World.size_alloc] at this
    rw [← hW0, hN]; exact cell_alloc_l _ this
  have cc : W0.cell? ⟨N + 1 + 1, 0, none⟩ = some (u8 c) := by
    have := (cell_new_l ((w.alloc (.cells #[.int .i64 0] 3)).alloc (.cells #[.string s] 9)) (u8 c) 5).1
    rw [World.size_alloc, World.size_alloc] at this
    rw [← hW0, hN]; exact this
  have hsz : W0.heap.size = N + 3 := by rw [← hW0, hN]; simp
  have hb0 : Below N w W0 := by rw [← hW0, hN]; exact (((Below.refl _ w).alloc (Nat.le_refl _) _).alloc (by simp) _).alloc (by simp; omega) _
  rw [hW0, ← hN]
  have HN := Lib.hid hN
  clear hW0 hN
  refine wpIn_rangeFunc_ownF rfl (by decide) (gf := 39) (lb := #[.pointer (some ⟨N + 1, 0, none⟩), .pointer (some ⟨N + 1 + 1, 0, none⟩)]) rfl trivial (enters_of Try.func39 (by kernel_rfl) rfl)
    (texts_stops _ (by decide) (N + 1) (N + 1 + 1) s c HS.out cs cc (by omega) (by omega)) keepsB_t (keepsB_b (by omega)) (Below.refl _ _) (fun _ => rfl)
    (fun pre W => (W.cell? ⟨N, 0, none⟩ = some (.int .i64 (wrap64 ((pre.length : Nat) : Int))) ∧ W.frozen? ⟨N, 0, none⟩ = false) ∧ Below N w W)
    (fun _ _ _ => False)
    (OwnFrom.and (Own.from (fun s A B row hs hg hr => ⟨cell_kept hs.1 hg hr, (frozen_kept hs.1 hg hr).trans hs.2⟩) _) (ownFrom_below (by rw [HN.out]; exact Nat.le_refl _) (by omega)))
    (fun _ _ _ _ _ hs _ _ => hs)
    ⟨⟨by rw [show wrap64 ((([] : List (List UInt8)).length : Nat) : Int) = 0 from by simp [wrap64]]; exact cn, fz⟩, hb0⟩
    (fun x => { tmps := #[.string s, u8 c, undef, undef, .int .i64 0, .pointer (some ⟨N, 0, none⟩), .string s, u8 c, .func (.func 39) #[] #[.pointer (some ⟨N + 1, 0, none⟩), .pointer (some ⟨N + 1 + 1, 0, none⟩)], str x, undef, undef, undef], defers := [] }) ?assign ?body ?done ?stop
  case assign =>
    intro l x W K hK
    gi_wp2
    simpa using hK
  case body =>
    rintro l pre x W ⟨⟨hc, hf⟩, hB⟩ hlt
    obtain ⟨m, hm⟩ : ∃ m : Int, wrap64 ((pre.length : Nat) : Int) = m := ⟨_, rfl⟩
    have ew : IntKind.i64.wrap (m + 1) = wrap64 ((pre.length + 1 : Nat) : Int) := by rw [← hm, IntKind.wrap_i64]; unfold wrap64; omega
    rw [hm] at hc
    have hc1 : m + 1 = m + 1 := rfl
    clear hm hc1
    gi_wp2
    exact ⟨KeepsOthers.setCell _ _ _, (KeepsB.refl _ _).setCell (p := ⟨N, 0, none⟩) (by simp; omega) _, ⟨by rw [List.length_append]; exact World.cell?_setCell_same' _ _ _ (by rw [hc]; rfl), by rw [World.frozen?_setCell]; exact hf⟩, hB.setCell (p := ⟨N, 0, none⟩) (Nat.le_refl _) _⟩
  case done =>
    rintro D ys W hD rfl ⟨⟨hc, _⟩, hB⟩ hK
    gi_wp2
    refine ⟨by simp, .inl ⟨_, _, rfl, run_takeDeferred hK, ?_⟩⟩
    have hfin : Below N w (W.putObj D (.deferred none)) := hB.trans (belowK_b (w := W0) (by omega) W D _ _ (by omega) hK rfl rfl)
    rw [HN.out] at hfin
    exact ⟨_, results_tmp rfl _ _ _, rfl, hfin⟩
  case stop =>
    rintro D c pre W _ _ h _
    exact h.elim
theorem howMany_ (s : ByteArray) (c : UInt8) (w : World) (hs : s.size ≤ 9223372036854775806) : Calls Try.prog 33 #[.string s, u8 c] w fun e w' => e = .returned (.int .i64 ((cutAt c s.data.toList).length : Nat)) ∧ Below w.heap.size w w' := by
  have h := howMany_w s c w (by omega)
  rw [IntWalk.wrap64_in _ (by rw [cutAt_length]; have := List.count_le_length (a := c) (l := s.data.toList); have h2 : s.data.toList.length = s.size := by simp
                              omega)] at h
  exact h
end Go.Proofs.Ytmambhopdbomfaa
