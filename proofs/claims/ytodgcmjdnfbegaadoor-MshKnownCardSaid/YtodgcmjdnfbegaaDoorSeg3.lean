/- Layer 8: the n-th text, walked. -/
import Derived.Test.YtodgcmjdnfbegaaDoorSeg2
namespace Go.Proofs.YtodgcmjdnfbegaaDoor
open Go.RowKit Go.Shelf
attribute [local go_sem] Oper.semAt_some

/-- the n-th of them, from 1 on -/
def nthD (T : List (List UInt8)) (n : Int) : Option (List UInt8) := if 1 ≤ n then T[(n - 1).toNat]? else none

theorem nthD_last {T pre : List (List UInt8)} {x : List UInt8} {n : Int} (hp : pre ++ [x] <+: T) (hn : ((pre.length + 1 : Nat) : Int) = n) : nthD T n = some x := by
  obtain ⟨r, rfl⟩ := hp
  unfold nthD
  rw [if_pos (by omega), show (n - 1).toNat = pre.length by omega]
  simp
theorem nthD_none {T : List (List UInt8)} {n : Int} (h : ¬ (1 ≤ n ∧ n ≤ (T.length : Int))) : nthD T n = none := by
  unfold nthD
  split
  · exact List.getElem?_eq_none (by omega)
  · rfl

/-- what nth's cells hold in a round -/
structure NthI (N : Nat) (n : Int) (v1 : Value) (b : Bool) (k : Nat) (W : World) : Prop where
  bn : Boxed W N 3 (.int .i64 n)
  b1 : Boxed W (N + 1) 9 v1
  b2 : Boxed W (N + 1 + 1) 4 (.bool b)
  bk : Boxed W (N + 1 + 1 + 1) 3 (.int .i64 ((k : Nat) : Int))

theorem nthI_own {β : Type} (N : Nat) (n : Int) (v1 : β → Value) (b : Bool) (k : β → Nat) : Go.Own (fun (s : β) W => NthI N n (v1 s) b (k s) W) := fun s A B row hs hg hr =>
  ⟨boxed_own (β := β) N _ (fun _ => _) s A B row hs.bn hg hr, boxed_own (β := β) (N + 1) _ v1 s A B row hs.b1 hg hr, boxed_own (β := β) (N + 1 + 1) _ (fun _ => _) s A B row hs.b2 hg hr, boxed_own (β := β) (N + 1 + 1 + 1) _ (fun s => .int .i64 ((k s : Nat) : Int)) s A B row hs.bk hg hr⟩

theorem NthI.count {N : Nat} {n : Int} {v : Value} {b : Bool} {k : Nat} {W : World} (h : NthI N n v b k W) : NthI N n v b (k + 1) (W.setCell ⟨N + 1 + 1 + 1, 0, none⟩ (.int .i64 ((k : Int) + 1))) :=
  ⟨h.bn.other (by omega) _, h.b1.other (by omega) _, h.b2.other (by omega) _, h.bk.set _⟩
theorem NthI.tell {N : Nat} {n : Int} {v : Value} {b : Bool} {k : Nat} {W : World} (h : NthI N n v b k W) (v' : Value) (b' : Bool) : NthI N n v' b' k ((W.setCell ⟨N + 1, 0, none⟩ v').setCell ⟨N + 1 + 1, 0, none⟩ (.bool b')) :=
  ⟨(h.bn.other (by omega) _).other (by omega) _, (h.b1.set _).other (by omega) _, (h.b2.other (by omega) _).set _, (h.bk.other (by omega) _).other (by omega) _⟩
theorem getLastD_snoc (pre : List (List UInt8)) (x : List UInt8) : (pre ++ [x]).getLastD [] = x := by simp [List.getLastD_eq_getLast?]

set_option maxHeartbeats 4000000 in
set_option maxRecDepth 100000 in
theorem nth_ (s : ByteArray) (c : UInt8) (n : Int) (w : World) (hs : s.size ≤ 9223372036854775806) : Calls Tryd.prog 40 #[.string s, u8 c, .int .i64 n] w fun e w' => e = .returned (.tuple #[str ((nthD (cutAt c s.data.toList) n).getD []), .bool (nthD (cutAt c s.data.toList) n).isSome]) ∧ Below w.heap.size w w' := by
  refine (callsIn_wide (n := 9)).1 ?_
  have HS := Lib.hid hs
  have HL : Hid ((cutAt c s.data.toList).length ≤ 9223372036854775807) := Lib.hid (by rw [cutAt_length]; have := List.count_le_length (a := c) (l := s.data.toList); have := s.size_data; simp at *; omega)
  clear hs
  refine callsIn_of_wp_marks Tryd.func40 rfl trivial ?_ rfl
  simp only [Tryd.ntmps40, List.size_toArray, List.length_cons, List.length_nil, Nat.reduceAdd, Nat.reduceSub, Array.replicate_succ, Array.replicate_zero, List.push_toArray, List.append_toArray, List.nil_append, List.cons_append]
  gi_wp2
  refine ⟨trivial, (callsIn_wide.2 (texts_ s c _)).mono ?_⟩
  rintro e w1 ⟨rfl, rfl⟩
  gi_wp2
  obtain ⟨N, hN⟩ : ∃ N, N = w.heap.size := ⟨_, rfl⟩
  obtain ⟨W0, hW0⟩ : ∃ W0, ((((((w.alloc (.cells #[.int .i64 n] 3)).alloc (.cells #[.string { data := #[] }] 9)).alloc (.cells #[.bool false] 4)).alloc (.cells #[.int .i64 0] 3)).alloc (.cells #[.string s] 9)).alloc (.cells #[u8 c] 5)) = W0 := ⟨_, rfl⟩
  have hI0 : NthI N n (.string { data := #[] }) false 0 W0 := by
    rw [← hW0, hN]
    refine ⟨(((((Boxed.new w 3 _).alloc _).alloc _).alloc _).alloc _).alloc _, ?_, ?_, ?_⟩
    · have := Boxed.new (w.alloc (.cells #[.int .i64 n] 3)) 9 (.string { data := #[] })
      rw [World.size_alloc] at this
      exact (((this.alloc _).alloc _).alloc _).alloc _
    · have := Boxed.new ((w.alloc (.cells #[.int .i64 n] 3)).alloc (.cells #[.string { data := #[] }] 9)) 4 (.bool false)
      rw [World.size_alloc, World.size_alloc] at this
      exact ((this.alloc _).alloc _).alloc _
    · have := Boxed.new (((w.alloc (.cells #[.int .i64 n] 3)).alloc (.cells #[.string { data := #[] }] 9)).alloc (.cells #[.bool false] 4)) 3 (.int .i64 0)
      rw [World.size_alloc, World.size_alloc, World.size_alloc] at this
      exact (this.alloc _).alloc _
  have cs : Boxed W0 (N + 1 + 1 + 1 + 1) 9 (.string s) := by
    have := Boxed.new ((((w.alloc (.cells #[.int .i64 n] 3)).alloc (.cells #[.string { data := #[] }] 9)).alloc (.cells #[.bool false] 4)).alloc (.cells #[.int .i64 0] 3)) 9 (.string s)
    simp only [World.size_alloc] at this
    rw [← hW0, hN]; exact this.alloc _
  have cc : Boxed W0 (N + 1 + 1 + 1 + 1 + 1) 5 (u8 c) := by
    have := Boxed.new (((((w.alloc (.cells #[.int .i64 n] 3)).alloc (.cells #[.string { data := #[] }] 9)).alloc (.cells #[.bool false] 4)).alloc (.cells #[.int .i64 0] 3)).alloc (.cells #[.string s] 9)) 5 (u8 c)
    simp only [World.size_alloc] at this
    rw [← hW0, hN]; exact this
  have hsz : W0.heap.size = N + 6 := by rw [← hW0, hN]; simp
  have hb0 : Below N w W0 := by
    rw [← hW0, hN]
    exact ((((((Below.refl _ w).alloc (Nat.le_refl _) _).alloc (by simp) _).alloc (by simp; omega) _).alloc (by simp; omega) _).alloc (by simp; omega) _).alloc (by simp; omega) _
  rw [hW0, ← hN]
  have HN := Lib.hid hN
  clear hW0 hN
  refine wpIn_rangeFunc_ownF rfl (by decide) (gf := 65) (lb := #[.pointer (some ⟨N + 1 + 1 + 1 + 1, 0, none⟩), .pointer (some ⟨N + 1 + 1 + 1 + 1 + 1, 0, none⟩)]) rfl trivial (enters_of Tryd.func65 (by kernel_rfl) rfl)
    (texts_stops _ (by decide) (N + 1 + 1 + 1 + 1) (N + 1 + 1 + 1 + 1 + 1) s c (by have := HS.out; omega) cs.cell cc.cell (by omega) (by omega)) keepsB_t (keepsB_b (by omega)) (Below.refl _ _) (fun _ => rfl)
    (fun pre W => (NthI N n (.string { data := #[] }) false pre.length W ∧ Below N w W) ∧ ¬ (1 ≤ n ∧ n ≤ (pre.length : Int)))
    (fun c pre W => (NthI N n (str (pre.getLastD [])) true pre.length W ∧ Below N w W) ∧ c = .ret ∧ ((pre.length : Nat) : Int) = n ∧ pre ≠ [])
    (OwnFrom.and (OwnFrom.and (Own.from (nthI_own N n (fun _ => .string { data := #[] }) false (fun pre : List (List UInt8) => pre.length)) _) (ownFrom_below (by rw [HN.out]; exact Nat.le_refl _) (by omega))) (ownFrom_pure _ _))
    (fun c => OwnFrom.and (OwnFrom.and (Own.from (nthI_own N n (fun pre : List (List UInt8) => str (pre.getLastD [])) true (fun pre : List (List UInt8) => pre.length)) _) (ownFrom_below (by rw [HN.out]; exact Nat.le_refl _) (by omega))) (ownFrom_pure _ _))
    ⟨⟨hI0, hb0⟩, by simp; omega⟩
    (fun x => { tmps := #[.string s, u8 c, .int .i64 n, undef, undef, .pointer (some ⟨N, 0, none⟩), .pointer (some ⟨N + 1, 0, none⟩), .pointer (some ⟨N + 1 + 1, 0, none⟩), .pointer (some ⟨N + 1 + 1 + 1, 0, none⟩), str x, .string s, u8 c, .func (.func 65) #[] #[.pointer (some ⟨N + 1 + 1 + 1 + 1, 0, none⟩), .pointer (some ⟨N + 1 + 1 + 1 + 1 + 1, 0, none⟩)], str x, undef, undef, undef, undef, undef, undef], defers := [] }) ?assign ?body ?done ?stop
  case assign =>
    intro l x W K hK
    gi_wp2
    simpa using hK
  case body =>
    rintro l pre x W ⟨⟨hI, hB⟩, hno⟩ hlt
    have ew : IntKind.i64.wrap ((pre.length : Int) + 1) = ((pre.length + 1 : Nat) : Int) := by have := HL.out; rw [IntKind.wrap_i64]; omega
    have hcn := hI.bn.cell
    have hc1 := hI.b1.cell
    have hf1 := hI.b1.frozen
    have hc2 := hI.b2.cell
    have hf2 := hI.b2.frozen
    have hck := hI.bk.cell
    have hfk := hI.bk.frozen
    have HI := Lib.hid hI
    have HB := Lib.hid hB
    have HNO := Lib.hid hno
    clear hI hB hno
    by_cases he : ((pre.length + 1 : Nat) : Int) = n
    · have d : (((pre.length + 1 : Nat) : Int) == n) = true := by simpa using he
      have HE := Lib.hid he
      clear he
      gi_wp2
      exact ⟨((KeepsOthers.setCell _ _ _).trans (KeepsOthers.setCell _ _ _)).trans (KeepsOthers.setCell _ _ _), ⟨by have h1 := (HI.out.count).tell (str x) true; rw [getLastD_snoc, List.length_append]; exact h1, ((HB.out.setCell (p := ⟨N + 1 + 1 + 1, 0, none⟩) (by simp; omega) _).setCell (p := ⟨N + 1, 0, none⟩) (by simp) _).setCell (p := ⟨N + 1 + 1, 0, none⟩) (by simp; omega) _⟩, rfl, by rw [List.length_append]; exact HE.out, by simp⟩
    · have d : (((pre.length + 1 : Nat) : Int) == n) = false := by simpa using he
      have HE := Lib.hid he
      clear he
      gi_wp2
      exact ⟨KeepsOthers.setCell _ _ _, (KeepsB.refl _ _).setCell (p := ⟨N + 1 + 1 + 1, 0, none⟩) (by simp; omega) _, ⟨by have h1 := HI.out.count; rw [List.length_append]; exact h1, HB.out.setCell (p := ⟨N + 1 + 1 + 1, 0, none⟩) (by simp; omega) _⟩, by have h1 := HNO.out; have h2 := HE.out; rw [List.length_append]; simp only [List.length_cons, List.length_nil]; omega⟩
  case done =>
    rintro D ys W hD rfl ⟨⟨hI, hB⟩, hno⟩ hK
    have hc1 := hI.b1.cell
    have hf1 := hI.b1.frozen
    have hc2 := hI.b2.cell
    have hf2 := hI.b2.frozen
    gi_wp2
    have hq := hI.tell (.string { data := #[] }) false
    have hB2 : Below N w ((W.setCell ⟨N + 1, 0, none⟩ (.string { data := #[] })).setCell ⟨N + 1 + 1, 0, none⟩ (.bool false)) := (hB.setCell (p := ⟨N + 1, 0, none⟩) (by simp) _).setCell (p := ⟨N + 1 + 1, 0, none⟩) (by simp; omega) _
    have hK2 : ((W.setCell ⟨N + 1, 0, none⟩ (.string { data := #[] })).setCell ⟨N + 1 + 1, 0, none⟩ (.bool false)).heap[D]? = some (.deferred (some [])) := ((KeepsOthers.setCell _ _ _).trans (KeepsOthers.setCell _ _ _)).same D _ hK rfl
    rw [nthD_none hno]
    generalize (W.setCell ⟨N + 1, 0, none⟩ (.string { data := #[] })).setCell ⟨N + 1 + 1, 0, none⟩ (.bool false) = W2 at *
    have hfin : Below N w (W2.putObj D (.deferred none)) := hB2.trans (belowK_b (w := W0) (by omega) W2 D _ _ (by omega) hK2 rfl rfl)
    have h1 := (hq.b1.kept (grownBy_putObj' W2 D (.deferred none)) (by simp; omega)).cell
    have h2 := (hq.b2.kept (grownBy_putObj' W2 D (.deferred none)) (by simp; omega)).cell
    rw [HN.out] at hfin
    refine ⟨by simp, .inl ⟨_, _, rfl, run_takeDeferred hK2, ?_⟩⟩
    refine ⟨.tuple #[str [], .bool false], ?_, rfl, hfin⟩
    simp [results, Tryd.results40, go_sem, h1, h2]
  case stop =>
    rintro D c' pre W hD hp ⟨⟨hI, hB⟩, rfl, hn, hne⟩ hK
    have hc1 := hI.b1.cell
    have hf1 := hI.b1.frozen
    have hc2 := hI.b2.cell
    have hf2 := hI.b2.frozen
    gi_wp2
    have hfin : Below N w (W.putObj D (.deferred none)) := hB.trans (belowK_b (w := W0) (by omega) W D _ _ (by omega) hK rfl rfl)
    have h1 := (hI.b1.kept (grownBy_putObj' W D (.deferred none)) (by simp; omega)).cell
    have h2 := (hI.b2.kept (grownBy_putObj' W D (.deferred none)) (by simp; omega)).cell
    have hx : nthD (cutAt c s.data.toList) n = some (pre.getLastD []) := by
      obtain ⟨q, x, rfl⟩ : ∃ q x, pre = q ++ [x] := ⟨pre.dropLast, pre.getLast hne, (List.dropLast_concat_getLast hne).symm⟩
      rw [getLastD_snoc]
      exact nthD_last hp (by rw [← hn, List.length_append]; rfl)
    rw [hx]
    rw [HN.out] at hfin
    refine ⟨by simp, .inl ⟨_, _, rfl, run_takeDeferred hK, ?_⟩⟩
    refine ⟨.tuple #[str (pre.getLastD []), .bool true], ?_, rfl, hfin⟩
    simp [results, Tryd.results40, go_sem, h1, h2]
end Go.Proofs.YtodgcmjdnfbegaaDoor
