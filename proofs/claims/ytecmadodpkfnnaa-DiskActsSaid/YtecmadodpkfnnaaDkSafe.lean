/- DiskSafe, walked. -/
import Derived.Test.YtecmadodpkfnnaaDkRoom
import Derived.Test.YtecmadodpkfnnaaDkNames
namespace Go.Proofs.Ytecmadodpkfnnaa
open Go.RowKit Go.MapKept

theorem fput_len : ∀ (fs : Fs) (n : ByteArray) (v : Fl), (fput fs n v).length ≤ fs.length + 1
  | [], n, v => by simp [fput]
  | (a, u) :: r, n, v => by
    unfold fput
    split
    · simp
    · have := fput_len r n v
      simp only [List.length_cons]; omega
theorem opChange_len {d d1 d2 : Dk} {fs done : Fs} {x : Int} (h : done.length ≤ fs.length + 1) : (opChange d fs x d1 d2 done).2.2.length ≤ fs.length + 1 := by
  unfold opChange
  split
  · split
    · exact h
    · simp
  · exact h
theorem callD_len (d : Dk) (fs : Fs) (kd n k : Int) (a b : ByteArray) (l : List UInt8) : (callD d fs kd n k a b l).2.2.length ≤ fs.length + 1 := by
  unfold callD
  split
  · unfold appO
    split
    · simp
    · split
      · exact fput_len _ _ _
      · exact fput_len _ _ _
  split
  · show (opTrunc d fs a n).2.2.length ≤ _
    unfold opTrunc
    cases fget fs a with
    | none => simp
    | some f => simp only; split
                · simp
                · exact opChange_len (fput_len _ _ _)
  split
  · show (opSync d fs a).2.2.length ≤ _
    unfold opSync
    cases fget fs a with
    | none => simp
    | some f => exact opChange_len (fput_len _ _ _)
  split
  · show (opRename d fs a b).2.2.length ≤ _
    unfold opRename
    cases fget fs a with
    | none => simp
    | some f =>
      simp only
      split
      · simp
      · split
        · exact opChange_len (by simp)
        · refine opChange_len ?_
          have h1 := (fdel_sub fs b).length_le
          have h2 := (fdel_sub (fdel fs b) a).length_le
          rw [List.length_append]; simp only [List.length_singleton]; omega
  split
  · show (opRemove d fs a).2.2.length ≤ _
    unfold opRemove
    cases fget fs a with
    | none => simp
    | some f => exact opChange_len (Nat.le_trans (fdel_sub fs a).length_le (by simp))
  split
  · show (opSetRoom d fs n).2.2.length ≤ _
    unfold opSetRoom; split <;> simp
  split
  · show (opFail d fs n).2.2.length ≤ _
    unfold opFail; split <;> simp
  split
  · show (opArm d fs n k).2.2.length ≤ _
    unfold opArm; split <;> simp
  split
  · show (powFs k fs).length ≤ _
    unfold powFs; simp
  · simp
theorem fget_of_mem : ∀ {F : List Ent} {e : Ent}, (F.map (·.nm)).Nodup → e ∈ F → fget (fsOf F) e.nm = some e.f
  | a :: r, e, hn, he => by
    rw [List.map_cons, List.nodup_cons] at hn
    simp only [fsOf, List.map_cons, fget]
    rcases List.mem_cons.1 he with rfl | he
    · rw [if_pos rfl]
    · rw [if_neg (fun q => hn.1 (by rw [← q]; exact List.mem_map.2 ⟨e, he, rfl⟩))]
      exact fget_of_mem hn.2 he
/-- a file by its name's bytes -/
def flAt (fs : Fs) (x : List UInt8) : Fl := (fget fs (txt x)).getD ⟨[], 0⟩
theorem flAt_some {F : List Ent} (hn : (F.map (·.nm)).Nodup) {x : List UInt8} (hx : x ∈ nmsOf F) : fget (fsOf F) (txt x) = some (flAt (fsOf F) x) := by
  obtain ⟨e, he, rfl⟩ := List.mem_map.1 hx
  have := fget_of_mem hn he
  unfold flAt
  rw [show txt e.nm.data.toList = e.nm from rfl, this]; rfl
theorem fget_pow (k : Int) : ∀ (fs : Fs) (n : ByteArray), fget (powFs k fs) n = (fget fs n).map (powFl k)
  | [], n => rfl
  | (a, u) :: r, n => by
    have := fget_pow k r n
    unfold powFs at this ⊢
    simp only [List.map_cons, fget]
    split
    · rfl
    · exact this
theorem powFl_len {k : Int} {f : Fl} (h : f.safe ≤ f.bs.length) : (powFl k f).bs.length = powN k f ∧ f.safe ≤ powN k f ∧ powN k f ≤ f.bs.length ∧ (k ≤ 0 → powN k f = f.safe) ∧ ((f.bs.length : Int) ≤ k → powN k f = f.bs.length) := by
  unfold powFl powN
  simp only [List.length_take]
  omega
theorem newRow1 (wa : World) (u : Value) (E : TypeId) : ∀ (j : Nat) (x : Value), [u][j]? = some x → (wa.alloc (.cells #[u] E)).cell? ((⟨wa.heap.size, 0, none⟩ : Addr).add j) = some x := fun j x hx => by
  have hj : j = 0 := by
    rcases Nat.lt_or_ge j 1 with h | h
    · omega
    · rw [List.getElem?_eq_none (by simpa using h)] at hx; cases hx
  subst hj
  rw [Addr.add_lit, Nat.zero_add, cell_of_row _ wa.heap.size 0 _ _ _ (heap_alloc_new wa _)]
  exact hx
theorem Ch.of_belowB {B : Nat} {w w' : World} (h : Below B w w') : Ch (fun k => B ≤ k) w w' := ⟨h.os, h.tape, h.output, h.size, fun k _ hn => h.block k (by omega)⟩
theorem DkAt.low {w w' : World} {B D M C : Nat} {d : Dk} {F : List Ent} (h : DkAt w B D M d F) (hft : ∀ k, DFoot D M F k → k < C) (hb : Below C w w') : DkAt w' B D M d F :=
  h.ch (Ch.of_belowB hb) (fun k hk h2 => by have := hft k hk; omega)
theorem Ss.chS {S : Nat → Prop} {w w' : World} {A : Option Addr} {n c : Nat} {T : List (List UInt8)} (h : Ss w A n c T) (hc : Ch S w w') (hn : ∀ b, A = some b → ¬ S b.block) : Ss w' A n c T :=
  ⟨h.1, h.2.1, h.2.2.1, fun h0 => by
    obtain ⟨b, o, rfl, hlt, hcell⟩ := h.at_ h0
    refine ⟨b, o, rfl, fun i x hx => ?_⟩
    have hb := hc.block b hlt (hn _ rfl)
    exact (World.cell?_of_block (w := w) (a := ⟨b, o + i, none⟩) hb).trans (hcell i x hx)⟩
theorem intsInfo : (Try.prog.info? 3).map (fun i => (i.zero, i.size, i.bytes)) = some (some (.int .i64 0), 1, 8) := by kernel_rfl
theorem bytesInfo1 : (Try.prog.info? 35).map (fun i => (i.zero, i.size, i.bytes)) = some (some (.slice none 0 0), 1, 24) := by kernel_rfl
abbrev safeV (fs : Fs) (x : List UInt8) : Value := .int .i64 ((flAt fs x).safe : Int)
/-- the first k files' bytes, and how many are safe, in rows of the call's own -/
structure AllAt (w : World) (base k : Nat) (fs : Fs) (S : List (List UInt8)) (va vs : Value) (xs : List Value) : Prop where
  ra : w.ownsRow base 35 1 va k xs
  rs : w.ownsRow base 3 1 vs k ((S.take k).map (safeV fs))
  at_ : ∀ i, i < k → ∃ g, base ≤ g ∧ xs[i]? = some (.slice (some ⟨g, 0, none⟩) (flAt fs (S.getD i [])).bs.length (flAt fs (S.getD i [])).bs.length) ∧ w.heap[g]? = some (.cells (u8s (flAt fs (S.getD i [])).bs).toArray 5)
theorem AllAt.below {w w' : World} {base k : Nat} {fs : Fs} {S : List (List UInt8)} {va vs : Value} {xs : List Value} (h : AllAt w base k fs S va vs xs) (hb : Below w.heap.size w w') : AllAt w' base k fs S va vs xs :=
  ⟨own_below h.ra hb, own_below h.rs hb, fun i hi => by
    obtain ⟨g, h1, h2, h3⟩ := h.at_ i hi
    exact ⟨g, h1, h2, (hb.block g (Array.getElem?_eq_some_iff.1 h3).1).trans h3⟩⟩
theorem AllAt.ch {w w' : World} {base k : Nat} {fs : Fs} {S : List (List UInt8)} {va vs : Value} {xs : List Value} {Q : Nat → Prop} (h : AllAt w base k fs S va vs xs) (c : Ch Q w w') (hQ : ∀ j, Q j → j < base) : AllAt w' base k fs S va vs xs :=
  ⟨own_ch h.ra c (fun j hj hq => by have := hQ j hq; have := (World.ownsRow.lt h.ra j hj).1; omega), own_ch h.rs c (fun j hj hq => by have := hQ j hq; have := (World.ownsRow.lt h.rs j hj).1; omega), fun i hi => by
    obtain ⟨g, h1, h2, h3⟩ := h.at_ i hi
    exact ⟨g, h1, h2, c.row h3 (fun hq => by have := hQ g hq; omega)⟩⟩
theorem AllAt.nil (w : World) (base : Nat) (fs : Fs) (S : List (List UInt8)) : AllAt w base 0 fs S (.slice none 0 0) (.slice none 0 0) [] :=
  ⟨World.ownsRow_nil w base _ 1, by simpa using World.ownsRow_nil w base 3 1, fun i hi => absurd hi (by omega)⟩
/-- a file's bytes more -/
theorem AllAt.more1 {w w1 w2 : World} {base k g : Nat} {fs : Fs} {S : List (List UInt8)} {va vs : Value} {xs : List Value} {f : Fl} (h : AllAt w base k fs S va vs xs) (hf : f = flAt fs (S.getD k [])) (hb1 : Below w.heap.size w w1) (hgr : w1.grownBy w2 va.ownBlock) (hb : base ≤ g)
    (hg : w.heap[g]? = some (.cells (u8s f.bs).toArray 5)) :
    w2.ownsRow base 3 1 vs k ((S.take k).map (safeV fs)) ∧
    ∀ i, i < k + 1 → ∃ g', base ≤ g' ∧ (xs ++ [Value.slice (some ⟨g, 0, none⟩) f.bs.length f.bs.length])[i]? = some (.slice (some ⟨g', 0, none⟩) (flAt fs (S.getD i [])).bs.length (flAt fs (S.getD i [])).bs.length) ∧ w2.heap[g']? = some (.cells (u8s (flAt fs (S.getD i [])).bs).toArray 5) := by
  subst hf
  have h1 := h.below hb1
  have hg1 := (hb1.block g (Array.getElem?_eq_some_iff.1 hg).1).trans hg
  have c : Ch (fun j => va.ownBlock = some j) w1 w2 := Ch.of_grown hgr (fun j hj => hj)
  have hxl : xs.length = k := by have := h.ra.1; simpa using this
  refine ⟨own_ch h1.rs c (fun j hj hq => ?_), fun i hi => ?_⟩
  · obtain ⟨cur, hcr⟩ := own_ty h1.rs j hj
    exact own_ne h1.ra hcr (by decide) hq.symm
  · rcases Nat.lt_or_ge i k with hik | hik
    · obtain ⟨g', q1, q2, q3⟩ := h1.at_ i hik
      refine ⟨g', q1, by rw [List.getElem?_append_left (by omega)]; exact q2, c.row q3 (fun hq => own_ne h1.ra q3 (by decide) hq.symm)⟩
    · obtain rfl : i = k := by omega
      refine ⟨g, hb, by rw [List.getElem?_append_right (by omega), hxl, Nat.sub_self]; rfl, c.row hg1 (fun hq => own_ne h1.ra hg1 (by decide) hq.symm)⟩
/-- how many of them are safe -/
theorem AllAt.more2 {w w1 w2 : World} {base k : Nat} {fs : Fs} {S : List (List UInt8)} {va vs v' : Value} {ys : List Value} {f : Fl} (ra : w.ownsRow base 35 1 va (k + 1) ys) (rs : w.ownsRow base 3 1 vs k ((S.take k).map (safeV fs)))
    (at_ : ∀ i, i < k + 1 → ∃ g', base ≤ g' ∧ ys[i]? = some (.slice (some ⟨g', 0, none⟩) (flAt fs (S.getD i [])).bs.length (flAt fs (S.getD i [])).bs.length) ∧ w.heap[g']? = some (.cells (u8s (flAt fs (S.getD i [])).bs).toArray 5))
    (hf : f = flAt fs (S.getD k [])) (hb1 : Below w.heap.size w w1) (hgr : w1.grownBy w2 vs.ownBlock) (hrow : w2.ownsRow base 3 1 v' (k + 1) ((S.take k).map (safeV fs) ++ [.int .i64 (f.safe : Int)])) (hk : k < S.length) : AllAt w2 base (k + 1) fs S va v' ys := by
  subst hf
  have c : Ch (fun j => vs.ownBlock = some j) w1 w2 := Ch.of_grown hgr (fun j hj => hj)
  have rs1 := own_below rs hb1
  refine ⟨own_ch (own_below ra hb1) c (fun j hj hq => ?_), ?_, fun i hi => ?_⟩
  · obtain ⟨cur, hcr⟩ := own_ty (own_below ra hb1) j hj
    exact own_ne rs1 hcr (by decide) hq.symm
  · have e : (S.take (k + 1)).map (safeV fs) = (S.take k).map (safeV fs) ++ [.int .i64 ((flAt fs (S.getD k [])).safe : Int)] := by
      rw [List.take_succ_eq_append_getElem hk, List.map_append, List.getD_eq_getElem?_getD, List.getElem?_eq_getElem hk]
      rfl
    rw [e]; exact hrow
  · obtain ⟨g', q1, q2, q3⟩ := at_ i hi
    have q4 := (hb1.block g' (Array.getElem?_eq_some_iff.1 q3).1).trans q3
    exact ⟨g', q1, q2, c.row q4 (fun hq => own_ne rs1 q4 (by decide) hq.symm)⟩
theorem own_cell {w : World} {base n : Nat} {e : TypeId} {v : Value} {xs : List Value} (h : w.ownsRow base e 1 v n xs) (hn : 0 < n) : ∃ g c, v = .slice (some ⟨g, 0, none⟩) n c ∧ n ≤ c ∧ c ≤ 9223372036854775807 ∧ ∀ j x, xs[j]? = some x → w.cell? ⟨g, j, none⟩ = some x := by
  rcases h.2 with ⟨rfl, h1⟩ | ⟨g, cap, cur, rfl, h1, h2, h3, h4, h5, h6⟩
  · omega
  · refine ⟨g, cap, rfl, h3, by simpa only [maxLen] using h4, fun j x hx => ?_⟩
    have hj := (List.getElem?_eq_some_iff.1 hx).1
    have := World.ownsRow.cellAt h j (by have := h.1; omega)
    rw [this]; simpa using hx

def SomeB2 (n : Nat) (w : World) (e : Ending) (w' : World) : Prop := ∃ b : Bool, e = .returned (.bool b) ∧ (200 < n → b = true) ∧ Below w.heap.size w w'
set_option maxHeartbeats 4000000 in
set_option maxRecDepth 100000 in
theorem dkGreat2 (A : Option Addr) (n c : Nat) (L : List DAct) (w : World) (hL : DAs w A n c L) : Calls Try.prog 20 #[.slice A n c] w (SomeB2 n w) := by
  have HL := Lib.hid hL
  have hn : n ≤ 140737488351232 := hL.2.2.2.1
  clear hL
  go_enter Try.func20, Try.ntmps20
  go_wp2_with (fail)
  go_loopw [8, 3] (fun i s wr => ∃ (k : Nat) (z : Int), k ≤ n ∧ i = .int .i64 k ∧ s = .int .i64 z ∧ Below w.heap.size w wr) (fun i _ _ => n - (intOf i).toNat)
  case atStart => exact ⟨0, 0, by omega, rfl, rfl, Below.refl _ _⟩
  case round =>
    obtain ⟨wo, rfl⟩ : ∃ wo : World, wo = wr := ⟨_, rfl⟩
    obtain ⟨k, z, hk, rfl, rfl, hb⟩ := hrel
    have HB := Lib.hid hb
    clear hb
    by_cases hlt : k < n
    · obtain ⟨b, o, rfl, hx⟩ := (HL.out.below HB.out).2.2.2.2 (by omega)
      obtain ⟨x, hxk⟩ : ∃ x, L[k]? = some x := ⟨_, List.getElem?_eq_getElem (by have := HL.out.1; omega)⟩
      obtain ⟨⟨c0, c1, c2, c3, c4, A5, m, c', c5, hB5, hc'⟩, hf⟩ := hx k x hxk
      have hm5 := hB5.le
      have HB2 : Hid (∀ o, Below w.heap.size w (wo.alloc o)) := Lib.hid (fun o => HB.out.alloc HB.out.size o)
      clear hx hB5 hf hxk
      go_wp2_with (fail)
      exact ⟨⟨k + 1, _, by omega, by go_num, rfl, HB2.out _⟩, by simp [intOf]; omega⟩
    · obtain rfl : k = n := by omega
      by_cases h2 : (200 : Int) < (k : Int)
      · go_wp2_with (fail)
        go_ret
        exact ⟨_, rfl, fun _ => rfl, HB.out⟩
      · by_cases h5 : (5000 : Int) < z
        · go_wp2_with (fail)
          go_ret
          exact ⟨_, rfl, fun _ => rfl, HB.out⟩
        · go_wp2_with (fail)
          go_ret
          exact ⟨_, rfl, fun h => absurd h (by omega), HB.out⟩
end Go.Proofs.Ytecmadodpkfnnaa
