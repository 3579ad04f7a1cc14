/- Layer 14: the disk, the log, the log's box and the law's own row between the calls. -/
import Derived.Test.YthblbmbefhlbjaaWalKp
namespace Go.Proofs.Ythblbmbefhlbjaa
open Go.RowKit Go.MapKept

abbrev TLP : TypeId := 33
theorem recs_len : ∀ T : List (List UInt8), T.length ≤ (recs T).length
  | [] => Nat.zero_le _
  | a :: r => by
    have := recs_len r
    rw [recs_cons, List.length_append, record_length]
    simp only [List.length_cons]; omega
/-- the law's own row and the log's box, beside blocks T -/
structure OwnP (B P : Nat) (T : Nat → Prop) (vo : Value) (So : List (List UInt8)) (w : World) : Prop where
  own : Rw B (fun j => T j ∨ j = P) w vo So
  bx : ∃ u, w.heap[P]? = some (.cells #[u] TLP)
  off : ¬ T P
  pb : B ≤ P
section
variable {B P : Nat} {T T' : Nat → Prop} {vo : Value} {So : List (List UInt8)} {w w' : World}
theorem OwnP.lt (h : OwnP B P T vo So w) : P < w.heap.size := by obtain ⟨u, h⟩ := h.bx; exact (Array.getElem?_eq_some_iff.1 h).1
theorem OwnP.ch {S : Nat → Prop} (h : OwnP B P T vo So w) (c : Ch S w w') (hS : ∀ k, k < w.heap.size → S k → T k) (hT : ∀ k, k < w.heap.size → T' k → T k) : OwnP B P T' vo So w' :=
  ⟨h.own.ch c (fun k hk hs => .inl (hS k hk hs)) (fun k hk ht => by
    rcases ht with ht | ht
    · exact .inl (hT k hk ht)
    · exact .inr ht), by obtain ⟨u, hb⟩ := h.bx; exact ⟨u, c.row hb (fun hs => h.off (hS P h.lt hs))⟩, fun ht => h.off (hT P h.lt ht), h.pb⟩
theorem OwnP.below (h : OwnP B P T vo So w) (hb : Below w.heap.size w w') : OwnP B P T vo So w' :=
  h.ch (Ch.of_below (S := fun _ => False) hb) (fun _ _ h => h.elim) (fun _ _ h => h)
/-- the box is set -/
theorem OwnP.setP (h : OwnP B P T vo So w) (u : Value) : OwnP B P T vo So (w.setCell ⟨P, 0, none⟩ u) ∧ (w.setCell ⟨P, 0, none⟩ u).heap[P]? = some (.cells #[u] TLP) := by
  have hcs : Ch (At1 P) w (w.setCell ⟨P, 0, none⟩ u) := (Ch.refl _ w).set1 0 _
  obtain ⟨x, hb⟩ := h.bx
  have hr := heap_set_row hb (j := 0) u
  exact ⟨⟨h.own.ch hcs (fun k _ hk => .inr hk) (fun _ _ hk => hk), ⟨_, hr⟩, h.off, h.pb⟩, hr⟩
end
/-- disk, log, box and row -/
structure KpSt (B L D M P : Nat) (k : Nat) (vo : Value) (So T : List (List UInt8)) (v : Value) (d : Dk) (F : List Ent) (w : World) : Prop where
  dk : DkAt w B D M d F
  lg : LgAt (fun j => vo.ownBlock = some j ∨ j = P) w B L D M F nmL T (recs T).length v
  ok : FsOk d (fsOf F)
  fs : WalFs (fsOf F) nmL T
  op : d.ops ≤ 6 * (k : Int)
  own : OwnP B P (WFoot L D M F v) vo So w
  bx : w.heap[P]? = some (.cells #[pL L] TLP)
section
variable {B L D M P k : Nat} {vo v : Value} {So T : List (List UInt8)} {d : Dk} {F : List Ent} {w w' : World}
theorem KpSt.len (h : KpSt B L D M P k vo So T v d F w) : T.length ≤ (recs T).length ∧ (recs T).length ≤ 1073741824 := by
  have h1 := recs_len T
  have h2 := bsOf_len h.ok nmL
  rw [walFs_bs h.fs] at h2
  exact ⟨h1, h2⟩
theorem KpSt.wlch {k' : Nat} {T' : List (List UInt8)} {v' : Value} {d' : Dk} {F' : List Ent} (h : KpSt B L D M P k vo So T v d F w) (c : WlCh L D M F F' v v' w w') (hd : DkAt w' B D M d' F') (hl : LgAt (fun j => vo.ownBlock = some j ∨ j = P) w' B L D M F' nmL T' (recs T').length v') (ok : FsOk d' (fsOf F')) (fs : WalFs (fsOf F') nmL T') (op : d'.ops ≤ 6 * (k' : Int)) :
    KpSt B L D M P k' vo So T' v' d' F' w' :=
  ⟨hd, hl, ok, fs, op, h.own.ch c.ch (fun _ _ hk => hk) (fun j hj ht => by
    rcases c.foot j ht with h1 | h1
    · exact h1
    · omega), c.ch.row h.bx (fun hs => h.own.off hs)⟩
theorem KpSt.dkch {k' : Nat} {d' : Dk} {F' : List Ent} (h : KpSt B L D M P k vo So T v d F w) (c : DkCh D M F F' w w') (hd : DkAt w' B D M d' F') (ok : FsOk d' (fsOf F')) (fs : WalFs (fsOf F') nmL T) (op : d'.ops ≤ 6 * (k' : Int)) :
    KpSt B L D M P k' vo So T v d' F' w' :=
  h.wlch (WlCh.of_dk c) hd (h.lg.dkch c) ok fs op
theorem KpSt.below (h : KpSt B L D M P k vo So T v d F w) (hb : Below w.heap.size w w') : KpSt B L D M P k vo So T v d F w' :=
  h.dkch (DkCh.of_below hb) (h.dk.below hb) h.ok h.fs h.op
theorem KpSt.later {k' : Nat} (h : KpSt B L D M P k vo So T v d F w) (hk : k ≤ k') : KpSt B L D M P k' vo So T v d F w :=
  ⟨h.dk, h.lg, h.ok, h.fs, by have := h.op; omega, h.own, h.bx⟩
theorem KpSt.lt (h : KpSt B L D M P k vo So T v d F w) : ∀ j, vo.ownBlock = some j ∨ j = P → j < w.heap.size := fun j hj => by
  rcases hj with hj | hj
  · exact (Rw.lt h.own.own hj).2
  · rw [hj]; exact h.own.lt
/-- behind an append to the row -/
theorem KpSt.app {x : List UInt8} {v' : Value} {o : Obj} (h : KpSt B L D M P k vo So T v d F w) (hr : Rw B (fun j => WFoot L D M F v j ∨ j = P) w' v' (So ++ [x])) (hg : (w.alloc o).grownBy w' vo.ownBlock) (hf : v'.ownBlock = vo.ownBlock ∨ v'.ownBlock = some (w.alloc o).heap.size) :
    KpSt B L D M P k v' (So ++ [x]) T v d F w' ∧ Below B w w' := by
  have hb7 : Below w.heap.size w (w.alloc o) := (Below.refl _ _).alloc (Nat.le_refl _) _
  have hl7 := (h.lg.widen (E' := fun j => (vo.ownBlock = some j ∨ j = P) ∨ j = (w.alloc o).heap.size) (fun j hj => by
    rcases hj with hj | hj
    · exact .inl hj
    · exact .inr (by rw [hj]; exact hb7.size))).below hb7
  have c : Ch (fun j => vo.ownBlock = some j) (w.alloc o) w' := Ch.of_grown hg (fun j hj => hj)
  have hoff : ∀ j, vo.ownBlock = some j → ¬ WFoot L D M F v j := fun j hj hw => Rw.offT h.own.own hj (.inl hw)
  have hL : ¬ vo.ownBlock = some L := fun e => hoff L e (.inl (.inl rfl))
  have hl8 := hl7.chE c (fun j _ hj => .inl (.inl hj)) hL
  have hBl : B ≤ w.heap.size := Nat.le_trans h.lg.base (by have := h.lg.lt; omega)
  have hP7 := hb7.block P h.own.lt
  refine ⟨⟨(h.dk.below hb7).ch c (fun j hj hs => hoff j hs (.inl (.inr hj))), hl8.widen (fun j hj => .inl ?_), h.ok, h.fs, h.op, ⟨hr, ?_, h.own.off, h.own.pb⟩, ?_⟩, (hb7.mono hBl).trans (c.below (fun j hj => (Rw.lt h.own.own hj).1) (Nat.le_trans hBl hb7.size))⟩
  · rcases hj with hj | hj
    · rcases hf with h1 | h1
      · exact .inl (.inl (by rw [← h1]; exact hj))
      · rw [h1] at hj; injection hj with hj; exact .inr hj.symm
    · exact .inl (.inr hj)
  · obtain ⟨u, hu⟩ := h.own.bx
    exact ⟨u, c.row (hP7.trans hu) (fun e => Rw.offT h.own.own e (.inr rfl))⟩
  · exact c.row (hP7.trans h.bx) (fun e => Rw.offT h.own.own e (.inr rfl))
end
/-- disk, box and row, once the log is gone -/
structure KpD (B D M P : Nat) (k : Int) (vo : Value) (So : List (List UInt8)) (d : Dk) (F : List Ent) (w : World) : Prop where
  dk : DkAt w B D M d F
  ok : FsOk d (fsOf F)
  op : d.ops ≤ k
  own : OwnP B P (DFoot D M F) vo So w
section
variable {B L D M P k : Nat} {kk : Int} {vo v : Value} {So T : List (List UInt8)} {d : Dk} {F : List Ent} {w w' : World}
theorem KpD.lt (h : KpD B D M P kk vo So d F w) : ∀ j, vo.ownBlock = some j ∨ j = P → j < w.heap.size := fun j hj => by
  rcases hj with hj | hj
  · exact (Rw.lt h.own.own hj).2
  · rw [hj]; exact h.own.lt
theorem KpSt.gone (h : KpSt B L D M P k vo So T v d F w) : KpD B D M P (6 * (k : Int)) vo So d F w :=
  ⟨h.dk, h.ok, h.op, h.own.ch (Ch.refl (fun _ => False) w) (fun _ _ h => h.elim) (fun _ _ hk => .inl (.inr hk))⟩
theorem KpSt.half {k' : Int} {v' : Value} {d' : Dk} {F' : List Ent} (h : KpSt B L D M P k vo So T v d F w) (c : WlCh L D M F F' v v' w w') (hd : DkAt w' B D M d' F') (ok : FsOk d' (fsOf F')) (op : d'.ops ≤ k') : KpD B D M P k' vo So d' F' w' :=
  ⟨hd, ok, op, h.own.ch c.ch (fun _ _ hk => hk) (fun j hj ht => by
    rcases c.foot j (.inl (.inr ht)) with h1 | h1
    · exact h1
    · omega)⟩
theorem KpD.dkch {k' : Int} {d' : Dk} {F' : List Ent} (h : KpD B D M P kk vo So d F w) (c : DkCh D M F F' w w') (hd : DkAt w' B D M d' F') (ok : FsOk d' (fsOf F')) (op : d'.ops ≤ k') : KpD B D M P k' vo So d' F' w' :=
  ⟨hd, ok, op, h.own.ch c.ch (fun _ _ hk => hk) (fun j hj ht => by
    rcases c.dfoot ht with h1 | h1
    · exact h1
    · omega)⟩
theorem KpD.below (h : KpD B D M P kk vo So d F w) (hb : Below w.heap.size w w') : KpD B D M P kk vo So d F w' :=
  h.dkch (DkCh.of_below hb) (h.dk.below hb) h.ok h.op
/-- behind an Open whose log goes into the box -/
theorem KpD.opened {k' : Nat} {d' : Dk} {F' : List Ent} (h : KpD B D M P kk vo So d F w) (c : DkCh D M F F' w w') (hd : DkAt w' B D M d' F') (ok : FsOk d' (fsOf F')) (op : d'.ops ≤ 6 * (k' : Int)) (hl : LgAt (fun j => vo.ownBlock = some j ∨ j = P) w' B L D M F' nmL T (recs T).length v) (fs : WalFs (fsOf F') nmL T)
    (hL : w.heap.size ≤ L) (hv : ∀ j, v.ownBlock = some j → w.heap.size ≤ j) : KpSt B L D M P k' vo So T v d' F' (w'.setCell ⟨P, 0, none⟩ (pL L)) ∧ Below B w' (w'.setCell ⟨P, 0, none⟩ (pL L)) := by
  have ho : OwnP B P (WFoot L D M F' v) vo So w' := h.own.ch c.ch (fun _ _ hk => hk) (fun j hj ht => by
    rcases ht with (ht | ht) | ht
    · omega
    · rcases c.dfoot ht with h1 | h1
      · exact h1
      · omega
    · have := hv j ht; omega)
  obtain ⟨ho2, hb2⟩ := ho.setP (pL L)
  have hcs : Ch (At1 P) w' (w'.setCell ⟨P, 0, none⟩ (pL L)) := (Ch.refl _ w').set1 0 _
  have hBl : B ≤ w'.heap.size := Nat.le_trans hl.base (by have := hl.lt; omega)
  exact ⟨⟨hd.ch hcs (fun j hj hs => ho.off (.inl (.inr (by rw [← show j = P from hs]; exact hj)))), hl.chE hcs (fun j _ hj => .inr hj) (fun hs => ho.off (.inl (.inl (show L = P from hs).symm))), ok, fs, op, ho2, hb2⟩, hcs.below (fun j hj => by rw [show j = P from hj]; exact ho.pb) hBl⟩
end
/-- what the next Open finds: all that was told, or one more -/
theorem opened_half {d : Dk} {fs : Fs} {T : List (List UInt8)} {b : List UInt8} (kp : Int) (h : HalfFs fs nmL T b) :
    ∃ T', (T' = T ∨ T' = T ++ [b]) ∧ (scan (bsOf (opPower d fs kp).2.2 nmL)).1 = T' ∧ (scan (bsOf (opPower d fs kp).2.2 nmL)).2.1 = (recs T').length ∧ (openD (opPower d fs kp).2.1 (opPower d fs kp).2.2 nmL).1 = .inl 0 ∧ WalFs (openD (opPower d fs kp).2.1 (opPower d fs kp).2.2 nmL).2.2 nmL T' := by
  obtain ⟨hb, hok, k, hk, hg⟩ := halfFs_pow kp h
  obtain ⟨T', h1, h2, h3, h4, h5, _⟩ := openD_half (d := (opPower d fs kp).2.1) rfl rfl hb hok hk hg
  exact ⟨T', h1, h2, h3, h4, h5⟩
theorem opened_whole {d : Dk} {fs : Fs} {T : List (List UInt8)} (kp : Int) (h : WalFs fs nmL T) :
    ∃ T', T' = T ∧ (scan (bsOf (opPower d fs kp).2.2 nmL)).1 = T' ∧ (scan (bsOf (opPower d fs kp).2.2 nmL)).2.1 = (recs T').length ∧ (openD (opPower d fs kp).2.1 (opPower d fs kp).2.2 nmL).1 = .inl 0 ∧ WalFs (openD (opPower d fs kp).2.1 (opPower d fs kp).2.2 nmL).2.2 nmL T' := by
  have hp : WalFs (opPower d fs kp).2.2 nmL T := walFs_pow kp h
  obtain ⟨h1, h2, h3⟩ := openD_whole (opPower d fs kp).2.1 hp
  exact ⟨T, rfl, h2, h3, by rw [h1], by rw [h1]; exact hp⟩
end Go.Proofs.Ythblbmbefhlbjaa
