/- The document's disk: what a call is to be, walked. -/
import Derived.Test.YtecmadodpkfnnaaRk9
namespace Go.Proofs.Ytecmadodpkfnnaa
open Go.RowKit Go.MapKept

abbrev retW (n e : Int) (g : Bool) : Ending := ret3 n e g
section
variable {w : World} {B G : Nat} {E : Nat → Prop} {r : Rk} {L : Fs} {v : Value} {P : List Value} {d : Dk} {fs : Fs}
theorem RM.lift {o : Out} {x : Ending} {w1 w' : World} (h : RM w1 B G E v o x w') (hb : Below w.heap.size w w1) : ∃ e g, x = ret2 e g ∧ RA w B G E v (liftO o) (ret3 0 e g) w' := by
  obtain ⟨e, g, r', L', v', P', rfl, h1, h2, h3, h4, h5⟩ := h
  exact ⟨e, g, rfl, 0, e, g, r', L', v', P', rfl, h1, fun _ => rfl, h2, h3, (Ch.of_below (S := RF G v) hb).trans h4 (fun _ _ h => h), fun k hk => (h5 k hk).imp id (fun h => Nat.le_trans hb.size h)⟩
theorem RA.later {o : OutN} {x : Ending} {w1 w' : World} (h : RA w1 B G E v o x w') (hb : Below w.heap.size w w1) : ∃ n e g, x = ret3 n e g ∧ RA w B G E v o (ret3 n e g) w' := by
  obtain ⟨n, e, g, r', L', v', P', rfl, h1, h0, h2, h3, h4, h5⟩ := h
  exact ⟨n, e, g, rfl, n, e, g, r', L', v', P', rfl, h1, h0, h2, h3, (Ch.of_below (S := RF G v) hb).trans h4 (fun _ _ h => h), fun k hk => (h5 k hk).imp id (fun h => Nat.le_trans hb.size h)⟩
theorem RA.mk {n e : Int} {r' : Rk} {L' : Fs} {P' : List Value} {d' : Dk} {fs' : Fs} {w' : World} (h : RkAt w' B G E r' L' v P') (hs : Sim d' fs' r' L') (hc : Ch (RF G v) w w') : RA w B G E v ((n, .inl e), d', fs') (ret3 n e false) w' :=
  ⟨n, e, false, r', L', v, P', rfl, .inl ⟨e, rfl, rfl, rfl⟩, fun _ => rfl, hs, h, hc, fun _ hk => .inl hk⟩
theorem powF_eq {kp : Int} {f : Fl} (h : f.safe ≤ f.bs.length) : powF kp f = powFl kp f := by
  have : f.safe + powK kp f = powN kp f := by unfold powK powN; omega
  unfold powF powFl
  rw [this]
theorem Sim.power (h : Sim d fs r L) (ok : FsOk d fs) (kp u : Int) : Sim { d with used := u, failIn := 0, armedIn := 0 } (powFs kp fs) r.power (powL kp L) := by
  have h1 : powL kp L = L.map fun e => (e.1, powFl kp e.2) := List.map_congr_left (fun e he => by rw [powF_eq (ok.safe e (h.perm.mem_iff.1 he))])
  refine ⟨h.size, h.count, rfl, h.keep, rfl, ?_, ?_⟩
  · rw [h1]; exact h.perm.map _
  · unfold Srt powL; rw [List.pairwise_map]; exact h.srt
set_option maxHeartbeats 8000000 in
set_option maxRecDepth 100000 in
theorem want0 (h : RkAt w B G E r L v P) (hs : Sim d fs r L) (ok : FsOk d fs) (n k : Int) (a b : ByteArray) (ha : a.size ≤ 140737488355328) (hb : b.size ≤ 140737488355328) (A : Option Addr) (m c : Nat) (l : List UInt8) (hl : DvX (RF G v) w (.slice A m c) l) (hm : m ≤ 140737488355328) (hL : L.length ≤ 100000) (hB : B ≤ w.heap.size) (hE : ∀ k, E k → k < w.heap.size) :
    Calls Try.prog 24 #[pR G, actV 0 n k a b A m c] w (RA w B G E v (appO d fs a l)) := by
  have HBB : Hid (Below w.heap.size w (w.alloc (actO 0 n k a b A m c))) := Lib.hid ((Below.refl _ _).alloc (Nat.le_refl _) _)
  have HX5 : Hid ((w.alloc (actO 0 n k a b A m c)).heap[w.heap.size]? = some (actO 0 n k a b A m c)) := Lib.hid (heap_alloc_new w _)
  have H1 := Lib.hid (h.below HBB.out)
  have HS := Lib.hid hs
  have HOK := Lib.hid ok
  have HL1 := Lib.hid (hl.ch (Ch.of_below (S := RF G v) HBB.out) (fun _ _ h => h))
  have HM := Lib.hid hm
  have HL := Lib.hid hL
  have HB1 := Lib.hid (Nat.le_trans hB HBB.out.size)
  have HE1 := Lib.hid (fun k hk => Nat.lt_of_lt_of_le (hE k hk) HBB.out.size)
  have HA := Lib.hid ha
  have HBS := Lib.hid hb
  clear h hs ok hl hm hL hB hE ha hb
  go_enter Try.func24, Try.ntmps24
  go_upto_region 1 with (fail)
  generalize hwa : (w.alloc (actO 0 n k a b A m c)) = w1 at *
  clear hwa
  obtain ⟨q0, q1, q2, q3, q4, q5⟩ : w1.cell? ⟨w.heap.size, 0, none⟩ = some (.int .i64 0) ∧ w1.cell? ⟨w.heap.size, 1, none⟩ = some (.int .i64 n) ∧ w1.cell? ⟨w.heap.size, 2, none⟩ = some (.int .i64 k) ∧ w1.cell? ⟨w.heap.size, 3, none⟩ = some (.string a) ∧ w1.cell? ⟨w.heap.size, 4, none⟩ = some (.string b) ∧ w1.cell? ⟨w.heap.size, 5, none⟩ = some (.slice A m c) := ⟨cell_of_row _ _ 0 _ _ _ HX5.out, cell_of_row _ _ 1 _ _ _ HX5.out, cell_of_row _ _ 2 _ _ _ HX5.out, cell_of_row _ _ 3 _ _ _ HX5.out, cell_of_row _ _ 4 _ _ _ HX5.out, cell_of_row _ _ 5 _ _ _ HX5.out⟩
  go_wp2_with (fail)
  refine (rkApp H1.out HS.out HOK.out a HA.out A m c l HL1.out HM.out HL.out HB1.out HE1.out).mono ?_
  rintro x w2 hx
  obtain ⟨n1, e, g, rfl, hy⟩ := RA.later hx HBB.out
  have HX := Lib.hid hy
  clear hx hy q0 q1 q2 q3 q4 q5
  go_wp2_with (fail)
  refine bodyPost_ret (v := .tuple #[.int .i64 n1, .int .i64 e, .bool g]) (results_tmp3 Try.results24 _ _ _) rfl ?_
  exact HX.out
set_option maxHeartbeats 8000000 in
set_option maxRecDepth 100000 in
theorem want1 (h : RkAt w B G E r L v P) (hs : Sim d fs r L) (ok : FsOk d fs) (n k : Int) (a b : ByteArray) (ha : a.size ≤ 140737488355328) (hb : b.size ≤ 140737488355328) (A : Option Addr) (m c : Nat) (l : List UInt8) (hl : DvX (RF G v) w (.slice A m c) l) (hm : m ≤ 140737488355328) (hL : L.length ≤ 100000) (hB : B ≤ w.heap.size) (hE : ∀ k, E k → k < w.heap.size) :
    Calls Try.prog 24 #[pR G, actV 1 n k a b A m c] w (RA w B G E v (liftO (opTrunc d fs a n))) := by
  have HBB : Hid (Below w.heap.size w (w.alloc (actO 1 n k a b A m c))) := Lib.hid ((Below.refl _ _).alloc (Nat.le_refl _) _)
  have HX5 : Hid ((w.alloc (actO 1 n k a b A m c)).heap[w.heap.size]? = some (actO 1 n k a b A m c)) := Lib.hid (heap_alloc_new w _)
  have H1 := Lib.hid (h.below HBB.out)
  have HS := Lib.hid hs
  have HOK := Lib.hid ok
  have HL1 := Lib.hid (hl.ch (Ch.of_below (S := RF G v) HBB.out) (fun _ _ h => h))
  have HM := Lib.hid hm
  have HL := Lib.hid hL
  have HB1 := Lib.hid (Nat.le_trans hB HBB.out.size)
  have HE1 := Lib.hid (fun k hk => Nat.lt_of_lt_of_le (hE k hk) HBB.out.size)
  have HA := Lib.hid ha
  have HBS := Lib.hid hb
  clear h hs ok hl hm hL hB hE ha hb
  go_enter Try.func24, Try.ntmps24
  go_upto_region 1 with (fail)
  generalize hwa : (w.alloc (actO 1 n k a b A m c)) = w1 at *
  clear hwa
  obtain ⟨q0, q1, q2, q3, q4, q5⟩ : w1.cell? ⟨w.heap.size, 0, none⟩ = some (.int .i64 1) ∧ w1.cell? ⟨w.heap.size, 1, none⟩ = some (.int .i64 n) ∧ w1.cell? ⟨w.heap.size, 2, none⟩ = some (.int .i64 k) ∧ w1.cell? ⟨w.heap.size, 3, none⟩ = some (.string a) ∧ w1.cell? ⟨w.heap.size, 4, none⟩ = some (.string b) ∧ w1.cell? ⟨w.heap.size, 5, none⟩ = some (.slice A m c) := ⟨cell_of_row _ _ 0 _ _ _ HX5.out, cell_of_row _ _ 1 _ _ _ HX5.out, cell_of_row _ _ 2 _ _ _ HX5.out, cell_of_row _ _ 3 _ _ _ HX5.out, cell_of_row _ _ 4 _ _ _ HX5.out, cell_of_row _ _ 5 _ _ _ HX5.out⟩
  go_wp2_with (fail)
  refine (rkTrunc H1.out HS.out HOK.out a n HL.out HE1.out).mono ?_
  rintro x w2 hx
  obtain ⟨e, g, rfl, hy⟩ := RM.lift hx HBB.out
  have HX := Lib.hid hy
  clear hx hy q0 q1 q2 q3 q4 q5
  go_wp2_with (fail)
  refine bodyPost_ret (v := .tuple #[.int .i64 0, .int .i64 e, .bool g]) (results_tmp3 Try.results24 _ _ _) rfl ?_
  exact HX.out
set_option maxHeartbeats 8000000 in
set_option maxRecDepth 100000 in
theorem want2 (h : RkAt w B G E r L v P) (hs : Sim d fs r L) (ok : FsOk d fs) (n k : Int) (a b : ByteArray) (ha : a.size ≤ 140737488355328) (hb : b.size ≤ 140737488355328) (A : Option Addr) (m c : Nat) (l : List UInt8) (hl : DvX (RF G v) w (.slice A m c) l) (hm : m ≤ 140737488355328) (hL : L.length ≤ 100000) (hB : B ≤ w.heap.size) (hE : ∀ k, E k → k < w.heap.size) :
    Calls Try.prog 24 #[pR G, actV 2 n k a b A m c] w (RA w B G E v (liftO (opSync d fs a))) := by
  have HBB : Hid (Below w.heap.size w (w.alloc (actO 2 n k a b A m c))) := Lib.hid ((Below.refl _ _).alloc (Nat.le_refl _) _)
  have HX5 : Hid ((w.alloc (actO 2 n k a b A m c)).heap[w.heap.size]? = some (actO 2 n k a b A m c)) := Lib.hid (heap_alloc_new w _)
  have H1 := Lib.hid (h.below HBB.out)
  have HS := Lib.hid hs
  have HOK := Lib.hid ok
  have HL1 := Lib.hid (hl.ch (Ch.of_below (S := RF G v) HBB.out) (fun _ _ h => h))
  have HM := Lib.hid hm
  have HL := Lib.hid hL
  have HB1 := Lib.hid (Nat.le_trans hB HBB.out.size)
  have HE1 := Lib.hid (fun k hk => Nat.lt_of_lt_of_le (hE k hk) HBB.out.size)
  have HA := Lib.hid ha
  have HBS := Lib.hid hb
  clear h hs ok hl hm hL hB hE ha hb
  go_enter Try.func24, Try.ntmps24
  go_upto_region 1 with (fail)
  generalize hwa : (w.alloc (actO 2 n k a b A m c)) = w1 at *
  clear hwa
  obtain ⟨q0, q1, q2, q3, q4, q5⟩ : w1.cell? ⟨w.heap.size, 0, none⟩ = some (.int .i64 2) ∧ w1.cell? ⟨w.heap.size, 1, none⟩ = some (.int .i64 n) ∧ w1.cell? ⟨w.heap.size, 2, none⟩ = some (.int .i64 k) ∧ w1.cell? ⟨w.heap.size, 3, none⟩ = some (.string a) ∧ w1.cell? ⟨w.heap.size, 4, none⟩ = some (.string b) ∧ w1.cell? ⟨w.heap.size, 5, none⟩ = some (.slice A m c) := ⟨cell_of_row _ _ 0 _ _ _ HX5.out, cell_of_row _ _ 1 _ _ _ HX5.out, cell_of_row _ _ 2 _ _ _ HX5.out, cell_of_row _ _ 3 _ _ _ HX5.out, cell_of_row _ _ 4 _ _ _ HX5.out, cell_of_row _ _ 5 _ _ _ HX5.out⟩
  go_wp2_with (fail)
  refine (rkSync H1.out HS.out HOK.out a HL.out).mono ?_
  rintro x w2 hx
  obtain ⟨e, g, rfl, hy⟩ := RM.lift hx HBB.out
  have HX := Lib.hid hy
  clear hx hy q0 q1 q2 q3 q4 q5
  go_wp2_with (fail)
  refine bodyPost_ret (v := .tuple #[.int .i64 0, .int .i64 e, .bool g]) (results_tmp3 Try.results24 _ _ _) rfl ?_
  exact HX.out
set_option maxHeartbeats 8000000 in
set_option maxRecDepth 100000 in
theorem want3 (h : RkAt w B G E r L v P) (hs : Sim d fs r L) (ok : FsOk d fs) (n k : Int) (a b : ByteArray) (ha : a.size ≤ 140737488355328) (hb : b.size ≤ 140737488355328) (A : Option Addr) (m c : Nat) (l : List UInt8) (hl : DvX (RF G v) w (.slice A m c) l) (hm : m ≤ 140737488355328) (hL : L.length ≤ 100000) (hB : B ≤ w.heap.size) (hE : ∀ k, E k → k < w.heap.size) :
    Calls Try.prog 24 #[pR G, actV 3 n k a b A m c] w (RA w B G E v (liftO (opRename d fs a b))) := by
  have HBB : Hid (Below w.heap.size w (w.alloc (actO 3 n k a b A m c))) := Lib.hid ((Below.refl _ _).alloc (Nat.le_refl _) _)
  have HX5 : Hid ((w.alloc (actO 3 n k a b A m c)).heap[w.heap.size]? = some (actO 3 n k a b A m c)) := Lib.hid (heap_alloc_new w _)
  have H1 := Lib.hid (h.below HBB.out)
  have HS := Lib.hid hs
  have HOK := Lib.hid ok
  have HL1 := Lib.hid (hl.ch (Ch.of_below (S := RF G v) HBB.out) (fun _ _ h => h))
  have HM := Lib.hid hm
  have HL := Lib.hid hL
  have HB1 := Lib.hid (Nat.le_trans hB HBB.out.size)
  have HE1 := Lib.hid (fun k hk => Nat.lt_of_lt_of_le (hE k hk) HBB.out.size)
  have HA := Lib.hid ha
  have HBS := Lib.hid hb
  clear h hs ok hl hm hL hB hE ha hb
  go_enter Try.func24, Try.ntmps24
  go_upto_region 1 with (fail)
  generalize hwa : (w.alloc (actO 3 n k a b A m c)) = w1 at *
  clear hwa
  obtain ⟨q0, q1, q2, q3, q4, q5⟩ : w1.cell? ⟨w.heap.size, 0, none⟩ = some (.int .i64 3) ∧ w1.cell? ⟨w.heap.size, 1, none⟩ = some (.int .i64 n) ∧ w1.cell? ⟨w.heap.size, 2, none⟩ = some (.int .i64 k) ∧ w1.cell? ⟨w.heap.size, 3, none⟩ = some (.string a) ∧ w1.cell? ⟨w.heap.size, 4, none⟩ = some (.string b) ∧ w1.cell? ⟨w.heap.size, 5, none⟩ = some (.slice A m c) := ⟨cell_of_row _ _ 0 _ _ _ HX5.out, cell_of_row _ _ 1 _ _ _ HX5.out, cell_of_row _ _ 2 _ _ _ HX5.out, cell_of_row _ _ 3 _ _ _ HX5.out, cell_of_row _ _ 4 _ _ _ HX5.out, cell_of_row _ _ 5 _ _ _ HX5.out⟩
  go_wp2_with (fail)
  refine (rkRen H1.out HS.out HOK.out a b HBS.out HL.out HB1.out HE1.out).mono ?_
  rintro x w2 hx
  obtain ⟨e, g, rfl, hy⟩ := RM.lift hx HBB.out
  have HX := Lib.hid hy
  clear hx hy q0 q1 q2 q3 q4 q5
  go_wp2_with (fail)
  refine bodyPost_ret (v := .tuple #[.int .i64 0, .int .i64 e, .bool g]) (results_tmp3 Try.results24 _ _ _) rfl ?_
  exact HX.out
set_option maxHeartbeats 8000000 in
set_option maxRecDepth 100000 in
theorem want4 (h : RkAt w B G E r L v P) (hs : Sim d fs r L) (ok : FsOk d fs) (n k : Int) (a b : ByteArray) (ha : a.size ≤ 140737488355328) (hb : b.size ≤ 140737488355328) (A : Option Addr) (m c : Nat) (l : List UInt8) (hl : DvX (RF G v) w (.slice A m c) l) (hm : m ≤ 140737488355328) (hL : L.length ≤ 100000) (hB : B ≤ w.heap.size) (hE : ∀ k, E k → k < w.heap.size) :
    Calls Try.prog 24 #[pR G, actV 4 n k a b A m c] w (RA w B G E v (liftO (opRemove d fs a))) := by
  have HBB : Hid (Below w.heap.size w (w.alloc (actO 4 n k a b A m c))) := Lib.hid ((Below.refl _ _).alloc (Nat.le_refl _) _)
  have HX5 : Hid ((w.alloc (actO 4 n k a b A m c)).heap[w.heap.size]? = some (actO 4 n k a b A m c)) := Lib.hid (heap_alloc_new w _)
  have H1 := Lib.hid (h.below HBB.out)
  have HS := Lib.hid hs
  have HOK := Lib.hid ok
  have HL1 := Lib.hid (hl.ch (Ch.of_below (S := RF G v) HBB.out) (fun _ _ h => h))
  have HM := Lib.hid hm
  have HL := Lib.hid hL
  have HB1 := Lib.hid (Nat.le_trans hB HBB.out.size)
  have HE1 := Lib.hid (fun k hk => Nat.lt_of_lt_of_le (hE k hk) HBB.out.size)
  have HA := Lib.hid ha
  have HBS := Lib.hid hb
  clear h hs ok hl hm hL hB hE ha hb
  go_enter Try.func24, Try.ntmps24
  go_upto_region 1 with (fail)
  generalize hwa : (w.alloc (actO 4 n k a b A m c)) = w1 at *
  clear hwa
  obtain ⟨q0, q1, q2, q3, q4, q5⟩ : w1.cell? ⟨w.heap.size, 0, none⟩ = some (.int .i64 4) ∧ w1.cell? ⟨w.heap.size, 1, none⟩ = some (.int .i64 n) ∧ w1.cell? ⟨w.heap.size, 2, none⟩ = some (.int .i64 k) ∧ w1.cell? ⟨w.heap.size, 3, none⟩ = some (.string a) ∧ w1.cell? ⟨w.heap.size, 4, none⟩ = some (.string b) ∧ w1.cell? ⟨w.heap.size, 5, none⟩ = some (.slice A m c) := ⟨cell_of_row _ _ 0 _ _ _ HX5.out, cell_of_row _ _ 1 _ _ _ HX5.out, cell_of_row _ _ 2 _ _ _ HX5.out, cell_of_row _ _ 3 _ _ _ HX5.out, cell_of_row _ _ 4 _ _ _ HX5.out, cell_of_row _ _ 5 _ _ _ HX5.out⟩
  go_wp2_with (fail)
  refine (rkRem H1.out HS.out HOK.out a HL.out HB1.out HE1.out).mono ?_
  rintro x w2 hx
  obtain ⟨e, g, rfl, hy⟩ := RM.lift hx HBB.out
  have HX := Lib.hid hy
  clear hx hy q0 q1 q2 q3 q4 q5
  go_wp2_with (fail)
  refine bodyPost_ret (v := .tuple #[.int .i64 0, .int .i64 e, .bool g]) (results_tmp3 Try.results24 _ _ _) rfl ?_
  exact HX.out
set_option maxHeartbeats 8000000 in
set_option maxRecDepth 100000 in
theorem want8 (h : RkAt w B G E r L v P) (hs : Sim d fs r L) (ok : FsOk d fs) (n k : Int) (a b : ByteArray) (ha : a.size ≤ 140737488355328) (hb : b.size ≤ 140737488355328) (A : Option Addr) (m c : Nat) (l : List UInt8) (hl : DvX (RF G v) w (.slice A m c) l) (hm : m ≤ 140737488355328) (hL : L.length ≤ 100000) (hB : B ≤ w.heap.size) (hE : ∀ k, E k → k < w.heap.size) :
    Calls Try.prog 24 #[pR G, actV 8 n k a b A m c] w (RA w B G E v (liftO (opPower d fs k))) := by
  have HBB : Hid (Below w.heap.size w (w.alloc (actO 8 n k a b A m c))) := Lib.hid ((Below.refl _ _).alloc (Nat.le_refl _) _)
  have HX5 : Hid ((w.alloc (actO 8 n k a b A m c)).heap[w.heap.size]? = some (actO 8 n k a b A m c)) := Lib.hid (heap_alloc_new w _)
  have H1 := Lib.hid (h.below HBB.out)
  have HS := Lib.hid hs
  have HOK := Lib.hid ok
  have HL1 := Lib.hid (hl.ch (Ch.of_below (S := RF G v) HBB.out) (fun _ _ h => h))
  have HM := Lib.hid hm
  have HL := Lib.hid hL
  have HB1 := Lib.hid (Nat.le_trans hB HBB.out.size)
  have HE1 := Lib.hid (fun k hk => Nat.lt_of_lt_of_le (hE k hk) HBB.out.size)
  have HA := Lib.hid ha
  have HBS := Lib.hid hb
  clear h hs ok hl hm hL hB hE ha hb
  go_enter Try.func24, Try.ntmps24
  go_upto_region 1 with (fail)
  generalize hwa : (w.alloc (actO 8 n k a b A m c)) = w1 at *
  clear hwa
  obtain ⟨q0, q1, q2, q3, q4, q5⟩ : w1.cell? ⟨w.heap.size, 0, none⟩ = some (.int .i64 8) ∧ w1.cell? ⟨w.heap.size, 1, none⟩ = some (.int .i64 n) ∧ w1.cell? ⟨w.heap.size, 2, none⟩ = some (.int .i64 k) ∧ w1.cell? ⟨w.heap.size, 3, none⟩ = some (.string a) ∧ w1.cell? ⟨w.heap.size, 4, none⟩ = some (.string b) ∧ w1.cell? ⟨w.heap.size, 5, none⟩ = some (.slice A m c) := ⟨cell_of_row _ _ 0 _ _ _ HX5.out, cell_of_row _ _ 1 _ _ _ HX5.out, cell_of_row _ _ 2 _ _ _ HX5.out, cell_of_row _ _ 3 _ _ _ HX5.out, cell_of_row _ _ 4 _ _ _ HX5.out, cell_of_row _ _ 5 _ _ _ HX5.out⟩
  go_wp2_with (fail)
  refine (rkPower H1.out HL.out (fun e he => HOK.out.safe e (HS.out.perm.mem_iff.1 he)) (fun e he => by have h5 := HOK.out.len (in_fget HOK.out.names (HS.out.perm.mem_iff.1 (show (e.1, e.2) ∈ L from he))); have := HOK.out.ok.used; omega) k).mono ?_
  rintro x w2 ⟨rfl, P2, h2, hc2⟩
  have HX : Hid (RA w B G E v (liftO (opPower d fs k)) (ret3 0 0 false) w2) := Lib.hid (RA.mk h2 (HS.out.power HOK.out k _) ((Ch.of_below (S := RF G v) HBB.out).trans hc2 (fun _ _ h => h)))
  clear h2 hc2 q0 q1 q2 q3 q4 q5
  go_wp2_with (fail)
  refine bodyPost_ret (v := .tuple #[.int .i64 0, .int .i64 0, .bool false]) (results_tmp3 Try.results24 _ _ _) rfl ?_
  exact HX.out
set_option maxHeartbeats 8000000 in
set_option maxRecDepth 100000 in
theorem wantElse (h : RkAt w B G E r L v P) (hs : Sim d fs r L) (ok : FsOk d fs) (kd : Int) (n k : Int) (a b : ByteArray) (ha : a.size ≤ 140737488355328) (hb : b.size ≤ 140737488355328) (A : Option Addr) (m c : Nat) (l : List UInt8) (hl : DvX (RF G v) w (.slice A m c) l) (hm : m ≤ 140737488355328) (hL : L.length ≤ 100000) (hB : B ≤ w.heap.size) (hE : ∀ k, E k → k < w.heap.size) (HK : Hid ((kd == 0) = false ∧ (kd == 1) = false ∧ (kd == 2) = false ∧ (kd == 3) = false ∧ (kd == 4) = false ∧ (kd == 5) = false ∧ (kd == 6) = false ∧ (kd == 7) = false ∧ (kd == 8) = false)) :
    Calls Try.prog 24 #[pR G, actV kd n k a b A m c] w (RA w B G E v ((0, .inl 0), d, fs)) := by
  have HBB : Hid (Below w.heap.size w (w.alloc (actO kd n k a b A m c))) := Lib.hid ((Below.refl _ _).alloc (Nat.le_refl _) _)
  have HX5 : Hid ((w.alloc (actO kd n k a b A m c)).heap[w.heap.size]? = some (actO kd n k a b A m c)) := Lib.hid (heap_alloc_new w _)
  have H1 := Lib.hid (h.below HBB.out)
  have HS := Lib.hid hs
  have HOK := Lib.hid ok
  have HL1 := Lib.hid (hl.ch (Ch.of_below (S := RF G v) HBB.out) (fun _ _ h => h))
  have HM := Lib.hid hm
  have HL := Lib.hid hL
  have HB1 := Lib.hid (Nat.le_trans hB HBB.out.size)
  have HE1 := Lib.hid (fun k hk => Nat.lt_of_lt_of_le (hE k hk) HBB.out.size)
  have HA := Lib.hid ha
  have HBS := Lib.hid hb
  clear h hs ok hl hm hL hB hE ha hb
  go_enter Try.func24, Try.ntmps24
  go_upto_region 1 with (fail)
  generalize hwa : (w.alloc (actO kd n k a b A m c)) = w1 at *
  clear hwa
  obtain ⟨q0, q1, q2, q3, q4, q5⟩ : w1.cell? ⟨w.heap.size, 0, none⟩ = some (.int .i64 kd) ∧ w1.cell? ⟨w.heap.size, 1, none⟩ = some (.int .i64 n) ∧ w1.cell? ⟨w.heap.size, 2, none⟩ = some (.int .i64 k) ∧ w1.cell? ⟨w.heap.size, 3, none⟩ = some (.string a) ∧ w1.cell? ⟨w.heap.size, 4, none⟩ = some (.string b) ∧ w1.cell? ⟨w.heap.size, 5, none⟩ = some (.slice A m c) := ⟨cell_of_row _ _ 0 _ _ _ HX5.out, cell_of_row _ _ 1 _ _ _ HX5.out, cell_of_row _ _ 2 _ _ _ HX5.out, cell_of_row _ _ 3 _ _ _ HX5.out, cell_of_row _ _ 4 _ _ _ HX5.out, cell_of_row _ _ 5 _ _ _ HX5.out⟩
  have HN : Hid (RA w B G E v ((0, .inl 0), d, fs) (ret3 0 0 false) w1) := Lib.hid (RA.mk H1.out HS.out (Ch.of_below (S := RF G v) HBB.out))
  obtain ⟨g0, g1, g2, g3, g4, g5, g6, g7, g8⟩ : (kd == 0) = false ∧ (kd == 1) = false ∧ (kd == 2) = false ∧ (kd == 3) = false ∧ (kd == 4) = false ∧ (kd == 5) = false ∧ (kd == 6) = false ∧ (kd == 7) = false ∧ (kd == 8) = false := HK.out
  go_wp2_with (fail)
  refine bodyPost_ret (v := .tuple #[.int .i64 0, .int .i64 0, .bool false]) (results_tmp3 Try.results24 _ _ _) rfl ?_
  exact HN.out
set_option maxHeartbeats 8000000 in
set_option maxRecDepth 100000 in
theorem want5 (h : RkAt w B G E r L v P) (hs : Sim d fs r L) (ok : FsOk d fs) (n k : Int) (a b : ByteArray) (ha : a.size ≤ 140737488355328) (hb : b.size ≤ 140737488355328) (A : Option Addr) (m c : Nat) (l : List UInt8) (hl : DvX (RF G v) w (.slice A m c) l) (hm : m ≤ 140737488355328) (hL : L.length ≤ 100000) (hB : B ≤ w.heap.size) (hE : ∀ k, E k → k < w.heap.size) :
    Calls Try.prog 24 #[pR G, actV 5 n k a b A m c] w (RA w B G E v (liftO (opSetRoom d fs n))) := by
  have HBB : Hid (Below w.heap.size w (w.alloc (actO 5 n k a b A m c))) := Lib.hid ((Below.refl _ _).alloc (Nat.le_refl _) _)
  have HX5 : Hid ((w.alloc (actO 5 n k a b A m c)).heap[w.heap.size]? = some (actO 5 n k a b A m c)) := Lib.hid (heap_alloc_new w _)
  have H1 := Lib.hid (h.below HBB.out)
  have HS := Lib.hid hs
  have HOK := Lib.hid ok
  have HL1 := Lib.hid (hl.ch (Ch.of_below (S := RF G v) HBB.out) (fun _ _ h => h))
  have HM := Lib.hid hm
  have HL := Lib.hid hL
  have HB1 := Lib.hid (Nat.le_trans hB HBB.out.size)
  have HE1 := Lib.hid (fun k hk => Nat.lt_of_lt_of_le (hE k hk) HBB.out.size)
  have HA := Lib.hid ha
  have HBS := Lib.hid hb
  clear h hs ok hl hm hL hB hE ha hb
  go_enter Try.func24, Try.ntmps24
  go_upto_region 1 with (fail)
  generalize hwa : (w.alloc (actO 5 n k a b A m c)) = w1 at *
  clear hwa
  obtain ⟨q0, q1, q2, q3, q4, q5⟩ : w1.cell? ⟨w.heap.size, 0, none⟩ = some (.int .i64 5) ∧ w1.cell? ⟨w.heap.size, 1, none⟩ = some (.int .i64 n) ∧ w1.cell? ⟨w.heap.size, 2, none⟩ = some (.int .i64 k) ∧ w1.cell? ⟨w.heap.size, 3, none⟩ = some (.string a) ∧ w1.cell? ⟨w.heap.size, 4, none⟩ = some (.string b) ∧ w1.cell? ⟨w.heap.size, 5, none⟩ = some (.slice A m c) := ⟨cell_of_row _ _ 0 _ _ _ HX5.out, cell_of_row _ _ 1 _ _ _ HX5.out, cell_of_row _ _ 2 _ _ _ HX5.out, cell_of_row _ _ 3 _ _ _ HX5.out, cell_of_row _ _ 4 _ _ _ HX5.out, cell_of_row _ _ 5 _ _ _ HX5.out⟩
  have HN : Hid (RA w B G E v ((0, .inl 3), d, fs) (ret3 0 3 false) w1) := Lib.hid (RA.mk H1.out HS.out (Ch.of_below (S := RF G v) HBB.out))
  have f1 := H1.out.frozen 1
  have c1 := H1.out.cell 1
  have HROW : Hid ((w1.setCell ⟨G, 1, none⟩ (.int .i64 n)).heap[G]? = some (rkObj v { r with size := n })) := Lib.hid (heap_set_row H1.out.row _)
  have HY : Hid (RA w B G E v ((0, .inl 0), { d with room := n }, fs) (ret3 0 0 false) (w1.setCell ⟨G, 1, none⟩ (.int .i64 n))) := Lib.hid (RA.mk (H1.out.nums ((Ch.refl _ _).set1 1 _) HROW.out) ⟨rfl, HS.out.count, HS.out.armed, HS.out.keep, HS.out.fail, HS.out.perm, HS.out.srt⟩ ((Ch.of_below (S := RF G v) HBB.out).trans ((Ch.refl _ _).set1 1 _) (fun _ _ hk => .inl hk)))
  by_cases h0 : n < 0
  · have d0 : decide (n < 0) = true := decide_eq_true h0
    have HEQ : Hid (liftO (opSetRoom d fs n) = ((0, .inl 3), d, fs)) := Lib.hid (by unfold opSetRoom; rw [if_neg (by omega)]; rfl)
    clear h0
    go_wp2_with (fail)
    refine bodyPost_ret (v := .tuple #[.int .i64 0, .int .i64 3, .bool false]) (results_tmp3 Try.results24 _ _ _) rfl ?_
    rw [HEQ.out]
    exact HN.out
  · have d0 : decide (n < 0) = false := decide_eq_false h0
    by_cases h1 : 1073741824 < n
    · have d1 : decide (1073741824 < n) = true := decide_eq_true h1
      have HEQ : Hid (liftO (opSetRoom d fs n) = ((0, .inl 3), d, fs)) := Lib.hid (by unfold opSetRoom; rw [if_neg (by omega)]; rfl)
      go_wp2_with (fail)
      refine bodyPost_ret (v := .tuple #[.int .i64 0, .int .i64 3, .bool false]) (results_tmp3 Try.results24 _ _ _) rfl ?_
      rw [HEQ.out]
      exact HN.out
    · have d1 : decide (1073741824 < n) = false := decide_eq_false h1
      have HEQ : Hid (liftO (opSetRoom d fs n) = ((0, .inl 0), { d with room := n }, fs)) := Lib.hid (by unfold opSetRoom; rw [if_pos (by omega)]; rfl)
      go_wp2_with (fail)
      refine bodyPost_ret (v := .tuple #[.int .i64 0, .int .i64 0, .bool false]) (results_tmp3 Try.results24 _ _ _) rfl ?_
      rw [HEQ.out]
      exact HY.out
set_option maxHeartbeats 8000000 in
set_option maxRecDepth 100000 in
theorem want6 (h : RkAt w B G E r L v P) (hs : Sim d fs r L) (ok : FsOk d fs) (n k : Int) (a b : ByteArray) (ha : a.size ≤ 140737488355328) (hb : b.size ≤ 140737488355328) (A : Option Addr) (m c : Nat) (l : List UInt8) (hl : DvX (RF G v) w (.slice A m c) l) (hm : m ≤ 140737488355328) (hL : L.length ≤ 100000) (hB : B ≤ w.heap.size) (hE : ∀ k, E k → k < w.heap.size) :
    Calls Try.prog 24 #[pR G, actV 6 n k a b A m c] w (RA w B G E v (liftO (opFail d fs n))) := by
  have HBB : Hid (Below w.heap.size w (w.alloc (actO 6 n k a b A m c))) := Lib.hid ((Below.refl _ _).alloc (Nat.le_refl _) _)
  have HX5 : Hid ((w.alloc (actO 6 n k a b A m c)).heap[w.heap.size]? = some (actO 6 n k a b A m c)) := Lib.hid (heap_alloc_new w _)
  have H1 := Lib.hid (h.below HBB.out)
  have HS := Lib.hid hs
  have HOK := Lib.hid ok
  have HL1 := Lib.hid (hl.ch (Ch.of_below (S := RF G v) HBB.out) (fun _ _ h => h))
  have HM := Lib.hid hm
  have HL := Lib.hid hL
  have HB1 := Lib.hid (Nat.le_trans hB HBB.out.size)
  have HE1 := Lib.hid (fun k hk => Nat.lt_of_lt_of_le (hE k hk) HBB.out.size)
  have HA := Lib.hid ha
  have HBS := Lib.hid hb
  clear h hs ok hl hm hL hB hE ha hb
  go_enter Try.func24, Try.ntmps24
  go_upto_region 1 with (fail)
  generalize hwa : (w.alloc (actO 6 n k a b A m c)) = w1 at *
  clear hwa
  obtain ⟨q0, q1, q2, q3, q4, q5⟩ : w1.cell? ⟨w.heap.size, 0, none⟩ = some (.int .i64 6) ∧ w1.cell? ⟨w.heap.size, 1, none⟩ = some (.int .i64 n) ∧ w1.cell? ⟨w.heap.size, 2, none⟩ = some (.int .i64 k) ∧ w1.cell? ⟨w.heap.size, 3, none⟩ = some (.string a) ∧ w1.cell? ⟨w.heap.size, 4, none⟩ = some (.string b) ∧ w1.cell? ⟨w.heap.size, 5, none⟩ = some (.slice A m c) := ⟨cell_of_row _ _ 0 _ _ _ HX5.out, cell_of_row _ _ 1 _ _ _ HX5.out, cell_of_row _ _ 2 _ _ _ HX5.out, cell_of_row _ _ 3 _ _ _ HX5.out, cell_of_row _ _ 4 _ _ _ HX5.out, cell_of_row _ _ 5 _ _ _ HX5.out⟩
  have HN : Hid (RA w B G E v ((0, .inl 3), d, fs) (ret3 0 3 false) w1) := Lib.hid (RA.mk H1.out HS.out (Ch.of_below (S := RF G v) HBB.out))
  have f5 := H1.out.frozen 5
  have c5 := H1.out.cell 5
  have HROW : Hid ((w1.setCell ⟨G, 5, none⟩ (.int .i64 n)).heap[G]? = some (rkObj v { r with fail := n })) := Lib.hid (heap_set_row H1.out.row _)
  have HY : Hid (RA w B G E v ((0, .inl 0), { d with failIn := n }, fs) (ret3 0 0 false) (w1.setCell ⟨G, 5, none⟩ (.int .i64 n))) := Lib.hid (RA.mk (H1.out.nums ((Ch.refl _ _).set1 5 _) HROW.out) ⟨HS.out.size, HS.out.count, HS.out.armed, HS.out.keep, rfl, HS.out.perm, HS.out.srt⟩ ((Ch.of_below (S := RF G v) HBB.out).trans ((Ch.refl _ _).set1 5 _) (fun _ _ hk => .inl hk)))
  by_cases h0 : n < 1
  · have d0 : decide (n < 1) = true := decide_eq_true h0
    have HEQ : Hid (liftO (opFail d fs n) = ((0, .inl 3), d, fs)) := Lib.hid (by unfold opFail; rw [if_pos h0]; rfl)
    clear h0
    go_wp2_with (fail)
    refine bodyPost_ret (v := .tuple #[.int .i64 0, .int .i64 3, .bool false]) (results_tmp3 Try.results24 _ _ _) rfl ?_
    rw [HEQ.out]
    exact HN.out
  · have d0 : decide (n < 1) = false := decide_eq_false h0
    have HEQ : Hid (liftO (opFail d fs n) = ((0, .inl 0), { d with failIn := n }, fs)) := Lib.hid (by unfold opFail; rw [if_neg h0]; rfl)
    clear h0
    go_wp2_with (fail)
    refine bodyPost_ret (v := .tuple #[.int .i64 0, .int .i64 0, .bool false]) (results_tmp3 Try.results24 _ _ _) rfl ?_
    rw [HEQ.out]
    exact HY.out
set_option maxHeartbeats 8000000 in
set_option maxRecDepth 100000 in
theorem want7 (h : RkAt w B G E r L v P) (hs : Sim d fs r L) (ok : FsOk d fs) (n k : Int) (a b : ByteArray) (ha : a.size ≤ 140737488355328) (hb : b.size ≤ 140737488355328) (A : Option Addr) (m c : Nat) (l : List UInt8) (hl : DvX (RF G v) w (.slice A m c) l) (hm : m ≤ 140737488355328) (hL : L.length ≤ 100000) (hB : B ≤ w.heap.size) (hE : ∀ k, E k → k < w.heap.size) :
    Calls Try.prog 24 #[pR G, actV 7 n k a b A m c] w (RA w B G E v (liftO (opArm d fs n k))) := by
  have HBB : Hid (Below w.heap.size w (w.alloc (actO 7 n k a b A m c))) := Lib.hid ((Below.refl _ _).alloc (Nat.le_refl _) _)
  have HX5 : Hid ((w.alloc (actO 7 n k a b A m c)).heap[w.heap.size]? = some (actO 7 n k a b A m c)) := Lib.hid (heap_alloc_new w _)
  have H1 := Lib.hid (h.below HBB.out)
  have HS := Lib.hid hs
  have HOK := Lib.hid ok
  have HL1 := Lib.hid (hl.ch (Ch.of_below (S := RF G v) HBB.out) (fun _ _ h => h))
  have HM := Lib.hid hm
  have HL := Lib.hid hL
  have HB1 := Lib.hid (Nat.le_trans hB HBB.out.size)
  have HE1 := Lib.hid (fun k hk => Nat.lt_of_lt_of_le (hE k hk) HBB.out.size)
  have HA := Lib.hid ha
  have HBS := Lib.hid hb
  clear h hs ok hl hm hL hB hE ha hb
  go_enter Try.func24, Try.ntmps24
  go_upto_region 1 with (fail)
  generalize hwa : (w.alloc (actO 7 n k a b A m c)) = w1 at *
  clear hwa
  obtain ⟨q0, q1, q2, q3, q4, q5⟩ : w1.cell? ⟨w.heap.size, 0, none⟩ = some (.int .i64 7) ∧ w1.cell? ⟨w.heap.size, 1, none⟩ = some (.int .i64 n) ∧ w1.cell? ⟨w.heap.size, 2, none⟩ = some (.int .i64 k) ∧ w1.cell? ⟨w.heap.size, 3, none⟩ = some (.string a) ∧ w1.cell? ⟨w.heap.size, 4, none⟩ = some (.string b) ∧ w1.cell? ⟨w.heap.size, 5, none⟩ = some (.slice A m c) := ⟨cell_of_row _ _ 0 _ _ _ HX5.out, cell_of_row _ _ 1 _ _ _ HX5.out, cell_of_row _ _ 2 _ _ _ HX5.out, cell_of_row _ _ 3 _ _ _ HX5.out, cell_of_row _ _ 4 _ _ _ HX5.out, cell_of_row _ _ 5 _ _ _ HX5.out⟩
  have HN : Hid (RA w B G E v ((0, .inl 3), d, fs) (ret3 0 3 false) w1) := Lib.hid (RA.mk H1.out HS.out (Ch.of_below (S := RF G v) HBB.out))
  have f3 := H1.out.frozen 3
  have c3 := H1.out.cell 3
  have f4 := H1.out.frozen 4
  have c4 := H1.out.cell 4
  have HROW : Hid (((w1.setCell ⟨G, 3, none⟩ (.int .i64 n)).setCell ⟨G, 4, none⟩ (.int .i64 k)).heap[G]? = some (rkObj v { r with armed := n, keep := k })) := Lib.hid (by
    have h1 : (w1.setCell ⟨G, 3, none⟩ (.int .i64 n)).heap[G]? = some (rkObj v { r with armed := n }) := heap_set_row H1.out.row _
    exact heap_set_row h1 _)
  have HY : Hid (∀ W, Below (w1.setCell ⟨G, 3, none⟩ (.int .i64 n)).heap.size ((w1.setCell ⟨G, 3, none⟩ (.int .i64 n)).setCell ⟨G, 4, none⟩ (.int .i64 k)) W → RA w B G E v ((0, .inl 0), { d with armedIn := n, armKeep := k }, fs) (ret3 0 0 false) W) := Lib.hid (fun W hW => RA.mk ((H1.out.nums (((Ch.refl _ _).set1 3 _).set1 4 _) HROW.out).below (by simpa using hW)) ⟨HS.out.size, HS.out.count, rfl, rfl, HS.out.fail, HS.out.perm, HS.out.srt⟩ (((Ch.of_below (S := RF G v) HBB.out).trans (((Ch.refl _ _).set1 3 _).set1 4 _) (fun _ _ hk => .inl hk)).trans (Ch.of_below (S := fun _ => False) (by simpa using hW)) (fun _ _ h => h.elim)))
  have gne : w.heap.size ≠ G := fun h => by have := HX5.out; rw [h, H1.out.row] at this; simp only [Option.some.injEq, Obj.cells.injEq] at this; exact absurd this.2.1 (by decide)
  have gne' : G ≠ w.heap.size := gne.symm
  by_cases h0 : n < 1
  · have d0 : decide (n < 1) = true := decide_eq_true h0
    have HEQ : Hid (liftO (opArm d fs n k) = ((0, .inl 3), d, fs)) := Lib.hid (by unfold opArm; rw [if_pos h0]; rfl)
    clear h0
    go_wp2_with (fail)
    refine bodyPost_ret (v := .tuple #[.int .i64 0, .int .i64 3, .bool false]) (results_tmp3 Try.results24 _ _ _) rfl ?_
    rw [HEQ.out]
    exact HN.out
  · have d0 : decide (n < 1) = false := decide_eq_false h0
    have HEQ : Hid (liftO (opArm d fs n k) = ((0, .inl 0), { d with armedIn := n, armKeep := k }, fs)) := Lib.hid (by unfold opArm; rw [if_neg h0]; rfl)
    clear h0
    go_wp2_with (fail)
    go_region
    all_goals
      go_wp2_with (fail)
      refine bodyPost_ret (v := .tuple #[.int .i64 0, .int .i64 0, .bool false]) (results_tmp3 Try.results24 _ _ _) rfl ?_
      rw [HEQ.out]
      exact HY.out _ (by first | exact Below.drew (Below.refl _ _) | exact Below.refl _ _)
end
end Go.Proofs.Ytecmadodpkfnnaa
