/- CursorActs, walked. -/
import Derived.Test.YtolomfdommnklaaCurC3
import Derived.Test.YtolomfdommnklaaOpenCacts
import Derived.Test.YtolomfdommnklaaDkNames
import Derived.Test.YtolomfdommnklaaHeldMore
import Derived.BigQuiet
import Derived.Deep.CutBlock
import Derived.Deep.CutRange
import Derived.Deep.DeepCutAuto
namespace Go.Proofs.Ytolomfdommnklaa
open Go.RowKit Go.MapKept

abbrev srtN (T : List (List UInt8)) : List (List UInt8) := List.mergeSort T fun x y => decide (x ≤ y)
theorem names_srt {L fs : Fs} {T : List (List UInt8)} (hs : Srt L) (hp : L.Perm fs) (hT : T.Perm (fs.map fun e => e.1.data.toList)) : srtN T = L.map fun e => e.1.data.toList := by
  have hsrt : (srtN T).Pairwise (fun x y => x ≤ y) := by
    have := List.pairwise_mergeSort (le := fun x y : List UInt8 => decide (x ≤ y)) (fun a b c h1 h2 => by simp only [decide_eq_true_eq] at *; exact Std.le_trans h1 h2) (fun a b => by simp only [Bool.or_eq_true, decide_eq_true_eq]; exact Std.le_total) T
    exact this.imp (fun h => by simpa using h)
  have hl : (L.map fun e => e.1.data.toList).Pairwise (fun x y => x ≤ y) := by
    rw [List.pairwise_map]
    exact hs.imp (fun {a b} h => Std.le_of_lt (bl_iff.1 h))
  refine List.Perm.eq_of_pairwise (le := fun x y => x ≤ y) (fun a b _ _ h1 h2 => Std.le_antisymm h1 h2) hsrt hl ?_
  exact ((List.mergeSort_perm T _).trans hT).trans (hp.map _).symm
/-- where both disks stand between the calls -/
def CSt (w : World) (X D M G j : Nat) (wx : World) : Prop := ∃ d F r L v P, DkAt wx w.heap.size D M d F ∧ RkAt wx w.heap.size G (DFoot D M F) r L v P ∧ Sim d (fsOf F) r L ∧ FsOk d (fsOf F) ∧ d.ops ≤ 6 * (j : Int) ∧ F.length ≤ 6 * j ∧ wx.heap[X]? = some (.cells #[pD D] 35) ∧ Below w.heap.size w wx
theorem CSt.below {w wx wy : World} {X D M G j : Nat} (h : CSt w X D M G j wx) (hb : Below wx.heap.size wx wy) : CSt w X D M G j wy := by
  obtain ⟨d, F, r, L, v, P, h1, h2, h3, h4, h5, h6, h7, h8⟩ := h
  exact ⟨d, F, r, L, v, P, h1.below hb, h2.below hb, h3, h4, h5, h6, (hb.block X (Array.getElem?_eq_some_iff.1 h7).1).trans h7, h8.trans (hb.mono h8.size)⟩
theorem CSt.nums {w w6 w7 : World} {X D M G j : Nat} {d : Dk} {F : List Ent} {r r' : Rk} {L : Fs} {v : Value} {P : List Value} (h : DkAt w6 w.heap.size D M d F) (k : RkAt w6 w.heap.size G (DFoot D M F) r L v P) (hx : w6.heap[X]? = some (.cells #[pD D] 35)) (hb : Below w.heap.size w w6)
    (hc : Ch (At1 G) w6 w7) (hrow : w7.heap[G]? = some (rkObj v r')) (hs : Sim d (fsOf F) r' L) (ok : FsOk d (fsOf F)) (ho : d.ops ≤ 6 * (j : Int)) (hl : F.length ≤ 6 * j) : CSt w X D M G j w7 :=
  ⟨d, F, r', L, v, P, h.ch hc (fun q hq hg => apart_rk h k (.inl hg) hq), k.nums hc hrow, hs, ok, ho, hl, hc.row hx (fun hg => (apart_box h k hx).2 _ (.inl rfl) (by rw [hg])), hb.trans (hc.below (fun q hq => by rw [hq]; exact k.hG) hb.size)⟩
set_option maxHeartbeats 16000000 in
set_option maxRecDepth 100000 in
theorem cursorActs_walk (n : Int) (A : Option Addr) (k c : Nat) (T : List CAct) (w : World) (_wn : (Lit.int .i64 n).wf = true) (hL : CAs w A k c T) : Calls Try.prog 4 #[.int .i64 n, .slice A k c] w (True_ w) := by
  have HL := Lib.hid hL
  have hmax : k ≤ 140737488351232 := hL.2.2.2.1
  clear hL
  go_enter Try.func4, Try.ntmps4
  go_wp2_with (fail)
  refine (curRoom n w).mono ?_
  rintro e w0 ⟨rfl, rfl⟩
  have HRM := Lib.hid (roomF_le n)
  have HRN : Hid (∀ W, Calls Try.prog 16 #[.int .i64 n] W fun e w' => e = .returned (.int .i64 (roomF n : Int)) ∧ W = w') := Lib.hid (fun W => curRoom n W)
  generalize roomF n = R at *
  go_wp2_with (fail)
  refine (dkNew (R : Int) (by have := HRM.out; omega) w).mono ?_
  rintro e w1 ⟨D, M, rfl, h1, hb1⟩
  have hbx : Below w1.heap.size w1 (w1.alloc (.cells #[pD D] 35)) := (Below.refl _ _).alloc (Nat.le_refl _) _
  have H2 := Lib.hid (h1.below hbx)
  have HB2 : Hid (Below w.heap.size w (w1.alloc (.cells #[pD D] 35))) := Lib.hid (hb1.trans (hbx.mono hb1.size))
  have HX2 : Hid ((w1.alloc (.cells #[pD D] 35)).heap[w1.heap.size]? = some (.cells #[pD D] 35)) := Lib.hid (heap_alloc_new w1 _)
  have HDB : Hid (w.heap.size ≤ w1.heap.size) := Lib.hid hb1.size
  clear hbx h1 hb1
  go_wp2_with (fail)
  generalize w1.alloc (.cells #[pD D] 35) = w2 at *
  obtain ⟨X, hX⟩ : ∃ X, X = w1.heap.size := ⟨_, rfl⟩
  rw [← hX] at HX2 HDB ⊢
  clear hX
  refine (curAlive w2).mono ?_
  rintro e w3 ⟨rfl, hb3⟩
  have H3 := Lib.hid (H2.out.below hb3)
  have HX3 := Lib.hid ((hb3.block X (Array.getElem?_eq_some_iff.1 HX2.out).1).trans HX2.out)
  have HB3 : Hid (Below w.heap.size w w3) := Lib.hid (HB2.out.trans (hb3.mono HB2.out.size))
  have cX : w3.cell? ⟨X, 0, none⟩ = some (pD D) := cell_of_row _ _ 0 _ _ _ HX3.out
  clear hb3 H2 HX2 HB2
  by_cases hbig : 100 < k
  · have d1 : decide ((100 : Int) < (k : Int)) = true := by simp; omega
    go_wp2_with (fail)
    refine (curAlive w3).mono ?_
    rintro e w4 ⟨rfl, hb4⟩
    have HB4 : Hid (Below w.heap.size w w4) := Lib.hid (HB3.out.trans (hb4.mono HB3.out.size))
    clear hb4
    go_wp2_with (fail)
    go_ret
    exact ⟨rfl, HB4.out⟩
  have d1 : decide ((100 : Int) < (k : Int)) = false := by simp; omega
  have HN : Hid (k ≤ 100) := Lib.hid (by omega)
  clear hbig
  go_wp2_with (fail)
  refine (HRN.out w3).mono ?_
  rintro e w4 ⟨rfl, hw4⟩
  obtain rfl := hw4
  have HBA : Hid (Below w3.heap.size w3 (w3.alloc (.cells #[.slice none 0 0, .int .i64 (R : Int), .int .i64 0, .int .i64 0, .int .i64 0, .int .i64 0] TRD))) := Lib.hid ((Below.refl _ _).alloc (Nat.le_refl _) _)
  have HK5 : Hid (RkAt (w3.alloc (.cells #[.slice none 0 0, .int .i64 (R : Int), .int .i64 0, .int .i64 0, .int .i64 0, .int .i64 0] TRD)) w.heap.size w3.heap.size (DFoot D M []) ⟨(R : Int), 0, 0, 0, 0⟩ [] (.slice none 0 0) []) := Lib.hid (RkAt.fresh w3 (R : Int) HB3.out.size)
  obtain ⟨G, hG⟩ : ∃ G, G = w3.heap.size := ⟨_, rfl⟩
  rw [← hG] at HK5
  have HCS : Hid (CSt w X D M G 0 (w3.alloc (.cells #[.slice none 0 0, .int .i64 (R : Int), .int .i64 0, .int .i64 0, .int .i64 0, .int .i64 0] TRD))) := Lib.hid ⟨_, _, _, _, _, _, H3.out.below HBA.out, HK5.out, ⟨rfl, rfl, rfl, rfl, rfl, List.Perm.nil, List.Pairwise.nil⟩, newDk_ok _ (by have := HRM.out; omega), by simp, by simp, (HBA.out.block X (Array.getElem?_eq_some_iff.1 HX3.out).1).trans HX3.out, HB3.out.trans (HBA.out.mono HB3.out.size)⟩
  go_wp2_with (fail)
  clear cX d1
  rw [← hG]
  clear hG
  generalize (w3.alloc (.cells #[.slice none 0 0, .int .i64 (R : Int), .int .i64 0, .int .i64 0, .int .i64 0, .int .i64 0] TRD)) = w6 at *
  clear H3 HX3 HB3 HBA HK5
  go_loopw [52] (fun i wr => ∃ j : Nat, j ≤ k ∧ i = .int .i64 j ∧ CSt w X D M G j wr) (fun i _ => k - (intOf i).toNat)
  case atStart => exact ⟨0, by omega, rfl, HCS.out⟩
  case round =>
    clear HCS
    obtain ⟨wo, rfl⟩ : ∃ wo : World, wo = wr := ⟨_, rfl⟩
    obtain ⟨j, hj, rfl, hcs⟩ := hrel
    have HCS := Lib.hid hcs
    have HB : Hid (Below w.heap.size w wo) := Lib.hid (by obtain ⟨_, _, _, _, _, _, _, _, _, _, _, _, _, h⟩ := hcs; exact h)
    clear hcs
    by_cases hlt : j < k
    · obtain ⟨b, o, rfl, hxx⟩ := (HL.out.below HB.out).2.2.2.2 (by omega)
      obtain ⟨⟨kd, nn, kp⟩, hxk⟩ : ∃ x, T[j]? = some x := ⟨_, List.getElem?_eq_getElem (by have := HL.out.1; omega)⟩
      obtain ⟨⟨c0, c1, c2⟩, hfit⟩ := hxx j _ hxk
      have HFIT := Lib.hid hfit
      have hbo : Below wo.heap.size wo (wo.alloc (.cells #[.int .i64 kd, .int .i64 nn, .int .i64 kp] 44)) := (Below.refl _ _).alloc (Nat.le_refl _) _
      have HC5 := Lib.hid (HCS.out.below hbo)
      have HE5 : Hid ((wo.alloc (.cells #[.int .i64 kd, .int .i64 nn, .int .i64 kp] 44)).heap[wo.heap.size]? = some (.cells #[.int .i64 kd, .int .i64 nn, .int .i64 kp] 44)) := Lib.hid (heap_alloc_new wo _)
      have HE5N : Hid (∀ W, Below wo.heap.size wo W → True) := Lib.hid (fun _ _ => trivial)
      have HBO := Lib.hid hbo
      clear hxx hxk hbo hfit
      go_upto_region 8 with (fail)
      generalize wo.alloc (.cells #[.int .i64 kd, .int .i64 nn, .int .i64 kp] 44) = w5 at *
      clear c0 c1 c2 HE5N
      have e0 : w5.cell? ⟨wo.heap.size, 0, none⟩ = some (.int .i64 kd) := cell_of_row _ _ 0 _ _ _ HE5.out
      go_upto_block 2 with (fail)
      go_cut [] (fun wx => CSt w X D M G (j + 1) wx)
      case first =>
        obtain ⟨d, F, r, L, v, P, h, hr, hs, ok, hop, hle, hx, hb⟩ := HCS.out
        have H5 := Lib.hid (h.below HBO.out)
        have K5 := Lib.hid (hr.below HBO.out)
        have HS := Lib.hid hs
        have HOK := Lib.hid ok
        have HOP := Lib.hid hop
        have HLE := Lib.hid hle
        have HX5 : Hid (w5.heap[X]? = some (.cells #[pD D] 35)) := Lib.hid ((HBO.out.block X (Array.getElem?_eq_some_iff.1 hx).1).trans hx)
        have HFT : Hid (∀ q, DFoot D M F q → q < wo.heap.size) := Lib.hid (fun q hq => (h.foot_lt hq).2)
        have HRT : Hid (∀ q, RF G v q → q < wo.heap.size) := Lib.hid (fun q hq => (hr.foot_lt hq).2)
        have HWW : Hid (w.heap.size ≤ wo.heap.size) := Lib.hid hb.size
        have HB5 : Hid (Below w.heap.size w w5) := Lib.hid (hb.trans (HBO.out.mono hb.size))
        have HLL : Hid (L.length ≤ 1000) := Lib.hid (by rw [hs.perm.length_eq]; simp [fsOf]; have := HN.out; omega)
        have HOP5 : Hid (d.ops + 8 ≤ 1152921504606846976) := Lib.hid (by have := HN.out; omega)
        have e1 : w5.cell? ⟨wo.heap.size, 1, none⟩ = some (.int .i64 nn) := cell_of_row _ _ 1 _ _ _ HE5.out
        have e2 : w5.cell? ⟨wo.heap.size, 2, none⟩ = some (.int .i64 kp) := cell_of_row _ _ 2 _ _ _ HE5.out
        have ex : w5.cell? ⟨X, 0, none⟩ = some (pD D) := cell_of_row _ _ 0 _ _ _ HX5.out
        clear h hr hs ok hop hle hx hb
        have HUP : Hid (CSt w X D M G (j + 1) w5) := Lib.hid ⟨d, F, r, L, v, P, H5.out, K5.out, HS.out, HOK.out, by have := HOP.out; omega, by have := HLE.out; omega, HX5.out, HB5.out⟩
        by_cases k4 : kd = 4
        · subst k4
          go_wp2_with (fail)
          refine (mPower H5.out HOK.out kp).mono ?_
          rintro e w7 ⟨F7, rfl, h7, hc7, hf7⟩
          have HK7 : Hid (FsOk (opPower d (fsOf F) kp).2.1 (opPower d (fsOf F) kp).2.2) := Lib.hid (power_ok HOK.out kp)
          have HE7 := hc7.ch.row HE5.out (fun hq => by have := HFT.out _ hq; omega)
          have HX7 := Lib.hid (hc7.ch.row HX5.out (fun hq => (apart_box H5.out K5.out HX5.out).1 _ hq rfl))
          have e27 : w7.cell? ⟨wo.heap.size, 2, none⟩ = some (.int .i64 kp) := cell_of_row _ _ 2 _ _ _ HE7
          have H7 := Lib.hid h7
          have K7 := Lib.hid (RkAt.over H5.out K5.out hc7)
          have HF7 := Lib.hid hf7
          have HB7 : Hid (Below w.heap.size w w7) := Lib.hid (HB5.out.trans (DkCh.below H5.out hc7 HB5.out.size))
          clear h7 hc7 hf7 HE7 e1 e2 ex
          dsimp only [endM, opPower]
          go_wp2_with (fail)
          clear e27
          refine (rkPower K7.out (by have := HLL.out; omega) (fun e he => HOK.out.safe e (HS.out.perm.mem_iff.1 he)) (fun e he => by have h5 := HOK.out.len (in_fget HOK.out.names (HS.out.perm.mem_iff.1 (show (e.1, e.2) ∈ L from he))); have := HOK.out.ok.used; omega) kp).mono ?_
          rintro x w8 ⟨rfl, P8, k8, hc8⟩
          have HFIN : Hid (CSt w X D M G (j + 1) w8) := Lib.hid ⟨(opPower d (fsOf F) kp).2.1, F7, r.power, powL kp L, v, P8, H7.out.ch hc8 (fun q hq hr => apart_rk H7.out K7.out hr hq), k8, by rw [HF7.out]; exact HS.out.power HOK.out kp _, by rw [HF7.out]; exact HK7.out, by have := HOP.out; show d.ops ≤ _; omega, by have h5 := congrArg List.length HF7.out; simp [fsOf, powFs, opPower] at h5; have := HLE.out; omega, hc8.row HX7.out (fun hq => (apart_box H7.out K7.out HX7.out).2 _ hq rfl), HB7.out.trans (hc8.below (fun q hq => (K7.out.foot_lt hq).1) HB7.out.size)⟩
          clear k8 hc8
          go_wp2_with (fail)
          go_meet
          exact HFIN.out
        by_cases k0 : kd = 0
        · subst k0
          have hmf : ∀ (fn : Fn) (first cap : Array Value) (w : World), (Instr.makeFunc fn first cap).run Try.prog w = .ok (.func fn first cap) w := fun _ _ _ _ => rfl
          go_wp2_with (fail)
          refine (saveDoA H5.out HOK.out HOP5.out nn X wo.heap.size ex e1 HB5.out.size).mono ?_
          rintro e w7 ⟨F7, he7, h7, hc7, hf7⟩
          have HE7 := Lib.hid (hc7.ch.row HE5.out (fun hq => by have := HFT.out _ hq; omega))
          have HX7 := Lib.hid (hc7.ch.row HX5.out (fun hq => (apart_box H5.out K5.out HX5.out).1 _ hq rfl))
          have H7 := Lib.hid h7
          have K7 := Lib.hid (RkAt.over H5.out K5.out hc7)
          have HF7 := Lib.hid hf7
          have HFT7 : Hid (∀ q, DFoot D M F7 q → q ≠ wo.heap.size) := Lib.hid (fun q hq => by
            have hxl := (Array.getElem?_eq_some_iff.1 HE5.out).1
            rcases hq with hq | hq | hq
            · have := HFT.out q (.inl hq); omega
            · have := HFT.out q (.inr (.inl hq)); omega
            · rcases hc7.foot q hq with h5 | h5
              · have := HFT.out q (.inr (.inr h5)); omega
              · omega)
          have HB7 : Hid (Below w.heap.size w w7) := Lib.hid (HB5.out.trans (DkCh.below H5.out hc7 HB5.out.size))
          have HSO := Lib.hid (saveD_ok HOK.out HOP5.out nmC nn)
          have HSL := Lib.hid (saveD_len d (fsOf F) nmC nn)
          clear h7 hc7 hf7 e1 e2 ex hmf
          have HSV : Hid (∀ W, Below w7.heap.size w7 W → Calls Try.prog 20 #[pR G, .string nmC, .int .i64 nn] W (RM W w.heap.size G (DFoot D M F7) v (saveD d (fsOf F) nmC nn))) := Lib.hid (fun W hW => rkSave (K7.out.below hW) HS.out HOK.out HOP5.out nmC (by decide) nn (by have h5 := HS.out.perm.length_eq; have := HLL.out; omega) (Nat.le_trans HB7.out.size hW.size) (fun q hq => Nat.lt_of_lt_of_le (H7.out.foot_lt hq).2 hW.size))
          obtain ⟨o, ho⟩ : ∃ o, o = saveD d (fsOf F) nmC nn := ⟨_, rfl⟩
          rw [← ho] at H7 HF7 HSO HSL HSV he7
          clear ho
          obtain ⟨q7, d7, fs7⟩ := o
          have HF7' : Hid (fsOf F7 = fs7) := Lib.hid HF7.out
          have HL7 : Hid (F7.length ≤ 6 * (j + 1)) := Lib.hid (by have h5 := congrArg List.length HF7.out; have h6 := HSL.out; have := HLE.out; simp only [fsOf, List.length_map] at h5 h6; omega)
          have HO7 : Hid (d7.ops ≤ 6 * ((j + 1 : Nat) : Int)) := Lib.hid (by have h5 := HSO.out.2; simp only at h5; have := HOP.out; omega)
          rcases q7 with x | op
          · rw [he7, show endDo (Sum.inl x : Int ⊕ Int) = .returned (.tuple #[.int .i64 x, .agg #[.int .i64 0], .bool false]) from rfl]
            clear he7
            have HBC : Hid (Below w7.heap.size w7 (w7.alloc (.cells #[.int .i64 0] 46))) := Lib.hid ((Below.refl _ _).alloc (Nat.le_refl _) _)
            have HE8 := Lib.hid ((HBC.out.block wo.heap.size (Array.getElem?_eq_some_iff.1 HE7.out).1).trans HE7.out)
            have e18 : (w7.alloc (.cells #[.int .i64 0] 46)).cell? ⟨wo.heap.size, 1, none⟩ = some (.int .i64 nn) := cell_of_row _ _ 1 _ _ _ HE8.out
            go_wp2_with (fail)
            generalize w7.alloc (.cells #[.int .i64 0] 46) = w8 at *
            clear e18
            refine (HSV.out w8 HBC.out).mono ?_
            rintro y w9 hy
            obtain ⟨e2, g2, r2, L2, v2, P2, rfl, hag, hs2, hst⟩ := hy.step
            have HH := Lib.hid (show g2 = false ∧ e2 = x from by
              rcases hag with ⟨z, h1, h2, h3⟩ | ⟨_, h1, _⟩
              · injection h1 with h1; exact ⟨h3, by rw [h2, h1]⟩
              · cases h1)
            obtain ⟨rfl, rfl⟩ := HH.out
            have HFIN : Hid (CSt w X D M G (j + 1) w9) := Lib.hid ⟨d7, F7, r2, L2, v2, P2, (H7.out.below HBC.out).ch hst.ch (fun q hq hr => apart_rk (H7.out.below HBC.out) (K7.out.below HBC.out) hr hq), hst.at_, by rw [HF7'.out]; exact hs2, by rw [HF7'.out]; exact HSO.out.1, HO7.out, HL7.out, hst.ch.row ((HBC.out.block X (Array.getElem?_eq_some_iff.1 HX7.out).1).trans HX7.out) (fun hq => (apart_box H7.out K7.out HX7.out).2 _ hq rfl), (HB7.out.trans (HBC.out.mono HB7.out.size)).trans (hst.ch.below (fun q hq => (K7.out.foot_lt hq).1) (Nat.le_trans HB7.out.size HBC.out.size))⟩
            clear hy hag hs2 hst HH
            go_wp2_with (fail)
            go_meet
            exact HFIN.out
          · rw [he7, show endDo (Sum.inr op : Int ⊕ Int) = .returned (.tuple #[.int .i64 0, .agg #[.int .i64 op], .bool true]) from rfl]
            clear he7
            have HBC : Hid (Below w7.heap.size w7 (w7.alloc (.cells #[.int .i64 op] 46))) := Lib.hid ((Below.refl _ _).alloc (Nat.le_refl _) _)
            have HE8 := Lib.hid ((HBC.out.block wo.heap.size (Array.getElem?_eq_some_iff.1 HE7.out).1).trans HE7.out)
            have e18 : (w7.alloc (.cells #[.int .i64 op] 46)).cell? ⟨wo.heap.size, 1, none⟩ = some (.int .i64 nn) := cell_of_row _ _ 1 _ _ _ HE8.out
            go_wp2_with (fail)
            generalize w7.alloc (.cells #[.int .i64 op] 46) = w8 at *
            clear e18
            refine (HSV.out w8 HBC.out).mono ?_
            rintro y w9 hy
            obtain ⟨e2, g2, r2, L2, v2, P2, rfl, hag, hs2, hst⟩ := hy.step
            have HH := Lib.hid (show g2 = true from by
              rcases hag with ⟨z, h1, h2, h3⟩ | ⟨_, h1, _, h3⟩
              · cases h1
              · exact h3)
            obtain rfl := HH.out
            have H9 := Lib.hid ((H7.out.below HBC.out).ch hst.ch (fun q hq hr => apart_rk (H7.out.below HBC.out) (K7.out.below HBC.out) hr hq))
            have K9 := Lib.hid hst.at_
            have S9 : Hid (Sim d7 (fsOf F7) r2 L2) := Lib.hid (by rw [HF7'.out]; exact hs2)
            have OK9 : Hid (FsOk d7 (fsOf F7)) := Lib.hid (by rw [HF7'.out]; exact HSO.out.1)
            have HX9 := Lib.hid (hst.ch.row ((HBC.out.block X (Array.getElem?_eq_some_iff.1 HX7.out).1).trans HX7.out) (fun hq => (apart_box H7.out K7.out HX7.out).2 _ hq rfl))
            have HE9 := Lib.hid (hst.ch.row HE8.out (fun hq => by have := HRT.out _ hq; omega))
            have HB9 : Hid (Below w.heap.size w w9) := Lib.hid ((HB7.out.trans (HBC.out.mono HB7.out.size)).trans (hst.ch.below (fun q hq => (K7.out.foot_lt hq).1) (Nat.le_trans HB7.out.size HBC.out.size)))
            have ex9 : w9.cell? ⟨X, 0, none⟩ = some (pD D) := cell_of_row _ _ 0 _ _ _ HX9.out
            have e29 : w9.cell? ⟨wo.heap.size, 2, none⟩ = some (.int .i64 kp) := cell_of_row _ _ 2 _ _ _ HE9.out
            clear hy hag hs2 hst HH
            go_wp2_with (fail)
            refine (mPower H9.out OK9.out kp).mono ?_
            rintro e w10 ⟨F10, rfl, h10, hc10, hf10⟩
            have HK10 : Hid (FsOk (opPower d7 (fsOf F7) kp).2.1 (opPower d7 (fsOf F7) kp).2.2) := Lib.hid (power_ok OK9.out kp)
            have HE10 := hc10.ch.row HE9.out (fun hq => HFT7.out _ hq rfl)
            have HX10 := Lib.hid (hc10.ch.row HX9.out (fun hq => (apart_box H9.out K9.out HX9.out).1 _ hq rfl))
            have e210 : w10.cell? ⟨wo.heap.size, 2, none⟩ = some (.int .i64 kp) := cell_of_row _ _ 2 _ _ _ HE10
            have H10 := Lib.hid h10
            have K10 := Lib.hid (RkAt.over H9.out K9.out hc10)
            have HF10 := Lib.hid hf10
            have HB10 : Hid (Below w.heap.size w w10) := Lib.hid (HB9.out.trans (DkCh.below H9.out hc10 HB9.out.size))
            have HL2 : Hid (L2.length ≤ 1000) := Lib.hid (by rw [S9.out.perm.length_eq]; have h5 := HL7.out; have := HN.out; simp only [fsOf, List.length_map]; omega)
            clear h10 hc10 hf10 HE10 ex9 e29
            dsimp only [endM, opPower]
            go_wp2_with (fail)
            clear e210
            refine (rkPower K10.out (by have := HL2.out; omega) (fun e he => OK9.out.safe e (S9.out.perm.mem_iff.1 he)) (fun e he => by have h5 := OK9.out.len (in_fget OK9.out.names (S9.out.perm.mem_iff.1 (show (e.1, e.2) ∈ L2 from he))); have := OK9.out.ok.used; omega) kp).mono ?_
            rintro y w11 ⟨rfl, P11, k11, hc11⟩
            have HFIN : Hid (CSt w X D M G (j + 1) w11) := Lib.hid ⟨(opPower d7 (fsOf F7) kp).2.1, F10, r2.power, powL kp L2, v2, P11, H10.out.ch hc11 (fun q hq hr => apart_rk H10.out K10.out hr hq), k11, by rw [HF10.out]; exact S9.out.power OK9.out kp _, by rw [HF10.out]; exact HK10.out, by have := HO7.out; show d7.ops ≤ _; omega, by have h5 := congrArg List.length HF10.out; simp [fsOf, powFs, opPower] at h5; have := HL7.out; omega, hc11.row HX10.out (fun hq => (apart_box H10.out K10.out HX10.out).2 _ hq rfl), HB10.out.trans (hc11.below (fun q hq => (K10.out.foot_lt hq).1) HB10.out.size)⟩
            clear k11 hc11
            go_wp2_with (fail)
            go_meet
            exact HFIN.out
        by_cases k1 : kd = 1
        · subst k1
          go_wp2_with (fail)
          refine wp_region_held_drew (S := fun w' => w'.cell? ⟨X, 0, none⟩ = some (pD D) ∧ w'.cell? ⟨wo.heap.size, 1, none⟩ = some (.int .i64 nn)) (by kernel_rfl) ⟨ex, e1⟩ (fun hHeld => ?_)
          clear e0
          refine wpAnyH_take (i := 0) (oi := ⟨some 96, _, _, _, _, _⟩) (v := ?v1) rfl (by kernel_rfl) (by kernel_rfl) (by kernel_rfl) (fun _ _ _ h => h) (Or.inl ⟨by kernel_rfl, ?hy1⟩) hHeld ?rest1
          case hy1 =>
            intro w hSw
            (try dsimp only at hSw)
            go_simp
            (try with_reducible rfl)
          (try simp only [Act.put])
          refine wpAnyH_take (i := 1) (oi := ⟨some 97, _, _, _, _, _⟩) (v := ?v2) rfl (by kernel_rfl) (by kernel_rfl) (by kernel_rfl) (fun _ _ _ h => h) (Or.inl ⟨by kernel_rfl, ?hy2⟩) hHeld ?rest2
          case hy2 =>
            intro w hSw
            (try dsimp only at hSw)
            go_simp
            (try with_reducible rfl)
          (try simp only [Act.put])
          refine wpAnyH_take (i := 2) (oi := ⟨some 98, _, _, _, _, _⟩) (v := ?v3) rfl (by kernel_rfl) (by kernel_rfl) (by kernel_rfl) (fun _ _ _ h => h) (Or.inl ⟨by kernel_rfl, ?hy3⟩) hHeld ?rest3
          case hy3 =>
            intro w hSw
            (try dsimp only at hSw)
            go_simp
            (try with_reducible rfl)
          (try simp only [Act.put])
          refine wpAnyH_ready (rs := [3]) (by kernel_rfl) (by simp) (AllReadyH.cons (o := _) rfl (fun K hK => ?_) AllReadyH.nil)
          go_simp
          refine (curRoom nn _).mono ?_
          rintro e w' ⟨rfl, rfl⟩
          dsimp only
          refine hK.out _ _ hHeld (fun hHeld => ?_)
          clear hK K
          refine wpAnyH_ready (rs := [4]) (by kernel_rfl) (by simp) (AllReadyH.cons (o := _) rfl (fun K hK => ?_) AllReadyH.nil)
          go_simp
          have hrm := roomF_le nn
          have hop : opSetRoom d (fsOf F) (roomF nn : Int) = (.inl 0, { d with room := (roomF nn : Int) }, fsOf F) := if_pos (by omega)
          have hko := callD_ok HOK.out (by have := HOP5.out; omega) 5 (roomF nn : Int) 0 (by omega) (by omega) ⟨#[]⟩ ⟨#[]⟩ []
          have HKO : Hid (FsOk { d with room := (roomF nn : Int) } (fsOf F)) := Lib.hid (by
            have h5 : callD d (fsOf F) 5 (roomF nn : Int) 0 ⟨#[]⟩ ⟨#[]⟩ [] = liftO (opSetRoom d (fsOf F) (roomF nn : Int)) := rfl
            rw [h5, hop] at hko
            exact hko)
          refine (mSetRoom (H5.out.below ((Below.refl w5.heap.size w5).drew)) _).mono ?_
          rw [hop]
          rintro e w6 ⟨F6, rfl, h6, hc6, hf6⟩
          dsimp only at h6 hf6
          have hc6 : DkCh D M F F6 w5 w6 := (DkCh.of_below ((Below.refl w5.heap.size w5).drew)).trans hc6
          clear hop hko
          have HE6 := hc6.ch.row HE5.out (fun hq => by have := HFT.out _ hq; omega)
          have HX6 := Lib.hid (hc6.ch.row HX5.out (fun hq => (apart_box H5.out K5.out HX5.out).1 _ hq rfl))
          have H6 := Lib.hid h6
          have K6 := Lib.hid (RkAt.over H5.out K5.out hc6)
          have HF6 := Lib.hid hf6
          have HB6 : Hid (Below w.heap.size w w6) := Lib.hid (HB5.out.trans (DkCh.below H5.out hc6 HB5.out.size))
          have HLF6 : Hid (F6.length = F.length) := Lib.hid (by have h5 := congrArg List.length hf6; simpa [fsOf] using h5)
          have e16 : w6.cell? ⟨wo.heap.size, 1, none⟩ = some (.int .i64 nn) := cell_of_row _ _ 1 _ _ _ HE6
          have e26 : w6.cell? ⟨wo.heap.size, 2, none⟩ = some (.int .i64 kp) := cell_of_row _ _ 2 _ _ _ HE6
          clear h6 hc6 hf6 HE6 e1 e2 ex
          dsimp only [endM]
          have ex6 : w6.cell? ⟨X, 0, none⟩ = some (pD D) := cell_of_row _ _ 0 _ _ _ HX6.out
          refine hK.out _ _ ⟨ex6, e16⟩ (fun hHeld => ?_)
          clear hK K
          refine wpAnyH_done (by kernel_rfl) ?_ _
          have g1 := K6.out.cell 1
          have gf1 := K6.out.frozen 1
          have HFIN : Hid (CSt w X D M G (j + 1) (w6.setCell ⟨G, 1, none⟩ (.int .i64 (roomF nn : Int)))) := Lib.hid (CSt.nums (r' := { r with size := (roomF nn : Int) }) H6.out K6.out HX6.out HB6.out ((Ch.refl _ _).set1 1 _) (heap_set_row K6.out.row _) (by rw [HF6.out]; exact ⟨rfl, HS.out.count, HS.out.armed, HS.out.keep, HS.out.fail, HS.out.perm, HS.out.srt⟩) (by rw [HF6.out]; exact HKO.out) (by have := HOP.out; show d.ops ≤ _; omega) (by have := HLE.out; have := HLF6.out; omega))
          go_wp2_with (fail)
          refine (curRoom nn _).mono ?_
          rintro e w' ⟨rfl, rfl⟩
          go_wp2_with (fail)
          go_meet
          exact HFIN.out
        by_cases k2 : kd = 2
        · subst k2
          go_wp2_with (fail)
          have hop : opFail d (fsOf F) (max 1 nn) = (.inl 0, { d with failIn := max 1 nn }, fsOf F) := if_neg (by omega)
          have hko := callD_ok HOK.out (by have := HOP5.out; omega) 6 (max 1 nn) 0 (by have := HFIT.out.n; simp only at this; omega) (by omega) ⟨#[]⟩ ⟨#[]⟩ []
          have HKO : Hid (FsOk { d with failIn := max 1 nn } (fsOf F)) := Lib.hid (by
            have h5 : callD d (fsOf F) 6 (max 1 nn) 0 ⟨#[]⟩ ⟨#[]⟩ [] = liftO (opFail d (fsOf F) (max 1 nn)) := rfl
            rw [h5, hop] at hko
            exact hko)
          refine (mFail H5.out (max 1 nn)).mono ?_
          rw [hop]
          clear hop hko
          rintro e w6 ⟨F6, rfl, h6, hc6, hf6⟩
          dsimp only at h6 hf6
          have HE6 := hc6.ch.row HE5.out (fun hq => by have := HFT.out _ hq; omega)
          have HX6 := Lib.hid (hc6.ch.row HX5.out (fun hq => (apart_box H5.out K5.out HX5.out).1 _ hq rfl))
          have H6 := Lib.hid h6
          have K6 := Lib.hid (RkAt.over H5.out K5.out hc6)
          have HF6 := Lib.hid hf6
          have HB6 : Hid (Below w.heap.size w w6) := Lib.hid (HB5.out.trans (DkCh.below H5.out hc6 HB5.out.size))
          have HLF6 : Hid (F6.length = F.length) := Lib.hid (by have h5 := congrArg List.length hf6; simpa [fsOf] using h5)
          have e16 : w6.cell? ⟨wo.heap.size, 1, none⟩ = some (.int .i64 nn) := cell_of_row _ _ 1 _ _ _ HE6
          have e26 : w6.cell? ⟨wo.heap.size, 2, none⟩ = some (.int .i64 kp) := cell_of_row _ _ 2 _ _ _ HE6
          clear h6 hc6 hf6 HE6 e1 e2 ex
          dsimp only [endM]
          have g5 := K6.out.cell 5
          have gf5 := K6.out.frozen 5
          have HFIN : Hid (CSt w X D M G (j + 1) (w6.setCell ⟨G, 5, none⟩ (.int .i64 (max 1 nn)))) := Lib.hid (CSt.nums (r' := { r with fail := max 1 nn }) H6.out K6.out HX6.out HB6.out ((Ch.refl _ _).set1 5 _) (heap_set_row K6.out.row _) (by rw [HF6.out]; exact ⟨HS.out.size, HS.out.count, HS.out.armed, HS.out.keep, rfl, HS.out.perm, HS.out.srt⟩) (by rw [HF6.out]; exact HKO.out) (by have := HOP.out; show d.ops ≤ _; omega) (by have := HLE.out; have := HLF6.out; omega))
          go_wp2_with (fail)
          go_meet
          exact HFIN.out
        by_cases k3 : kd = 3
        · subst k3
          go_wp2_with (fail)
          have hop : opArm d (fsOf F) (max 1 nn) kp = (.inl 0, { d with armedIn := max 1 nn, armKeep := kp }, fsOf F) := if_neg (by omega)
          have hko := callD_ok HOK.out (by have := HOP5.out; omega) 7 (max 1 nn) kp (by have := HFIT.out.n; simp only at this; omega) (by have := HFIT.out.k; simpa using this) ⟨#[]⟩ ⟨#[]⟩ []
          have HKO : Hid (FsOk { d with armedIn := max 1 nn, armKeep := kp } (fsOf F)) := Lib.hid (by
            have h5 : callD d (fsOf F) 7 (max 1 nn) kp ⟨#[]⟩ ⟨#[]⟩ [] = liftO (opArm d (fsOf F) (max 1 nn) kp) := rfl
            rw [h5, hop] at hko
            exact hko)
          refine (mArm H5.out (max 1 nn) kp).mono ?_
          rw [hop]
          clear hop hko
          rintro e w6 ⟨F6, rfl, h6, hc6, hf6⟩
          dsimp only at h6 hf6
          have HE6 := hc6.ch.row HE5.out (fun hq => by have := HFT.out _ hq; omega)
          have HX6 := Lib.hid (hc6.ch.row HX5.out (fun hq => (apart_box H5.out K5.out HX5.out).1 _ hq rfl))
          have H6 := Lib.hid h6
          have K6 := Lib.hid (RkAt.over H5.out K5.out hc6)
          have HF6 := Lib.hid hf6
          have HB6 : Hid (Below w.heap.size w w6) := Lib.hid (HB5.out.trans (DkCh.below H5.out hc6 HB5.out.size))
          have HLF6 : Hid (F6.length = F.length) := Lib.hid (by have h5 := congrArg List.length hf6; simpa [fsOf] using h5)
          have e16 : w6.cell? ⟨wo.heap.size, 1, none⟩ = some (.int .i64 nn) := cell_of_row _ _ 1 _ _ _ HE6
          have e26 : w6.cell? ⟨wo.heap.size, 2, none⟩ = some (.int .i64 kp) := cell_of_row _ _ 2 _ _ _ HE6
          clear h6 hc6 hf6 HE6 e1 e2 ex
          dsimp only [endM]
          have g3 := K6.out.cell 3
          have gf3 := K6.out.frozen 3
          have g4 := K6.out.cell 4
          have gf4 := K6.out.frozen 4
          have gne : wo.heap.size ≠ G := fun h => by have h5 := (HRT.out G (.inl rfl)); omega
          have gne' : G ≠ wo.heap.size := gne.symm
          have HFIN : Hid (CSt w X D M G (j + 1) ((w6.setCell ⟨G, 3, none⟩ (.int .i64 (max 1 nn))).setCell ⟨G, 4, none⟩ (.int .i64 kp))) := Lib.hid (CSt.nums (r' := { r with armed := max 1 nn, keep := kp }) H6.out K6.out HX6.out HB6.out (((Ch.refl _ _).set1 3 _).set1 4 _) (by
            have h5 : (w6.setCell ⟨G, 3, none⟩ (.int .i64 (max 1 nn))).heap[G]? = some (rkObj v { r with armed := max 1 nn }) := heap_set_row K6.out.row _
            exact heap_set_row h5 _) (by rw [HF6.out]; exact ⟨HS.out.size, HS.out.count, rfl, rfl, HS.out.fail, HS.out.perm, HS.out.srt⟩) (by rw [HF6.out]; exact HKO.out) (by have := HOP.out; show d.ops ≤ _; omega) (by have := HLE.out; have := HLF6.out; omega))
          go_wp2_with (fail)
          go_region
          all_goals
            go_wp2_with (fail)
            go_meet
            exact HFIN.out.below (Below.drew (Below.refl _ _))
        have d0 : (kd == 0) = false := by simpa using k0
        have d1 : (kd == 1) = false := by simpa using k1
        have d2 : (kd == 2) = false := by simpa using k2
        have d3 : (kd == 3) = false := by simpa using k3
        have d4 : (kd == 4) = false := by simpa using k4
        go_wp2_with (fail)
        go_meet
        exact HUP.out
      case rest =>
        clear e0
        obtain ⟨d, F, r, L, v, P, h7, r7, s7, ok7, ops7, len7, x7, b7⟩ := hcut
        have H7 := Lib.hid h7
        have R7 := Lib.hid r7
        have HS := Lib.hid s7
        have HOK := Lib.hid ok7
        have HOP := Lib.hid ops7
        have HLE := Lib.hid len7
        have HX7 := Lib.hid x7
        have HB7 := Lib.hid b7
        have HWC := Lib.hid (show CSt w X D M G (j + 1) wc from ⟨d, F, r, L, v, P, h7, r7, s7, ok7, ops7, len7, x7, b7⟩)
        have HLL : Hid (L.length = F.length) := Lib.hid (by rw [s7.perm.length_eq]; simp [fsOf])
        clear h7 r7 s7 ok7 ops7 len7 x7 b7
        have cX : wc.cell? ⟨X, 0, none⟩ = some (pD D) := cell_of_row _ _ 0 _ _ _ HX7.out
        go_wp2_with (fail)
        refine (dkNames2 H7.out (by have := HLE.out; have := HN.out; omega)).mono ?_
        rintro e w8 ⟨A8, c8, T8, rfl, hp8, hs8, hb8, _⟩
        have HZ8 : Hid (srtN T8 = L.map fun e => e.1.data.toList) := Lib.hid (names_srt HS.out.srt HS.out.perm (by rw [show (fsOf F).map (fun e => e.1.data.toList) = nmsOf F from by simp [fsOf, nmsOf]]; exact hp8))
        have H8 := Lib.hid (H7.out.below hb8)
        have R8 := Lib.hid (R7.out.below hb8)
        have HC8 := Lib.hid (HWC.out.below hb8)
        have HX8 := Lib.hid ((hb8.block X (Array.getElem?_eq_some_iff.1 HX7.out).1).trans HX7.out)
        have HS8 : Hid (Ss w8 A8 (srtN T8).length c8 (srtN T8)) := Lib.hid hs8
        clear hp8 hs8 hb8 cX
        rw [show (List.mergeSort T8 fun x y => decide (x ≤ y)) = srtN T8 from rfl]
        obtain ⟨q, hq⟩ : ∃ q, q = L.length := ⟨_, rfl⟩
        have HQ := Lib.hid hq
        have HQ2 : Hid (q ≤ 1000) := Lib.hid (by rw [hq, HLL.out]; have := HLE.out; have := HN.out; omega)
        rw [show (srtN T8).length = q from by rw [HZ8.out, hq]; simp] at HS8 ⊢
        rw [HZ8.out] at HS8
        clear hq
        obtain ⟨A1, c1, hv1, hc1, hc2⟩ := R8.out.form
        rw [← HQ.out] at hv1 hc1
        subst hv1
        have HOD : Hid (∀ u : Later w8, Calls Try.prog 27 #[pD D] u.u fun e w' => e = .returned (.int .i64 d.ops) ∧ u.u = w') := Lib.hid (fun u => dkOps (H8.out.below u.h))
        have HX8L := Lib.hid (Array.getElem?_eq_some_iff.1 HX8.out).1
        have cX : ∀ u : Later w8, u.u.cell? ⟨X, 0, none⟩ = some (pD D) := fun u => cell_of_row _ _ 0 _ _ _ ((u.h.block X HX8L.out).trans HX8.out)
        have g0 : ∀ u : Later w8, u.u.cell? ⟨G, 0, none⟩ = some (.slice A1 q c1) := fun u => (R8.out.below u.h).cell 0
        have g2 : ∀ u : Later w8, u.u.cell? ⟨G, 2, none⟩ = some (.int .i64 d.ops) := fun u => by have := (R8.out.below u.h).cell 2; rw [← HS.out.count]; exact this
        go_wp2_with (fail)
        try simp only [List.append]
        refine region_later (by kernel_rfl) (by kernel_rfl) ?_
        repeat (go_big_quiet_step ((first | (go_at_call 27; exact Calls.later_same (HOD.out _)))))
        refine wpQuiet_nil ?_
        intro nq
        have HNQ := Lib.hid nq.h
        go_wp2_with (fail)
        clear cX g0 g2 HOD
        go_loopw [174] (fun i wr => ∃ k : Nat, k ≤ q ∧ i = .int .i64 k ∧ Below w8.heap.size w8 wr) (fun i _ => q - (intOf i).toNat)
        case atStart => exact ⟨0, by omega, rfl, HNQ.out⟩
        case round =>
          obtain ⟨wi, rfl⟩ : ∃ wi : World, wi = wr := ⟨_, rfl⟩
          obtain ⟨i, hi, rfl, hb⟩ := hrel
          have HBI := Lib.hid hb
          clear hb HNQ
          by_cases hlt2 : i < q
          · have hkl : i < L.length := by have := HQ.out; omega
            obtain ⟨e, he⟩ : ∃ e, e = L[i] := ⟨_, rfl⟩
            have hke : L[i]? = some e := by rw [he]; exact List.getElem?_eq_getElem hkl
            obtain ⟨g, rfl, _, hx⟩ := (R8.out.below HBI.out).at_ (by omega)
            obtain ⟨dv, hpd, x0, x1, x2⟩ := hx i e hke
            obtain ⟨A7, m7, c7, rfl, hB7, _⟩ := (R8.out.below HBI.out).dat i e dv hke hpd
            obtain ⟨nm, f⟩ := e
            have hin : (nm, f) ∈ L := List.mem_of_getElem? hke
            have HFY : Hid (fget (fsOf F) nm = some f) := Lib.hid (in_fget HOK.out.names (HS.out.perm.mem_iff.1 hin))
            obtain ⟨b2, o2, rfl, _, hc⟩ := (HS8.out.below HBI.out).read hlt2
            have HC' : Hid (wi.cell? ⟨b2, o2 + i, none⟩ = some (.string nm)) := Lib.hid (by
              have h1 : txt ((L.map fun e => e.1.data.toList).getD i []) = nm := by
                rw [List.getD_eq_getElem?_getD, List.getElem?_map, hke]
                rfl
              rw [← h1]
              exact hc)
            have HB7 := Lib.hid hB7
            have HLF : Hid (FileLens F) := Lib.hid HOK.out.dk.lens
            have HI := Lib.hid (H8.out.below HBI.out)
            have hw5 : IntKind.i64.wrap ((i : Int) + 1) = (i : Int) + 1 := IntWalk.i64_in _ (by have := HQ2.out; omega)
            have hqc : (q : Int) ≤ (c1 : Int) := by omega
            obtain ⟨s, hs⟩ : ∃ s, s = f.safe := ⟨_, rfl⟩
            have x2' : wi.cell? ⟨g, i * 3 + 2, none⟩ = some (.int .i64 (s : Int)) := by rw [hs]; exact x2
            clear hx hke hpd hB7 hin hc he hkl x2 hs
            have HBA : Hid (Below wi.heap.size wi (wi.alloc (.cells #[.string nm, .slice A7 m7 c7, .int .i64 (s : Int)] TRF))) := Lib.hid ((Below.refl _ _).alloc (Nat.le_refl _) _)
            have HROW : Hid ((wi.alloc (.cells #[.string nm, .slice A7 m7 c7, .int .i64 (s : Int)] TRF)).heap[wi.heap.size]? = some (.cells #[.string nm, .slice A7 m7 c7, .int .i64 (s : Int)] TRF)) := Lib.hid (heap_alloc_new wi _)
            have HXI : Hid ((wi.alloc (.cells #[.string nm, .slice A7 m7 c7, .int .i64 (s : Int)] TRF)).heap[X]? = some (.cells #[pD D] 35)) := Lib.hid ((HBA.out.block X (Nat.lt_of_lt_of_le HX8L.out HBI.out.size)).trans ((HBI.out.block X HX8L.out).trans HX8.out))
            have y0 : (wi.alloc (.cells #[.string nm, .slice A7 m7 c7, .int .i64 (s : Int)] TRF)).cell? ⟨wi.heap.size, 0, none⟩ = some (.string nm) := cell_of_row _ _ 0 _ _ _ HROW.out
            have cX : (wi.alloc (.cells #[.string nm, .slice A7 m7 c7, .int .i64 (s : Int)] TRF)).cell? ⟨X, 0, none⟩ = some (pD D) := cell_of_row _ _ 0 _ _ _ HXI.out
            go_wp2_with (fail)
            clear x0 x1 x2' y0 cX
            generalize wi.alloc (.cells #[.string nm, .slice A7 m7 c7, .int .i64 (s : Int)] TRF) = wa at *
            refine (dkRead_some (HI.out.below HBA.out) HLF.out nm f HFY.out).mono ?_
            rintro e w9 ⟨g9, rfl, hg9, hr9, hb9⟩
            have HBX : Hid (Below wi.heap.size wi w9) := Lib.hid (HBA.out.trans (hb9.mono HBA.out.size))
            have HBY : Hid (Below w8.heap.size w8 w9) := Lib.hid (HBI.out.trans (HBX.out.mono HBI.out.size))
            have hrow9 : w9.heap[wi.heap.size]? = some (.cells #[.string nm, .slice A7 m7 c7, .int .i64 (s : Int)] TRF) := (hb9.block _ (Array.getElem?_eq_some_iff.1 HROW.out).1).trans HROW.out
            have cn0 : w9.cell? ⟨b2, o2 + i, none⟩ = some (.string nm) := (HBX.out.cell (p := ⟨b2, o2 + i, none⟩) (World.block_lt_of_cell? wi _ HC'.out)).trans HC'.out
            have HR9 : Hid (∀ q : Later w9, q.u.heap[wi.heap.size]? = some (.cells #[.string nm, .slice A7 m7 c7, .int .i64 (s : Int)] TRF)) := Lib.hid (fun q => (q.h.block _ (Array.getElem?_eq_some_iff.1 hrow9).1).trans hrow9)
            have cn : ∀ q : Later w9, q.u.cell? ⟨b2, o2 + i, none⟩ = some (.string nm) := fun q => (q.h.cell (p := ⟨b2, o2 + i, none⟩) (World.block_lt_of_cell? w9 _ cn0)).trans cn0
            have y0 : ∀ q : Later w9, q.u.cell? ⟨wi.heap.size, 0, none⟩ = some (.string nm) := fun q => cell_of_row _ _ 0 _ _ _ (HR9.out q)
            have y1 : ∀ q : Later w9, q.u.cell? ⟨wi.heap.size, 1, none⟩ = some (.slice A7 m7 c7) := fun q => cell_of_row _ _ 1 _ _ _ (HR9.out q)
            have hmax9 : f.bs.length ≤ 1073741824 := by
              obtain ⟨P, g3, v3, Q, e3, _⟩ := fget_mid HFY.out
              have := HLF.out ⟨nm, g3, v3, f⟩ (by rw [e3]; simp)
              simpa using this
            have hcv1 := fun q : Later w9 => ((Bs.block hr9 (n := f.bs.length) rfl (by unfold maxLen; omega)).below q.h).str (P := Try.prog) 22 5 9 Try.underlying22 Try.underlying5 Try.underlying9
            have hcv2 := fun q : Later w9 => ((HB7.out.below HBX.out).below q.h).str (P := Try.prog) 22 5 9 Try.underlying22 Try.underlying5 Try.underlying9
            clear hg9 hr9 hb9 hrow9 cn0 hmax9 HB7 HBA
            generalize txt f.bs = Xs at *
            generalize f.bs.length = len at *
            go_wp2_with (fail)
            try simp only [List.append]
            refine region_later (by kernel_rfl) (by kernel_rfl) ?_
            repeat (go_big_quiet_step (fail))
            refine wpQuiet_nil ?_
            intro nq2
            clear hcv1 hcv2 cn y0 y1
            go_wp2_with (fail)
            go_roundw
            case rel => ((try rw [HQ.out]); (repeat apply Exists.intro); exact ⟨⟨i + 1, by have := HQ.out; omega, by go_num, HBY.out.trans (nq2.h.mono HBY.out.size)⟩, rfl⟩)
            all_goals (have := HQ.out; simp [intOf]; omega)
          · obtain rfl : i = q := by omega
            clear hlt2
            have HCI := Lib.hid (HC8.out.below HBI.out)
            have HI := Lib.hid (H8.out.below HBI.out)
            have RI := Lib.hid (R8.out.below HBI.out)
            have cX : wi.cell? ⟨X, 0, none⟩ = some (pD D) := cell_of_row _ _ 0 _ _ _ ((HBI.out.block X HX8L.out).trans HX8.out)
            have HLD : Hid (loadD L nmC = loadD (fsOf F) nmC) := Lib.hid (by unfold loadD; rw [HS.out.get HOK.out])
            have HLZ : Hid (L.length ≤ 100000) := Lib.hid (by have := HQ2.out; have := HQ.out; omega)
            go_wp2_with (fail)
            refine (curLoad HI.out (HOK.out.dk.lens) nmC).mono ?_
            rintro e w9 ⟨rfl, hb9⟩
            have HC9 := Lib.hid (HCI.out.below hb9)
            have R9 := Lib.hid (RI.out.below hb9)
            have hl := rkLoad R9.out nmC HLZ.out
            rw [HLD.out] at hl
            have HLO := Lib.hid hl
            clear hb9 hl cX
            obtain ⟨y1, hy1⟩ : ∃ y, y = (loadD (fsOf F) nmC).1 := ⟨_, rfl⟩
            obtain ⟨y2, hy2⟩ : ∃ y, y = (loadD (fsOf F) nmC).2 := ⟨_, rfl⟩
            rw [← hy1, ← hy2] at HLO ⊢
            clear hy1 hy2 HLD
            go_wp2_with (fail)
            refine HLO.out.mono ?_
            rintro e w10 ⟨rfl, hb10⟩
            have HC10 := Lib.hid (HC9.out.below hb10)
            clear hb10 HLO
            go_wp2_with (fail)
            exact ⟨⟨j + 1, by omega, by go_num, HC10.out⟩, by simp [intOf]; omega⟩
    · obtain rfl : j = k := by omega
      clear hlt
      go_wp2_with (fail)
      go_ret
      exact ⟨rfl, HB.out⟩
end Go.Proofs.Ytolomfdommnklaa
