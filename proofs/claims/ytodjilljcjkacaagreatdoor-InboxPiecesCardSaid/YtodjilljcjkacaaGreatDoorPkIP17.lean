/- Laid together: In6, In7, Txt, FrameWrapO, In8, In9, In10, Rws, In11. -/
import Derived.Test.YtodjilljcjkacaaGreatDoorPkIP16
import Derived.Defers
import Derived.Laws.Tables

/- Layer 17: bytes are fed, walked. -/
namespace Go.Proofs.YtodjilljcjkacaaGreatDoor
open Go.RowKit Go.MapKept

/-- how it stands behind so many messages -/
def FSt (Z : Nat → Prop) (B D M L Q X : Nat) (O : Option Nat) (d : Dk) (F : List Ent) (T : List (List UInt8)) (g : Nat) (v : Value) (most : Nat) (s : St) (va : Value) (an : List (List UInt8)) (sn kp C N : Nat) (Ms : List (List UInt8)) (R : InR) (w : World) (k : Nat) (W : World) : Prop :=
  ∃ d' F' T' g' kp' La' v', R = feedM d' (fsOf F') T' g' kp' La' (Ms.drop k) ∧ IB Z W B D M L Q X O d' F' T' g' v' most s va an sn kp' ∧ CH false W C N La' (FI L D M Q X O F' v' va) Z ∧
    ICh (fun k => FI L D M Q X O F v va k ∨ k = C) (fun k => FI L D M Q X O F' v' va k ∨ k = C) w W ∧ La'.length ≤ k ∧ FsOk d' (fsOf F') ∧ d'.ops ≤ d.ops + 3 * k ∧ g' ≤ g + 29008 * k ∧ T'.length ≤ T.length + k ∧ kp' ≤ kp + k
section
variable {Z : Nat → Prop} {w : World} {B D M L Q X g sn kp most : Nat} {O : Option Nat} {d : Dk} {F : List Ent} {T : List (List UInt8)} {v va : Value} {s : St} {an : List (List UInt8)}
theorem if_inl {α : Type} (x : Int) (a b : α) : (if (Sum.inl x : Int ⊕ Int) = .inl 0 then a else b) = if x = 0 then a else b := by
  by_cases hx : x = 0 <;> simp [hx]
theorem feed_fin {w1 w3 W w' : World} {C g' kp' : Nat} {F' : List Ent} {v' : Value} {O1 : Option Nat} {d' : Dk} {T' La' : List (List UInt8)} {e : Ending} (h1 : ICh (FI L D M Q X O F v va) (FI L D M Q X O1 F v va) w w1) (hb : Below C w1 w3) (hC : C = w1.heap.size)
    (hic : ICh (fun k => FI L D M Q X O1 F v va k ∨ k = C) (fun k => FI L D M Q X O1 F' v' va k ∨ k = C) w3 W) (hco : CoPost (fun k => Z k ∨ k = C) B D M L Q X O1 d' F' T' g' v' most s va an sn kp' C La' W e w') (r : Int ⊕ Int) :
    FPost Z B D M L Q X O F v most s va an sn w ⟨r, d', fsOf F', T', g', kp', La'⟩ (endF r) w' := by
  obtain ⟨va', _, hi, hc⟩ := hco
  subst hC
  exact ⟨F', v', va', O1, rfl, rfl, hi.less (fun k hk => .inl hk), h1.trans ((hic.trans hc).dropC hb (Nat.le_refl _))⟩
set_option maxRecDepth 100000 in
set_option maxHeartbeats 8000000 in
theorem mFeed (h : IB Z w B D M L Q X O d F T g v most s va an sn kp) (A : Option Addr) (n c Mx : Nat) (l : List UInt8) (hl : Bs w A n c l) (hoff : 0 < n → ∀ b, A = some b → ¬ FI L D M Q X O F v va b.block) (hm : most ≤ 29000) (up : St.Up most Mx s) (hM : Mx + n ≤ 1099511627776) (hn : n ≤ 1000000)
    (hG : ∀ W, Below B w W → Vers W ∧ Signs W ∧ Cds W) (ok : FsOk d (fsOf F)) (ho : d.ops + 3 * n + 8 ≤ 1152921504606846976) (hg : g + 29008 * n ≤ 1099511000000) (hT : T.length + n ≤ 1099511627770) (hkp : kp + n ≤ 1099511627770) (hsn : sn + n ≤ 1099511627770) (han : an.length + n ≤ 1099511627770) (hBw : B ≤ w.heap.size) :
    Calls Tryz.prog 16 #[pI X, .slice A n c] w (FPost Z B D M L Q X O F v most (feedD most s l).1 va an sn w (feedM d (fsOf F) T g kp [] (feedD most s l).2)) := by
  have hmf : ∀ (fn : Fn) (first cap : Array Value) (w : World), (Instr.makeFunc fn first cap).run Tryz.prog w = .ok (.func fn first cap) w := fun _ _ _ _ => rfl
  have hb0 : Below w.heap.size w (w.alloc (.cells #[pI X] TPI)) := (Below.refl _ w).alloc (Nat.le_refl _) _
  have HB0 := Lib.hid hb0
  have HX0 : Hid ((w.alloc (.cells #[pI X] TPI)).heap[w.heap.size]? = some (.cells #[pI X] TPI)) := Lib.hid (heap_alloc_new w _)
  have HI0 := Lib.hid (h.below hb0)
  have c00 := (h.below hb0).cell 0
  simp only [List.getElem?_toArray, List.getElem?_cons_zero] at c00
  have HL0 := Lib.hid (hl.below hb0)
  have HFL : Hid (∀ k, FI L D M Q X O F v va k → k < w.heap.size) := Lib.hid (fun k hk => (h.foot_lt hk).2)
  have HOFF := Lib.hid hoff
  have HM := Lib.hid hm
  have UP := Lib.hid up
  have HMX := Lib.hid hM
  have HN := Lib.hid hn
  have HG := Lib.hid hG
  have OK := Lib.hid ok
  have HO := Lib.hid ho
  have HGG := Lib.hid hg
  have HT := Lib.hid hT
  have HKP := Lib.hid hkp
  have HSN := Lib.hid hsn
  have HAN := Lib.hid han
  have HBW := Lib.hid hBw
  have HLN := Lib.hid hl.len
  have HFB : Hid (∀ k, FI L D M Q X O F v va k → B ≤ k) := Lib.hid (fun k hk => (h.foot_lt hk).1)
  obtain ⟨s1, hs1⟩ : ∃ s1, s1 = (feedD most s l).1 := ⟨_, rfl⟩
  obtain ⟨Ms, hMs⟩ : ∃ Ms, Ms = (feedD most s l).2 := ⟨_, rfl⟩
  obtain ⟨R, hR⟩ : ∃ R, R = feedM d (fsOf F) T g kp [] Ms := ⟨_, rfl⟩
  have HR := Lib.hid hR
  have HS1 := Lib.hid hs1
  have HMS := Lib.hid hMs
  have hmn : Ms.length ≤ n := by
    have := feed_len most s l l.length (Nat.le_refl _)
    rw [List.take_length, ← hMs, hl.len] at this
    exact this
  have HSH : Hid (∀ x ∈ Ms, x.length ≤ 29000) := Lib.hid (fun x hx => by
    have := feed_short up l l.length (Nat.le_refl _) x (by rw [List.take_length, ← hMs]; exact hx)
    omega)
  rw [← hMs, ← hR, ← hs1]
  have HMN := Lib.hid hmn
  clear hR hs1 hMs hmn
  clear h hl hoff hm up hM hn hG ok ho hg hT hkp hsn han hBw hb0
  go_enter_defers Tryz.func16, Tryz.ntmps16
  go_wp2_with (fail)
  refine (dFeed B Q O most Mx s _ HI0.out.df (Nat.le_trans HBW.out HB0.out.size) (by have := HM.out; omega) UP.out A n c l HL0.out (fun h0 b hb hs => HOFF.out h0 b hb (.inr (.inl hs))) HMX.out).mono ?_
  rintro e w1 ⟨vm, O1, rfl, hr, hd, hmv⟩
  rw [← HMS.out] at hr
  rw [← HS1.out] at hd
  have HI1 := Lib.hid (HI0.out.dfm hmv hd)
  have HIC01 : Hid (ICh (FI L D M Q X O F v va) (FI L D M Q X O1 F v va) (w.alloc (.cells #[pI X] TPI)) w1) := Lib.hid (.of_mv hmv)
  have HIC1 : Hid (ICh (FI L D M Q X O F v va) (FI L D M Q X O1 F v va) w w1) := Lib.hid ((ICh.of_below HB0.out).trans (.of_mv hmv))
  obtain ⟨Am, cm, rfl, hrd⟩ := hr.rd (fun x hx => by have := HSH.out x hx; simp only [maxLen]; omega)
  have HMR := Lib.hid hr
  have hcm := hrd.2.1
  have hcm2 := hrd.nmax
  obtain ⟨N, hN⟩ : ∃ N, N = Ms.length := ⟨_, rfl⟩
  rw [← hN] at HMR HMN hcm hcm2 ⊢
  have HNE := Lib.hid hN
  have hmc := make_chan N (by have := HMN.out; have := HN.out; omega)
  have cb : w1.cell? ⟨w.heap.size, 0, none⟩ = some (pI X) := by
    have := hmv.1.row HX0.out (fun hk => by
      have := HFL.out w.heap.size (.inr (.inl hk)); omega)
    rw [cell_of_row w1 w.heap.size 0 _ _ _ this]; rfl
  have HXB : Hid (w1.heap[w.heap.size]? = some (.cells #[pI X] TPI)) := Lib.hid (hmv.1.row HX0.out (fun hk => by
      have := HFL.out w.heap.size (.inr (.inl hk)); omega))
  have hbA : Below w1.heap.size w1 (w1.alloc (.chan N #[] false 0 0 false)) := (Below.refl _ _).alloc (Nat.le_refl _) _
  have hbB : Below w1.heap.size w1 ((w1.alloc (.chan N #[] false 0 0 false)).alloc (.cells #[.chan (some w1.heap.size)] TCH)) := hbA.alloc hbA.size _
  have HXB3 := Lib.hid ((Ch.of_below (S := fun _ => False) hbB).row HXB.out (fun h => h))
  have HBB := Lib.hid hbB
  have cb3 := cell_of_row _ w.heap.size 0 _ _ _ HXB3.out
  simp only [List.getElem?_toArray, List.getElem?_cons_zero] at cb3
  clear hr hd hmv hrd hN c00 HI0 hbA hbB
  have HZ3 : Hid (IB (fun k => Z k ∨ k = w1.heap.size) ((w1.alloc (.chan N #[] false 0 0 false)).alloc (.cells #[.chan (some w1.heap.size)] TCH)) B D M L Q X O1 d F T g v most s1 va an sn kp) := Lib.hid (HI1.out.addZ HBB.out (fun k hk => hk.imp id (fun e => ⟨by omega, by rw [e]; simp; omega⟩)))
  have HFL1 : Hid (∀ k, FI L D M Q X O1 F v va k → B ≤ k ∧ k < w1.heap.size) := Lib.hid (fun k hk => HI1.out.foot_lt hk)
  have HCH3 : Hid (CH false ((w1.alloc (.chan N #[] false 0 0 false)).alloc (.cells #[.chan (some w1.heap.size)] TCH)) w1.heap.size N [] (FI L D M Q X O1 F v va) (fun k => Z k ∨ k = w1.heap.size)) := Lib.hid ((CH.new w1 N _ (fun k hk => (HFL1.out k hk).2)).below ((Below.refl _ _).alloc (Nat.le_refl _) _))
  have HBA3 : Hid (((w1.alloc (.chan N #[] false 0 0 false)).alloc (.cells #[.chan (some w1.heap.size)] TCH)).heap[w1.heap.size + 1]? = some (.cells #[.chan (some w1.heap.size)] TCH)) := Lib.hid (by
    have := heap_alloc_new (w1.alloc (.chan N #[] false 0 0 false)) (.cells #[.chan (some w1.heap.size)] TCH)
    simpa using this)
  have HMR3 : Hid (RowsAt (w.alloc (.cells #[pI X] TPI)).heap.size (fun k => FI L D M Q X O1 F v va k ∨ k = w1.heap.size) ((w1.alloc (.chan N #[] false 0 0 false)).alloc (.cells #[.chan (some w1.heap.size)] TCH)) (.slice Am N cm) Ms) := Lib.hid ((HMR.out.sub (fun k h1 h2 hk => by
    have h3 : w.heap.size < k := by have : (w.alloc (.cells #[pI X] TPI)).heap.size = w.heap.size + 1 := by simp
                                    omega
    rcases hk with (hk | hk | hk | hk) | hk
    · have := HFL.out k (.inl hk); omega
    · exact hk
    · have := HFL.out k (.inr (.inr (.inl hk))); omega
    · have := HFL.out k (.inr (.inr (.inr hk))); omega
    · omega)).below HBB.out)
  have HBL3 : Hid (Below B w ((w1.alloc (.chan N #[] false 0 0 false)).alloc (.cells #[.chan (some w1.heap.size)] TCH))) := Lib.hid ((HIC1.out.ch.below HFB.out HBW.out).trans (HBB.out.mono (Nat.le_trans HBW.out HIC1.out.ch.size)))
  have HBX : Hid (w.heap.size < w1.heap.size) := Lib.hid (Array.getElem?_eq_some_iff.1 HXB.out).1
  have HBXF : Hid (¬ (FI L D M Q X O1 F v va w.heap.size ∨ w.heap.size = w1.heap.size)) := Lib.hid (fun hk => by
    have := HBX.out
    have hz := HB0.out.size
    rcases hk with hk | hk
    · rcases HIC01.out.foot _ hk with h1 | h1
      · have := HFL.out _ h1; omega
      · simp at h1; omega
    · omega)
  clear HB0 HX0 HXB HI1 HMR UP HOFF HMX HL0 HIC01
  go_wp2_with (fail)
  clear cb cb3 hmc hmf
  obtain ⟨Cc, hC⟩ : ∃ Cc, Cc = w1.heap.size := ⟨_, rfl⟩
  obtain ⟨BX, hBX⟩ : ∃ BX, BX = w.heap.size := ⟨_, rfl⟩
  have HSZ1 : Hid ((w.alloc (.cells #[pI X] TPI)).heap.size = BX + 1) := Lib.hid (by rw [hBX]; simp)
  rw [← hC] at HZ3 HCH3 HBA3 HMR3 HBXF HBX HBL3 HBB HXB3
  rw [← hC, ← hBX]
  rw [← hBX] at HXB3 HBXF HBX
  generalize hW3 : (w1.alloc (.chan N #[] false 0 0 false)).alloc (.cells #[.chan (some Cc)] TCH) = w3 at *
  have HCW : Hid (w.heap.size ≤ Cc) := Lib.hid (by rw [← hBX]; have := HBX.out; omega)
  have HCE := Lib.hid hC
  have HBE := Lib.hid hBX
  clear hW3 hC hBX
  go_loopw [10, 33, 34, 35, 36, 37, 38, 39, 40] (fun _ i _ _ _ _ _ _ _ wr => ∃ k : Nat, i = .int .i64 k ∧ k ≤ N ∧ FSt (fun k => Z k ∨ k = Cc) B D M L Q X O1 d F T g v most s1 va an sn kp Cc N Ms R w3 k wr) (fun _ i _ _ _ _ _ _ _ _ => N - (intOf i).toNat)
  case atStart =>
    refine ⟨0, rfl, Nat.zero_le _, d, F, T, g, kp, [], v, HR.out, HZ3.out, HCH3.out, .of_below (Below.refl _ _), Nat.le_refl _, OK.out, by omega, by omega, by omega, by omega⟩
  case round =>
    obtain ⟨wo, rfl⟩ : ∃ wo : World, wo = wr := ⟨_, rfl⟩
    obtain ⟨k, rfl, hk, d', F', T', g', kp', La', v', hRR, hi, hch, hic, hla, hok, hops, hgg, htt, hkk⟩ := hrel
    by_cases hlt : k < N
    · have hkm : k < Ms.length := by have := HNE.out; omega
      have hdr : Ms.drop k = Ms[k] :: Ms.drop (k + 1) := List.drop_eq_getElem_cons hkm
      have hmr := HMR3.out.ch (S' := fun k => FI L D M Q X O1 F' v' va k ∨ k = Cc) hic.ch (fun j hj hs => (hic.foot j hs).resolve_right (by omega))
      obtain ⟨b, gb, rfl, cg, hbm, hnb⟩ := hmr.get (fun x hx => by have := HSH.out x hx; simp only [maxLen]; omega) hkm
      have hml := HSH.out _ (List.getElem_mem hkm)
      obtain ⟨m, hm⟩ : ∃ m, m = Ms[k] := ⟨_, rfl⟩
      have HME := Lib.hid hm
      rw [← hm] at hdr cg hbm hml
      clear hm
      rw [hdr] at hRR
      have hbl : Below B w3 wo := hic.ch.below (fun j hj => by
        rcases hj with hj | hj
        · exact (HFL1.out j hj).1
        · have := HBW.out; have := HCW.out; omega) (Nat.le_trans HBW.out HBL3.out.size)
      have hba := hic.ch.row HBA3.out (fun hk => by
        rcases hk with hk | hk
        · have := (HFL1.out _ hk).2; have := HCE.out; omega
        · omega)
      have HD := Lib.hid (mDone hi Cc N La' (.inr rfl) hch (by omega) BX (Cc + 1) (hic.ch.row HXB3.out HBXF.out) hba (fun hk => by
        rcases hic.foot _ (.inl hk) with (h1 | h1) | h1
        · have := (HFL1.out _ h1).2; have := HCE.out; omega
        · omega
        · have := (Array.getElem?_eq_some_iff.1 HBA3.out).1; omega) (fun W hb => HG.out W ((HBL3.out.trans hbl).trans hb)) hok (by have := HO.out; have := HMN.out; omega) (some ⟨gb, 0, none⟩) m.length m hbm hml (fun _ b hb hf => hnb (.inl (by injection hb with hb; rw [← hb] at hf; exact hf))) (by have := HGG.out; have := HMN.out; omega) (by have := HT.out; have := HMN.out; omega) (Nat.le_trans (Nat.le_trans HBW.out HBL3.out.size) hbl.size) (by have := HKP.out; have := HMN.out; omega))
      have e1 : (k : Int) < (N : Int) := by omega
      have HIC := Lib.hid hic
      have HRR := Lib.hid hRR
      have HOK := Lib.hid (keepD_ok hok (by have := HO.out; have := HMN.out; omega) g' m)
      have HLA := Lib.hid hla
      have HOP := Lib.hid hops
      have HG2 := Lib.hid hgg
      have HT2 := Lib.hid htt
      have HK2 := Lib.hid hkk
      have HML := Lib.hid hml
      have HFL2 : Hid (∀ j, FI L D M Q X O1 F' v' va j → B ≤ j) := Lib.hid (fun j hj => (hi.foot_lt hj).1)
      clear hi hch hic hbl hba hmr hbm hnb hdr hRR hok hops hgg htt hkk hla hml
      go_wp2_with (fail)
      refine HD.out.mono ?_
      rintro e w2 ⟨F2, v2, he, hf2, hi2, hic2, hch2⟩
      have hst : feedM d' (fsOf F') T' g' kp' La' (m :: Ms.drop (k + 1)) = match (keepD d' (fsOf F') g' m).1 with
        | .inr op => ⟨.inr op, (keepD d' (fsOf F') g' m).2.1, (keepD d' (fsOf F') g' m).2.2, T', g', kp', La'⟩
        | .inl x => feedM (keepD d' (fsOf F') g' m).2.1 (keepD d' (fsOf F') g' m).2.2 (if x = 0 then T' ++ [m] else T') (if x = 0 then g' + (record m).length else g') (if x = 0 then kp' + 1 else kp') (La' ++ ansD m (.inl x)) (Ms.drop (k + 1)) := rfl
      have hrr := HRR.out
      have hok2 := HOK.out
      rw [hst] at hrr
      have HLN : Hid ((La' ++ ansD m (keepD d' (fsOf F') g' m).1).length ≤ k + 1) := Lib.hid (by have := ansD_len m (keepD d' (fsOf F') g' m).1; have := HLA.out; rw [List.length_append]; omega)
      clear HRR HD hst HOK cg
      generalize keepD d' (fsOf F') g' m = r at *
      obtain ⟨x | op, d2, fs2⟩ := r
      · obtain rfl : e = .returned (.tuple #[]) := he
        simp only [if_inl] at hi2
        have HR2 := Lib.hid hrr
        have HI2 := Lib.hid hi2
        have HIC2 := Lib.hid (HIC.out.trans hic2)
        have HCH2 := Lib.hid hch2
        have HF2 := Lib.hid hf2
        have HOK2 := Lib.hid hok2
        clear hrr hi2 hic2 hch2 hf2 hok2
        go_wp2_with (fail)
        refine ⟨⟨k + 1, by go_num, by omega, d2, F2, _, _, _, _, v2, by rw [HF2.out]; exact HR2.out, HI2.out, HCH2.out, HIC2.out, HLN.out, by rw [HF2.out]; exact HOK2.out.1, ?_, ?_, ?_, ?_⟩, by simp [intOf]; omega⟩
        · have h1 : d2.ops ≤ d'.ops + 3 := HOK2.out.2
          have := HOP.out; omega
        · have h1 := record_length m; have := HML.out; have := HG2.out; split <;> omega
        · have := HT2.out; split <;> (try rw [List.length_append, List.length_singleton]) <;> omega
        · have := HK2.out; split <;> omega
      · obtain rfl : e = .panicked [{ v := crashI op, recovered := false }] := he
        have hn0 : ¬ ((.inr op : Int ⊕ Int) = .inl 0) := fun e => by cases e
        simp only [if_neg hn0] at hi2
        rw [show ansD m (.inr op) = [] from rfl, List.append_nil] at hch2
        have hr : R = ⟨.inr op, d2, fs2, T', g', kp', La'⟩ := hrr
        subst hf2
        subst hr
        refine leaves_cons (f := 51) (args := #[pI X, .chan (some Cc)]) (by simp) (by simp [go_sem]) ?_
        refine (mCollect hi2 Cc N La' (.inr rfl) hch2 _ (by have := HSN.out; have := HLA.out; have := HMN.out; omega) (by have := HAN.out; have := HLA.out; have := HMN.out; omega) (by have h1 := HBW.out; have h2 := HBL3.out.size; have h3 := HIC.out.ch.size; have h4 := hic2.ch.size; omega)).mono ?_
        rintro e u' w3' ⟨rfl, hco⟩
        have hc9 := hco
        obtain ⟨_, rfl, _⟩ := hc9
        exact feed_fin HIC1.out HBB.out HCE.out (HIC.out.trans hic2) hco (.inr op)
    · obtain rfl : k = N := by omega
      rw [HNE.out, List.drop_length] at hRR
      have hr : R = ⟨.inl 0, d', fsOf F', T', g', kp', La'⟩ := hRR
      have HI := Lib.hid hi
      have HCH := Lib.hid hch
      have HIC := Lib.hid hic
      have HLA := Lib.hid hla
      subst hr
      clear hi hch hic hla hRR hok hops hgg htt hkk HR
      go_wp2_with (fail)
      refine leaves_cons (f := 51) (args := #[pI X, .chan (some Cc)]) (by simp) (by simp [go_sem]) ?_
      refine (mCollect HI.out Cc k La' (.inr rfl) HCH.out _ (by have := HSN.out; have := HLA.out; have := HMN.out; omega) (by have := HAN.out; have := HLA.out; have := HMN.out; omega) (by have h1 := HBW.out; have h2 := HBL3.out.size; have h3 := HIC.out.ch.size; omega)).mono ?_
      rintro e u' w3' ⟨rfl, hco⟩
      have hc9 := hco
      obtain ⟨_, rfl, _⟩ := hc9
      have hf := feed_fin HIC1.out HBB.out HCE.out HIC.out hco (.inl 0)
      simp [Leaves, settle, results, Tryz.results16, go_sem]
      exact hf
end
end Go.Proofs.YtodjilljcjkacaaGreatDoor
/- Layer 17: New and the smaller methods, walked. -/
namespace Go.Proofs.YtodjilljcjkacaaGreatDoor
open Go.RowKit Go.MapKept

theorem Df.baseL {B B' D most : Nat} {O : Option Nat} {s : St} {w : World} (h : Df B' D O most s w) (hB : B ≤ B') : Df B D O most s w := by
  obtain ⟨fv, e, hne, h1, ho, hd⟩ := h
  exact ⟨fv, e, hne, Nat.le_trans hB h1, ⟨ho.1, ho.2.imp id (fun ⟨g, cap, cur, e, h1, h2⟩ => ⟨g, cap, cur, e, Nat.le_trans hB h1, h2⟩)⟩, hd⟩
set_option maxRecDepth 100000
set_option maxHeartbeats 2000000
section
variable {Z : Nat → Prop} {w : World} {B D M L Q X g sn kp most : Nat} {O : Option Nat} {d : Dk} {F : List Ent} {T : List (List UInt8)} {v va : Value} {s : St} {an : List (List UInt8)}
theorem inNew (hd : DkAt w B D M d F) (hl : LgAt Z w B L D M F nmI T g v) (m : Nat) (h0 : 1 ≤ m) (h1 : m ≤ 65536) (hBw : B ≤ w.heap.size) (hZ : ∀ k, Z k → k < w.heap.size ∧ ¬ LT L D M F k) :
    Calls Tryz.prog 33 #[pL L, .int .i64 m] w fun e w' => ∃ X Q, e = .returned (.tuple #[pI X, .int .i64 0]) ∧ IB Z w' B D M L Q X none d F T g v m newS (.slice none 0 0) [] 0 0 ∧ Below w.heap.size w w' ∧ w.heap.size ≤ X := by
  have HD := Lib.hid hd
  have HL := Lib.hid hl
  have HBW := Lib.hid hBw
  have HZ := Lib.hid hZ
  clear hd hl hBw hZ
  go_enter Tryz.func33, Tryz.ntmps33
  go_wp2_with (fail)
  refine (dNew m h0 h1 w).mono ?_
  rintro e w1 ⟨Q, rfl, hdf, hb1⟩
  have HF := Lib.hid hdf
  have HB1 := Lib.hid hb1
  clear hdf hb1
  go_wp2_with (fail)
  refine bodyPost_ret (v := .tuple #[pI w1.heap.size, .int .i64 0]) (by simp [results, Tryz.results33, go_sem]) rfl ⟨w1.heap.size, Q, rfl, ?_, HB1.out.alloc HB1.out.size _, HB1.out.size⟩
  have hb2 : Below w1.heap.size w1 (w1.alloc (.cells (ibCells Q L (.slice none 0 0) 0 0) TIB)) := (Below.refl _ _).alloc (Nat.le_refl _) _
  have hq : w.heap.size ≤ Q ∧ Q < w1.heap.size := ⟨HF.out.base, HF.out.lt⟩
  have hd1 := HD.out.below HB1.out
  have hft : ∀ k, WFoot L D M F v k → k < w.heap.size := fun k hk => (HL.out.foot_lt HD.out hk).2
  refine ⟨hd1.below hb2, ?_, (HF.out.baseL HBW.out).below hb2, heap_alloc_new w1 _, Nat.le_trans HBW.out HB1.out.size, Rw.nil _ _ _, fun k hk hw => ?_, fun k hk => ?_⟩
  · refine ((HL.out.widen (fun k hk => ?_)).below HB1.out).below hb2
    rcases hk with hk | hk | (hk | hk) | hk
    · exact .inl hk
    · exact .inr (by have := HB1.out.size; omega)
    · exact .inr (by omega)
    · cases hk
    · cases hk
  · have := hft k hw
    rcases hk with hk | hk
    · omega
    · cases hk
  · obtain ⟨h3, h4⟩ := HZ.out k hk
    have := HB1.out.size
    refine ⟨by simp; omega, by omega, fun hk2 => ?_, h4⟩
    rcases hk2 with hk2 | hk2
    · omega
    · cases hk2
theorem inSeen (h : IB Z w B D M L Q X O d F T g v most s va an sn kp) : Calls Tryz.prog 29 #[pI X] w fun e w' => e = .returned (.int .i64 (sn : Int)) ∧ w' = w := by
  have c := h.cell 3
  simp only [List.getElem?_toArray, List.getElem?_cons_zero, List.getElem?_cons_succ] at c
  clear h
  go_enter Tryz.func29, Tryz.ntmps29
  go_wp2_with (fail)
  go_ret
  exact ⟨rfl, rfl⟩
theorem inKept (h : IB Z w B D M L Q X O d F T g v most s va an sn kp) : Calls Tryz.prog 30 #[pI X] w fun e w' => e = .returned (.int .i64 (kp : Int)) ∧ w' = w := by
  have c := h.cell 4
  simp only [List.getElem?_toArray, List.getElem?_cons_zero, List.getElem?_cons_succ] at c
  clear h
  go_enter Tryz.func30, Tryz.ntmps30
  go_wp2_with (fail)
  go_ret
  exact ⟨rfl, rfl⟩
theorem inHeld (h : IB Z w B D M L Q X O d F T g v most s va an sn kp) (hf : s.fr.length ≤ 1000000) : Calls Tryz.prog 31 #[pI X] w fun e w' => e = .returned (.int .i64 (heldD s : Int)) ∧ w' = w := by
  have c := h.cell 0
  simp only [List.getElem?_toArray, List.getElem?_cons_zero] at c
  have HD := Lib.hid (dHeld B Q O most s w h.df hf)
  clear h hf
  go_enter Tryz.func31, Tryz.ntmps31
  go_wp2_with (fail)
  refine HD.out.mono ?_
  rintro e w1 ⟨rfl, rfl⟩
  go_wp2_with (fail)
  go_ret
  exact ⟨rfl, rfl⟩
theorem inTake (h : IB Z w B D M L Q X O d F T g v most s va an sn kp) : Calls Tryz.prog 19 #[pI X] w fun e w' => e = .returned va ∧ IB Z w' B D M L Q X O d F T g v most s (.slice none 0 0) [] sn kp ∧ Rw B (fun k => Z k ∨ FI L D M Q X O F v (.slice none 0 0) k) w' va an ∧ Ch (At1 X) w w' := by
  have c := h.cell 2
  have f := h.frozen 2
  simp only [List.getElem?_toArray, List.getElem?_cons_zero, List.getElem?_cons_succ] at c
  have H := Lib.hid h
  clear h
  go_enter Tryz.func19, Tryz.ntmps19
  obtain ⟨Av, cv, rfl⟩ := H.out.an.form
  obtain ⟨na, hna⟩ : ∃ na, na = an.length := ⟨_, rfl⟩
  have HNA := Lib.hid hna
  rw [← hna] at c H ⊢
  clear hna
  go_wp2_with (fail)
  go_ret
  obtain ⟨h1, h2⟩ := H.out.taken
  refine ⟨rfl, h1, ?_, h2⟩
  exact (H.out.an.ch h2 (fun k _ hk => .inr (.inl hk)) (fun k _ hk => by
    rcases hk with hk | hk | hk | hk | hk
    · exact .inl hk
    · exact .inr (.inl hk)
    · exact .inr (.inr (.inl hk))
    · exact .inr (.inr (.inr hk))
    · cases hk))
end
end Go.Proofs.YtodjilljcjkacaaGreatDoor
/- Sums of texts, and their bytes, in one step each. -/
namespace Go.Proofs.YtodjilljcjkacaaGreatDoor
open Go.RowKit

theorem addT (X Y : List UInt8) (h : X.length + Y.length ≤ 9223372036854775807) (W : World) : (binOp .add 9 (.string (txt X)) (.string (txt Y))).run Tryz.prog W = .ok (.string (txt (X ++ Y))) W := by
  rw [add_run _ _ (by simp only [txt_size]; omega) W, txt_app]
theorem wpList_addT {ops : Array Oper} {rest : List Oper} {dst : Option Tmp} {x y : Operand} {tb ty : TypeId} {pos : String} {af} {a : Act} {w : World} {Q : Exit → Act → World → Prop}
    (X Y Z : List UInt8) (hZ : Hid (Z = X ++ Y)) (hx : a.eval x = .string (txt X)) (hy : a.eval y = .string (txt Y)) (h : Z.length ≤ 9223372036854775807)
    (next : wpList Tryz.prog ops Q rest (a.put dst (str Z)) w) : wpList Tryz.prog ops Q ((⟨dst, .binOp .add 9 x y tb, ty, pos, af, none⟩ : Oper) :: rest) a w :=
  wpList_plain rfl fun K hK => by
    obtain rfl : Z = X ++ Y := hZ
    unfold Oper.wp execOp
    simp only [hx, hy]
    simp [eqGuard, addT X Y (by rw [List.length_append] at h; exact h) w, Result.andThen, Oper.upon]
    exact hK _ _ next
theorem wpList_convT {ops : Array Oper} {rest : List Oper} {dst : Option Tmp} {x : Operand} {ty : TypeId} {pos : String} {af} {a : Act} {w : World} {Q : Exit → Act → World → Prop}
    (l : List UInt8) (N g : Nat) (hx : a.eval x = .string (txt l)) (hN : l.length = N) (hl : N ≤ maxLen) (hg : w.heap.size = g)
    (next : ∀ cap W, Hid (Conv W g N cap g l) → Below w.heap.size w W → wpList Tryz.prog ops Q rest (a.put dst (.slice (some ⟨g, 0, none⟩) N cap)) W) : wpList Tryz.prog ops Q ((⟨dst, .convert 9 40 x, ty, pos, af, none⟩ : Oper) :: rest) a w := by
  subst hg
  obtain ⟨cap, W, hrun, hC, hb⟩ := conv_list (P := Tryz.prog) w 9 40 5 l N Tryz.underlying9 Tryz.underlying40 Tryz.underlying5 hN hl
  refine wpList_plain rfl fun K hK => ?_
  unfold Oper.wp execOp
  simp only [hx]
  simp [hrun, Result.andThen, Oper.upon]
  exact hK _ _ (next cap W (Lib.hid hC) hb)
end Go.Proofs.YtodjilljcjkacaaGreatDoor
/- Layer 4: Wrap, its frame in memory of the call's own. -/
namespace Go.Proofs.YtodjilljcjkacaaGreatDoor
open Go.RowKit

/-- bytes in memory of the call's own, that may be added to -/
def RetOwnW (l : List UInt8) (w : World) (e : Ending) (w' : World) : Prop := ∃ v, e = .returned (.tuple #[v, .int .i64 0]) ∧ Own 5 w' w.heap.size v l ∧ Below w.heap.size w w'
theorem Own.baseL {E : TypeId} {B B' : Nat} {w : World} {v : Value} {l : List UInt8} (h : Own E w B' v l) (hB : B ≤ B') : Own E w B v l :=
  ⟨h.1, h.2.imp id (fun ⟨g, cap, cur, e, h1, h2⟩ => ⟨g, cap, cur, e, Nat.le_trans hB h1, h2⟩)⟩
set_option maxRecDepth 100000 in
theorem frameWrap_own (A : Option Addr) (n c : Nat) (l : List UInt8) (w : World) (hS : Signs w) (hB : Bs w A n c l) (hg : good l = true) (hn : n ≤ 140737488351232) :
    Calls Tryz.prog 38 #[.slice A n c] w (RetOwnW (11 :: (l ++ [28, 13])) w) := by
  have hgo := Lib.hid (frameGood_b A n c l w hS hB true hg)
  have hmk : ∀ W : World, (Instr.makeSlice 40 (.int .i64 0) (.int .i64 ((n : Int) + 3))).run Tryz.prog W = .ok (.slice (some ⟨W.heap.size, 0, none⟩) 0 (n + 3)) (W.alloc (.cells (Array.replicate (n + 3) (.int .u8 0)) 5)) := by
    intro W
    rw [show ((n : Int) + 3) = ((n + 3 : Nat) : Int) from by omega]
    exact run_mk _ _ Tryz.underlying40 byteInfoF 0 (n + 3) (by omega) (by omega) W
  have HS := Lib.hid hS
  have HB := Lib.hid hB
  have HL : l.length ≤ n := by have := hB.len; omega
  have tok1 : True := trivial
  have tok2 : True := trivial
  have tok3 : True := trivial
  clear hS hB hg
  go_enter Tryz.func38, Tryz.ntmps38
  go_wp2_with (first
    | (go_at_call 68; refine (hgo.out).mono ?_; rintro e w1 ⟨rfl, hb1⟩
       have S1 := Lib.hid (HS.out.below hb1)
       have B1 := Lib.hid (HB.out.below hb1)
       obtain ⟨s0, s1, s2⟩ := HS.out.below hb1
       have hsz1 : 0 < w1.heap.size := World.block_lt_of_cell? w1 _ s0)
    | (go_at_call 69; refine (frameCount _ (by omega) (by omega) _).mono ?_; rintro e w' ⟨rfl, rfl⟩)
    | (at_builtin; have _t := tok1
       go_loud (refine wpList_app rfl (.tmp 12) (.tmp 15) 40 rfl w1.heap.size 5 Tryz.underlying40 byteInfoF _ [] rfl ((Own.made 5 w1 (Array.replicate (n + 3) (.int .u8 0)) (n + 3) (Nat.le_refl _) (by simp only [maxLen]; omega) (by simp)).alloc _) _ 1 1 [11] rfl (Bs.lit _ [11] 5 _ _ (by simp) rfl rfl (by simp [maxLen])) (by simp) (by simp; omega) ?_)
       intro v2 w2 hown2 hb2 hg2
       have b12 : Below w1.heap.size w1 w2 := (((Below.refl _ _).alloc (Nat.le_refl _) _).alloc (by simp) _).trans hb2
       clear tok1 hb2 hg2 _t)
    | (at_builtin; have _t := tok2
       go_loud (refine wpList_app rfl (.tmp 17) (.tmp 18) 40 rfl w1.heap.size 5 Tryz.underlying40 byteInfoF _ _ rfl hown2 _ n c l rfl (B1.out.below b12) (by simp; omega) b12.size ?_)
       intro v3 w3 hown3 hb3 hg3
       have b13 := b12.trans hb3
       clear tok2 hb3 hg3 _t
       obtain ⟨s03, s13, s23⟩ := S1.out.below b13)
    | (at_builtin; have _t := tok3
       go_loud (refine wpList_app rfl (.tmp 20) (.tmp 25) 40 rfl w1.heap.size 5 Tryz.underlying40 byteInfoF _ _ rfl (hown3.alloc _) _ 2 2 [28, 13] rfl (Bs.lit _ [28, 13] 5 _ _ (by simp) rfl rfl (by simp [maxLen])) (by simp; omega) (by have := b13.size; simp; omega) ?_)
       intro v4 w4 hown4 hb4 hg4
       have b14 : Below w1.heap.size w1 w4 := (b13.alloc b13.size _).trans hb4
       clear tok3 hb4 hg4 _t))
  go_ret2
  have hl4 : ([] ++ [11] ++ l ++ [28, 13] : List UInt8) = 11 :: (l ++ [28, 13]) := by simp
  rw [hl4] at hown4
  exact ⟨v4, rfl, hown4.baseL hb1.size, hb1.trans (b14.mono hb1.size)⟩
end Go.Proofs.YtodjilljcjkacaaGreatDoor
/- Layer 17: the law's own small functions: right, begin, room, most. -/
namespace Go.Proofs.YtodjilljcjkacaaGreatDoor
open Go.RowKit Go.MapKept

abbrev preR : List UInt8 := [77, 83, 72, 124, 94, 126, 92, 38, 124, 124, 124, 124, 124, 124, 124, 65, 68, 84, 124]
abbrev sufR : List UInt8 := [124, 80, 124, 50, 46, 53, 13]
def rightD (y : List UInt8) : List UInt8 := preR ++ y ++ sufR
theorem rightD_len (y : List UInt8) : (rightD y).length = y.length + 26 := by simp [rightD]
set_option maxRecDepth 100000
set_option maxHeartbeats 2000000
theorem right17 (y : List UInt8) (hy : y.length ≤ 1000000) (w : World) : Calls Tryz.prog 39 #[.string (txt y)] w fun e w' => ∃ b c, e = .returned (.slice (some ⟨b, 0, none⟩) (rightD y).length c) ∧ Bs w' (some ⟨b, 0, none⟩) (rightD y).length c (rightD y) ∧ w.heap.size ≤ b ∧ Below w.heap.size w w' := by
  obtain ⟨Z1, hZ1⟩ : ∃ Z1, Z1 = preR ++ y := ⟨_, rfl⟩
  have HZ1 := Lib.hid hZ1
  have HZ2 : Hid (rightD y = Z1 ++ sufR) := Lib.hid (by rw [hZ1]; rfl)
  have HL1 : Hid (Z1.length ≤ 2000000) := Lib.hid (by rw [hZ1]; simp; omega)
  have HL2 : Hid ((rightD y).length ≤ 2000000) := Lib.hid (by rw [rightD_len]; omega)
  obtain ⟨Z2, hZ2⟩ : ∃ Z2, Z2 = rightD y := ⟨_, rfl⟩
  rw [← hZ2] at HZ2 HL2 ⊢
  obtain ⟨N, hN⟩ : ∃ N, Z2.length = N := ⟨_, rfl⟩
  have HN := Lib.hid hN
  rw [hN] at HL2 ⊢
  clear hZ1 hZ2 hy hN
  go_enter Tryz.func39, Tryz.ntmps39
  have tok1 : Hid True := Lib.hid trivial
  go_wp2_with (first | (with_reducible refine wpList_addT (dst := some 4) preR y Z1 HZ1 (by kernel_rfl) (by kernel_rfl) (by have := HL1.out; omega) ?_) | (with_reducible refine wpList_addT (dst := some 5) Z1 sufR Z2 HZ2 (by kernel_rfl) (by kernel_rfl) (by have := HN.out; have := HL2.out; omega) ?_) | (have _t := tok1; with_reducible refine wpList_convT Z2 N w.heap.size (by kernel_rfl) HN.out (by have := HL2.out; simp only [maxLen]; omega) rfl ?_; intro cap5 W5 HC5 hbv5; have HBV5 := Lib.hid hbv5; clear tok1 hbv5 _t))
  go_ret
  exact ⟨w.heap.size, cap5, rfl, HC5.out.bs, Nat.le_refl _, HBV5.out⟩
def u64D (n : Int) (k : Int) : Nat := (n % 18446744073709551616 % k).toNat
theorem u64D_lt (n : Int) (k : Nat) (hk : 0 < k) : u64D n k < k := by
  unfold u64D
  have h1 := Int.emod_nonneg (n % 18446744073709551616) (show (k : Int) ≠ 0 by omega)
  have h2 := Int.emod_lt_of_pos (n % 18446744073709551616) (show (0 : Int) < (k : Int) by omega)
  omega
theorem u64D_eq (n : Int) (k : Nat) (hk : 0 < k) (hk2 : k ≤ 1000000) : wrap64 ((IntKind.u64.wrap n).tmod (k : Int)) = (u64D n k : Int) := by
  have h0 := u64D_lt n k hk
  have h1 := Int.emod_nonneg (n % 18446744073709551616) (show (k : Int) ≠ 0 by omega)
  have e : (IntKind.u64.wrap n).tmod (k : Int) = (u64D n k : Int) := by
    rw [IntKind.wrap_u64, Int.tmod_eq_emod_of_nonneg (Int.emod_nonneg _ (by decide))]
    unfold u64D
    omega
  rw [e]
  simp only [wrap64]
  omega
theorem room17 (n : Int) (w : World) : Calls Tryz.prog 11 #[.int .i64 n] w fun e w' => e = .returned (.int .i64 (u64D n 3000 : Int)) ∧ w' = w := by
  have e := u64D_eq n 3000 (by decide) (by decide)
  have E := Lib.hid e
  clear e
  go_enter Tryz.func11, Tryz.ntmps11
  go_wp2_with (fail)
  have e : wrap64 ((IntKind.u64.wrap n).tmod 3000) = (u64D n 3000 : Int) := E.out
  rw [e]
  go_ret
  exact ⟨rfl, rfl⟩
theorem most17 (n : Int) (w : World) : Calls Tryz.prog 12 #[.int .i64 n] w fun e w' => e = .returned (.int .i64 ((u64D n 600 + 1 : Nat) : Int)) ∧ w' = w := by
  have e := u64D_eq n 600 (by decide) (by decide)
  have E := Lib.hid e
  clear e
  go_enter Tryz.func12, Tryz.ntmps12
  go_wp2_with (fail)
  have e : wrap64 ((IntKind.u64.wrap n).tmod 600) = (u64D n 600 : Int) := E.out
  have h : u64D n 600 < 600 := u64D_lt n 600 (by decide)
  have e2 : wrap64 (1 + (u64D n 600 : Int)) = ((u64D n 600 + 1 : Nat) : Int) := by simp only [wrap64]; omega
  rw [e, e2]
  go_ret
  exact ⟨rfl, rfl⟩
theorem begin17 (n : Int) (hn : 0 ≤ n ∧ n ≤ 1073741824) (m : Nat) (h0 : 1 ≤ m) (h1 : m ≤ 65536) (w : World) : Calls Tryz.prog 10 #[.int .i64 n, .int .i64 m] w fun e w' => ∃ D M L Q X v, e = .returned (.tuple #[pD D, pL L, pI X]) ∧
    IB (fun k => k < w.heap.size) w' w.heap.size D M L Q X none ⟨n, 0, 0, 0, 0, 0⟩ [] [] 0 v m newS (.slice none 0 0) [] 0 0 ∧ Below w.heap.size w w' := by
  go_enter Tryz.func10, Tryz.ntmps10
  go_wp2_with (fail)
  refine (dkNew n hn w).mono ?_
  rintro e w1 ⟨D, M, rfl, hd1, hb1⟩
  have HD1 := Lib.hid hd1
  have HB1 := Lib.hid hb1
  clear hd1 hb1
  go_wp2_with (fail)
  refine (walOpen_new (E := fun k => k < w.heap.size) hn HD1.out nmI (by decide) nameL HB1.out.size (fun k hk => Nat.lt_of_lt_of_le hk HB1.out.size)).mono ?_
  rintro e w2 ⟨L, v, rfl, hl2, hd2, hc2, _, _⟩
  have HB2 := Lib.hid (HB1.out.trans (hc2.below HD1.out HB1.out.size))
  have HL2 := Lib.hid hl2
  have HD2 := Lib.hid hd2
  clear hl2 hd2 hc2 HD1 HB1
  go_wp2_with (fail)
  refine (inNew HD2.out HL2.out m h0 h1 HB2.out.size (fun k hk => ⟨Nat.lt_of_lt_of_le hk HB2.out.size, fun hl => by have := (HL2.out.foot_lt HD2.out (.inl hl)).1; omega⟩)).mono ?_
  rintro e w3 ⟨X, Q, rfl, hi, hb3, _⟩
  have HI := Lib.hid hi
  have HB3 := Lib.hid (HB2.out.trans (hb3.mono HB2.out.size))
  clear hi hb3 HL2 HD2 HB2
  go_wp2_with (fail)
  exact bodyPost_ret (v := .tuple #[pD D, pL L, pI X]) (by simp [results, Tryz.results10, go_sem]) rfl ⟨D, M, L, Q, X, v, rfl, HI.out, HB3.out⟩
end Go.Proofs.YtodjilljcjkacaaGreatDoor
/- Layer 17: the document's example, walked. -/
namespace Go.Proofs.YtodjilljcjkacaaGreatDoor
open Go.RowKit Go.MapKept

abbrev m7 : List UInt8 := rightD [55]
abbrev m0 : List UInt8 := rightD []
abbrev mx : List UInt8 := [120, 121, 122]
abbrev fr (l : List UInt8) : List UInt8 := 11 :: (l ++ [28, 13])
theorem ex_feed : (feedD 500 newS (fr m7 ++ fr m0 ++ fr mx)).2 = [m7, m0, mx] := by decide +kernel
theorem ex_v7 : (verdictD m7).2.1 = cB 0 := by decide +kernel
theorem ex_v0 : (verdictD m0).2.1 ≠ cB 0 := by decide +kernel
theorem ex_vx : (verdictD mx).2.1 ≠ cB 0 := by decide +kernel
theorem ex_r7 : (replyD m7 true).2 = true := by decide +kernel
theorem ex_r0 : (replyD m0 false).2 = true := by decide +kernel
theorem ex_rx : (replyD mx false).2 = false := by decide +kernel
theorem ex_g7 : good m7 = true := by decide +kernel
theorem ex_g0 : good m0 = true := by decide +kernel
theorem ex_gx : good mx = true := by decide +kernel
theorem ex_run : (feedM ⟨1000, 0, 0, 0, 0, 0⟩ (fsOf []) [] 0 0 [] [m7, m0, mx]).r = .inl 0 ∧ (feedM ⟨1000, 0, 0, 0, 0, 0⟩ (fsOf []) [] 0 0 [] [m7, m0, mx]).kp = 1 ∧ (feedM ⟨1000, 0, 0, 0, 0, 0⟩ (fsOf []) [] 0 0 [] [m7, m0, mx]).La.length = 2 ∧ (feedM ⟨1000, 0, 0, 0, 0, 0⟩ (fsOf []) [] 0 0 [] [m7, m0, mx]).T.length = 1 := by
  have h7 : (keepD ⟨1000, 0, 0, 0, 0, 0⟩ (fsOf []) 0 m7).1 = .inl 0 := by
    unfold keepD
    rw [if_pos ex_v7]
    rcases (addD_plain (newW_plain 1000 nmI) nameL m7 (by decide +kernel)).2 with h | h
    · exact h.2.1
    · have h1 := h.1
      rw [record_length, rightD_len] at h1
      have : (recs []).length = 0 := rfl
      rw [this] at h1
      exact absurd h1 (by decide)
  have hk0 : ∀ d fs g, keepD d fs g m0 = (.inl 1, d, fs) := fun d fs g => if_neg ex_v0
  have hkx : ∀ d fs g, keepD d fs g mx = (.inl 1, d, fs) := fun d fs g => if_neg ex_vx
  have a7 : (ansD m7 (.inl 0)).length = 1 := by
    have e : ansD m7 (.inl 0) = [(replyD m7 true).1] := by
      show (if (replyD m7 true).2 = true then [(replyD m7 true).1] else []) = _
      rw [if_pos ex_r7]
    rw [e]; rfl
  have a0 : (ansD m0 (.inl 1)).length = 1 := by
    have e : ansD m0 (.inl 1) = [(replyD m0 false).1] := by
      show (if (replyD m0 false).2 = true then [(replyD m0 false).1] else []) = _
      rw [if_pos ex_r0]
    rw [e]; rfl
  have ax : (ansD mx (.inl 1)).length = 0 := by
    have e : ansD mx (.inl 1) = [] := by
      show (if (replyD mx false).2 = true then [(replyD mx false).1] else []) = _
      rw [if_neg (by rw [ex_rx]; decide)]
    rw [e]; rfl
  simp only [feedM, h7, hk0, hkx]
  refine ⟨by simp, by simp, ?_, by simp⟩
  simp [List.length_append, a7, a0, ax]
set_option maxRecDepth 100000
set_option maxHeartbeats 8000000
theorem alive17 (w : World) (hG : ∀ W, Below w.heap.size w W → Vers W ∧ Signs W ∧ Cds W) : Calls Tryz.prog 8 #[] w (True_ w) := by
  have HG := Lib.hid hG
  clear hG
  have hcv := fun w C n c => Lib.run_convert_bytes_const (P := Tryz.prog) w 40 5 C n c Tryz.underlying40 Tryz.underlying5
  go_enter Tryz.func8, Tryz.ntmps8
  go_wp2_with (fail)
  refine (begin17 1000 (by decide) 500 (by decide) (by decide) w).mono ?_
  rintro e w1 ⟨D, M, L, Q, X, v, rfl, hi, hb1⟩
  have HI1 := Lib.hid hi
  have HB1 := Lib.hid hb1
  clear hi hb1
  go_wp2_with (fail)
  refine (right17 [55] (by decide) w1).mono ?_
  rintro e w2 ⟨b2, c2, rfl, hs2, _, hb2⟩
  have HS2 := Lib.hid hs2
  have HB2 := Lib.hid (HB1.out.trans (hb2.mono HB1.out.size))
  have HI2 := Lib.hid (HI1.out.below hb2)
  have HZ2 : Hid (w1.heap.size ≤ w2.heap.size) := Lib.hid hb2.size
  have HFL : Hid (∀ k, FI L D M Q X none [] v (.slice none 0 0) k → k < w1.heap.size) := Lib.hid (fun k hk => (HI1.out.foot_lt hk).2)
  clear hs2 hb2 HI1
  go_wp2_with (fail)
  refine (frameWrap_own _ _ _ _ w2 (HG.out w2 HB2.out).2.1 HS2.out ex_g7 (by decide)).mono ?_
  rintro e w3 ⟨v3, rfl, ho3, hb3⟩
  have HO3 := Lib.hid ho3
  have HC3 := Lib.hid hb3
  have HV3 : Hid (∀ k, v3.ownBlock = some k → k < w3.heap.size) := Lib.hid (fun k hk => (World.ownsRow.lt ho3 k hk).2)
  clear ho3 hb3 HS2
  go_wp2_with (fail)
  refine (right17 [] (by decide) w3).mono ?_
  rintro e w4 ⟨b4, c4, rfl, hs4, _, hb4⟩
  have HS4 := Lib.hid hs4
  have HC4 := Lib.hid (HC3.out.trans (hb4.mono HC3.out.size))
  have HO4 := Lib.hid (HO3.out.below hb4)
  have HD4 : Hid (w3.heap.size ≤ w4.heap.size) := Lib.hid hb4.size
  clear hs4 hb4 HO3 HC3
  go_wp2_with (fail)
  refine (frameWrap_own _ _ _ _ w4 (HG.out w4 (HB2.out.trans (HC4.out.mono HB2.out.size))).2.1 HS4.out ex_g0 (by decide)).mono ?_
  rintro e w5 ⟨v5, rfl, ho5, hb5⟩
  have HO5 := Lib.hid ho5
  have HC5 := Lib.hid (HC4.out.trans (hb5.mono HC4.out.size))
  have HP5 := Lib.hid (HO4.out.below hb5)
  have HD5 : Hid (w3.heap.size ≤ w5.heap.size) := Lib.hid (Nat.le_trans HD4.out hb5.size)
  clear ho5 hb5 HS4 HO4 HD4 HC4
  have hb6 : Below w5.heap.size w5 (w5.alloc (.cells #[.int .u8 120, .int .u8 121, .int .u8 122] 5 (3, 4))) := (Below.refl _ _).alloc (Nat.le_refl _) _
  have HC6 := Lib.hid (HC5.out.trans (hb6.mono HC5.out.size))
  have HO6 := Lib.hid (HO5.out.below hb6)
  have HP6 := Lib.hid (HP5.out.below hb6)
  have HS6 : Hid (Bs (w5.alloc (.cells #[.int .u8 120, .int .u8 121, .int .u8 122] 5 (3, 4))) (some ⟨w5.heap.size, 0, none⟩) 3 3 mx) := Lib.hid (Bs.litText w5 [120, 121, 122] 5 _ _ _ _ rfl rfl rfl (by simp [maxLen]))
  have HD6 : Hid (w3.heap.size ≤ (w5.alloc (.cells #[.int .u8 120, .int .u8 121, .int .u8 122] 5 (3, 4))).heap.size) := Lib.hid (Nat.le_trans HD5.out hb6.size)
  clear hb6 HO5 HP5 HC5 HD5
  go_wp2_with (fail)
  refine (frameWrap_own _ _ _ _ _ (HG.out _ (HB2.out.trans (HC6.out.mono HB2.out.size))).2.1 HS6.out ex_gx (by decide)).mono ?_
  rintro e w7 ⟨v7, rfl, ho7, hb7⟩
  have HC7 := Lib.hid (HC6.out.trans (hb7.mono HC6.out.size))
  have HP7 := Lib.hid (HO6.out.below hb7)
  have HR7 := Lib.hid (HP6.out.below hb7)
  obtain ⟨A5, c5, e5, hs5, _⟩ := HP7.out.bs
  obtain ⟨A7, c7, e7, hs7, hlo7⟩ := ho7.bs
  rw [show (11 :: (rightD [] ++ [28, 13]) : List UInt8).length = 29 from by decide +kernel] at e5 hs5
  rw [show (11 :: (mx ++ [28, 13]) : List UInt8).length = 6 from by decide +kernel] at e7 hs7
  subst e5 e7
  have HS5 := Lib.hid hs5
  have HS7 := Lib.hid hs7
  have HN7 : Hid (∀ b, A7 = some b → ¬ v3.ownBlock = some b.block) := Lib.hid (fun b hb hk => by
    have h1 := hlo7 b hb
    have h2 := HV3.out _ hk
    have h3 := HD6.out
    omega)
  clear hs5 hs7 HP7 ho7 hb7 hlo7 HO6 HP6 HS6 HC6 HD6 HV3
  have tok1 : Hid True := Lib.hid trivial
  have tok2 : Hid True := Lib.hid trivial
  go_wp2_with (first
    | (at_builtin; have _t := tok1; go_loud ((refine wpList_app rfl (.tmp 35) (.tmp 36) 40 rfl w2.heap.size 5 Tryz.underlying40 byteInfoF v3 (fr m7) rfl HR7.out A5 29 c5 (fr m0) rfl HS5.out (by decide +kernel) HC7.out.size ?_; intro v8 w8 ho8 hb8 hg8; have HO8 := Lib.hid ho8; have HC8 := Lib.hid (HC7.out.trans hb8); have HS8 := Lib.hid (HS7.out.ch (Ch.of_grown (S := fun k => v3.ownBlock = some k) hg8 (fun k hk => hk)) (fun _ b hb hk => HN7.out b hb hk)); clear tok1 ho8 hb8 hg8 _t)))
    | (at_builtin; have _t := tok2; go_loud ((refine wpList_app rfl (.tmp 37) (.tmp 38) 40 rfl w2.heap.size 5 Tryz.underlying40 byteInfoF v8 (fr m7 ++ fr m0) rfl HO8.out A7 6 c7 (fr mx) rfl HS8.out (by decide +kernel) HC8.out.size ?_; intro v9 w9 ho9 hb9 hg9; have HO9 := Lib.hid ho9; have HC9 := Lib.hid (HC8.out.trans hb9); clear tok2 ho9 hb9 hg9 _t))))
  obtain ⟨A9, c9, e9, hs9, hlo9⟩ := HO9.out.bs
  rw [show (fr m7 ++ fr m0 ++ fr mx : List UInt8).length = 65 from by decide +kernel] at e9 hs9
  subst e9
  have HB9 := Lib.hid (HB2.out.trans (HC9.out.mono HB2.out.size))
  have hF := mFeed (HI2.out.below HC9.out) A9 65 c9 0 _ hs9 (fun _ b hb hk => by have := hlo9 b hb; have := HFL.out _ hk; have := HZ2.out; omega) (by decide) ⟨Nat.le_refl _, Nat.le_refl _, Nat.le_refl _, Nat.zero_le _⟩ (by decide) (by decide) (fun W hb => HG.out W (HB9.out.trans hb)) (newW_ok 1000 (by decide)) (by show (0 : Int) + 3 * 65 + 8 ≤ _; decide) (by decide) (by decide) (by decide) (by decide) (by decide) HB9.out.size
  rw [ex_feed] at hF
  refine hF.mono ?_
  rintro e w10 ⟨F', v', va', O', he, hfs, hi10, hic10⟩
  obtain ⟨e1, e2, e3, e4⟩ := ex_run
  generalize feedM ⟨1000, 0, 0, 0, 0, 0⟩ (fsOf []) [] 0 0 [] [m7, m0, mx] = R at *
  have HB10 : Hid (Below w.heap.size w w10) := Lib.hid (HB9.out.trans (hic10.ch.below (fun k hk => ((HI2.out.below HC9.out).foot_lt hk).1) HB9.out.size))
  rw [e1] at he
  obtain rfl : e = .returned (.int .i64 0) := he
  obtain ⟨La, R1⟩ : ∃ La, La = [] ++ R.La := ⟨_, rfl⟩
  have HLA : Hid (La.length = 2) := Lib.hid (by rw [R1]; exact e3)
  rw [← R1, e2, e3] at hi10
  have HI := Lib.hid hi10
  have HT := Lib.hid e4
  clear e1 e2 e3 e4 R1 hi10 hic10 hF hs9 hlo9 hfs HI2 HC9 HB9 hcv
  obtain ⟨Av, cv, hva⟩ := HI.out.an.form
  rw [HLA.out] at hva
  subst hva
  go_wp2_with (fail)
  refine (inTake HI.out).mono ?_
  rintro e w11 ⟨rfl, hi11, _, hc11⟩
  have HI11 := Lib.hid hi11
  have HB11 : Hid (Below w.heap.size w w11) := Lib.hid (HB10.out.trans (hc11.below (fun k hk => by rw [show k = X from hk]; exact HI.out.xb) HB10.out.size))
  clear hi11 hc11 HB10
  go_wp2_with (fail)
  refine (inSeen HI11.out).mono ?_
  rintro e w12 ⟨rfl, rfl⟩
  go_wp2_with (fail)
  refine (inKept HI11.out).mono ?_
  rintro e w12 ⟨rfl, rfl⟩
  go_wp2_with (fail)
  refine (walLen HI11.out.lg).mono ?_
  rintro e w12 ⟨rfl, rfl⟩
  rw [HT.out]
  go_wp2_with (fail)
  go_ret
  exact ⟨rfl, HB11.out⟩
end Go.Proofs.YtodjilljcjkacaaGreatDoor
/- Layer 17: what the messages leave, bounded; two inboxes beside each other. -/
namespace Go.Proofs.YtodjilljcjkacaaGreatDoor
open Go.RowKit Go.MapKept

/-- the bounds that further feeding wants -/
structure InB (d : Dk) (fs : Fs) (T : List (List UInt8)) (g kp : Nat) (N : Nat) : Prop where
  ok : FsOk d fs
  ops : d.ops ≤ 3 * N
  g : g ≤ 29008 * N
  T : T.length ≤ N
  kp : kp ≤ N
theorem feedM_b : ∀ (Ms : List (List UInt8)) (d : Dk) (fs : Fs) (T : List (List UInt8)) (g kp : Nat) (La : List (List UInt8)) (N : Nat), InB d fs T g kp N → N + Ms.length ≤ 1000000000 → (∀ x ∈ Ms, x.length ≤ 29000) →
    InB (feedM d fs T g kp La Ms).d (feedM d fs T g kp La Ms).fs (feedM d fs T g kp La Ms).T (feedM d fs T g kp La Ms).g (feedM d fs T g kp La Ms).kp (N + Ms.length) ∧ (feedM d fs T g kp La Ms).La.length ≤ La.length + Ms.length
  | [], d, fs, T, g, kp, La, N, h, _, _ => ⟨h, Nat.le_refl _⟩
  | m :: r, d, fs, T, g, kp, La, N, h, hN, hx => by
    have hm := hx m (by simp)
    have ho := h.ops
    have hk := keepD_ok h.ok (by simp at hN; omega) g m
    have h1 := h.g
    have h2 := h.T
    have h3 := h.kp
    have hr := record_length m
    rw [List.length_cons] at hN ⊢
    unfold feedM
    split
    · exact ⟨⟨hk.1, by have := hk.2; show (keepD d fs g m).2.1.ops ≤ _; omega, by show g ≤ _; omega, by show T.length ≤ _; omega, by show kp ≤ _; omega⟩, by show La.length ≤ _; omega⟩
    · rename_i x _
      have ha := ansD_len m (.inl x)
      have hb : InB (keepD d fs g m).2.1 (keepD d fs g m).2.2 (if x = 0 then T ++ [m] else T) (if x = 0 then g + (record m).length else g) (if x = 0 then kp + 1 else kp) (N + 1) := by
        refine ⟨hk.1, by have := hk.2; omega, ?_, ?_, ?_⟩
        · split <;> omega
        · split <;> (try rw [List.length_append, List.length_singleton]) <;> omega
        · split <;> omega
      obtain ⟨q1, q2⟩ := feedM_b r _ _ _ _ _ (La ++ ansD m (.inl x)) (N + 1) hb (by omega) (fun y hy => hx y (by simp [hy]))
      rw [List.length_append] at q2
      rw [show N + (r.length + 1) = N + 1 + r.length from by omega]
      exact ⟨q1, by omega⟩
section
variable {Z Z' S : Nat → Prop} {w w' : World} {B D M L Q X g sn kp most : Nat} {O : Option Nat} {d : Dk} {F : List Ent} {T : List (List UInt8)} {v va : Value} {s : St} {an : List (List UInt8)}
/-- what lies beside it changes, and grows -/
theorem IB.beside (h : IB Z w B D M L Q X O d F T g v most s va an sn kp) (c : Ch S w w') (hS : ∀ k, k < w.heap.size → S k → Z k) (hZ : ∀ k, Z' k → k < w'.heap.size ∧ (Z k ∨ w.heap.size ≤ k)) : IB Z' w' B D M L Q X O d F T g v most s va an sn kp := by
  have hn : ∀ k, FI L D M Q X O F v va k → ¬ S k := fun k hf hs => h.zf (hS k (h.foot_lt hf).2 hs) hf
  refine ⟨h.dk.ch c (fun k hk => hn k (.inr (.inr (.inl (.inl (.inr hk)))))), ?_, h.df.ch c (hn Q (.inr (.inl (.inl rfl)))) (fun k hk => hn k (.inr (.inl (.inr hk.symm)))), c.row h.row (hn X (.inl rfl)), h.xb, ?_, h.ap, fun k hk => ?_⟩
  · refine ((h.lg.widen (E' := fun k => (Z k ∨ k = X ∨ dS Q O k ∨ va.ownBlock = some k) ∨ w.heap.size ≤ k) (fun k hk => hk)).chE c (fun k hk hs => .inl (.inl (hS k hk hs))) (hn L (.inr (.inr (.inl (.inl (.inl rfl))))))).widen (fun k hk => .inl ?_)
    rcases hk with h1 | h1
    · rcases (hZ k h1).2 with h2 | h2
      · exact .inl (.inl h2)
      · exact .inr h2
    · exact .inl (.inr h1)
  · refine (Rw.widen h.an (T' := fun k => (Z k ∨ k = X ∨ dS Q O k ∨ WFoot L D M F v k) ∨ w.heap.size ≤ k) (fun k hk => hk)).ch c (fun k hk hs => .inl (.inl (hS k hk hs))) (fun k _ hk => ?_)
    rcases hk with h1 | h1
    · rcases (hZ k h1).2 with h2 | h2
      · exact .inl (.inl h2)
      · exact .inr h2
    · exact .inl (.inr h1)
  · obtain ⟨h0, h1 | h1⟩ := hZ k hk
    · obtain ⟨_, h3⟩ := h.zl k h1
      exact ⟨h0, h3⟩
    · have hlt : ∀ j, FI L D M Q X O F v va j → j < w.heap.size := fun j hj => (h.foot_lt hj).2
      refine ⟨h0, fun e => ?_, fun hd => ?_, fun hl => ?_⟩
      · have := hlt k (.inl e); omega
      · have := hlt k (.inr (.inl hd)); omega
      · have := hlt k (.inr (.inr (.inl (.inl hl)))); omega
/-- another's step -/
theorem IB.other {A A' : Nat → Prop} (h : IB (fun k => A k ∨ Z k) w B D M L Q X O d F T g v most s va an sn kp) (c : ICh A A' w w') (hl : ∀ k, A' k → k < w'.heap.size) : IB (fun k => A' k ∨ Z k) w' B D M L Q X O d F T g v most s va an sn kp :=
  h.beside c.ch (fun k _ hk => .inl hk) (fun k hk => by
    rcases hk with hk | hk
    · exact ⟨hl k hk, (c.foot k hk).imp .inl id⟩
    · have := (h.zl k (.inr hk)).1
      exact ⟨Nat.lt_of_lt_of_le this c.ch.size, .inl (.inr hk)⟩)
end
set_option maxHeartbeats 1000000 in
set_option maxRecDepth 100000 in
theorem same17 (A A' : Option Addr) (n c c' : Nat) (L : List (List UInt8)) (w : World) (hS : Rd w A n c L) (hS' : Rd w A' n c' L) :
    Calls Tryz.prog 18 #[.slice A n c, .slice A' n c'] w fun e w' => e = .returned (.bool true) ∧ Below w.heap.size w w' := by
  have hmax := hS.nmax
  have HS := Lib.hid hS
  have HS' := Lib.hid hS'
  clear hS hS'
  go_enter Tryz.func18, Tryz.ntmps18
  go_wp2_with (fail)
  go_loopw [13, 5] (fun i _ wr => ∃ k : Nat, k ≤ n ∧ i = .int .i64 k ∧ Below w.heap.size w wr) (fun i _ _ => n - (intOf i).toNat)
  case atStart => exact ⟨0, Nat.zero_le _, rfl, Below.refl _ _⟩
  case round =>
    obtain ⟨k, hk, rfl, hb⟩ := hrel
    have HB := Lib.hid hb
    clear hb
    by_cases hlt : k < n
    · obtain ⟨b, o, Ai, ci, rfl, _, hc, hB⟩ := (HS.out.below HB.out).read hlt
      obtain ⟨b', o', Ai', ci', rfl, _, hc', hB'⟩ := (HS'.out.below HB.out).read hlt
      have e1 : (k : Int) < (n : Int) := by omega
      have e0 : (0 : Int) ≤ (k : Int) := by omega
      generalize L.getD k [] = y at *
      have hcv := fun q => (hB.drewN q).str (P := Tryz.prog) 40 5 9 Tryz.underlying40 Tryz.underlying5 Tryz.underlying9
      have hcv' := fun q => (hB'.drewN q).str (P := Tryz.prog) 40 5 9 Tryz.underlying40 Tryz.underlying5 Tryz.underlying9
      have HLT := Lib.hid hlt
      clear hlt hB hB'
      go_wp2_with (fail)
      go_quiet (fail)
      go_wp2_with (fail)
      exact ⟨⟨k + 1, HLT.out, by go_num, drawN_below HB.out _⟩, by have := HLT.out; simp [intOf]; omega⟩
    · obtain rfl : k = n := by omega
      go_wp2_with (fail)
      go_ret
      exact ⟨rfl, HB.out⟩
end Go.Proofs.YtodjilljcjkacaaGreatDoor
/- A row of slices of bytes, of the call's own, that avoids some blocks: many slices more. No condition. -/
namespace Go.Proofs.YtodjilljcjkacaaGreatDoor
open Go.RowKit

section
variable {B : Nat} {T : Nat → Prop} {w w' : World} {v v' : Value} {L L2 : List (List UInt8)} {vs vs2 : List Value}
/-- slices that may be added to v -/
def MayV (T : Nat → Prop) (w : World) (v : Value) (L2 : List (List UInt8)) (vs2 : List Value) : Prop :=
  ∀ (i : Nat) (u : Value) (x : List UInt8), vs2[i]? = some u → L2[i]? = some x → ∃ A c, u = .slice A x.length c ∧ Bs w A x.length c x ∧ (0 < x.length → ∀ b, A = some b → ¬ v.ownBlock = some b.block ∧ ¬ T b.block)
theorem RwV.many (h : RwV B T w v L vs) (hl2 : vs2.length = L2.length) (h12 : ∀ u ∈ vs2, u.oneCell' = true) (hx : MayV T w v L2 vs2) (hTn : ¬ T w.heap.size)
    (hown : w'.ownsRow B 40 1 v' (L.length + L2.length) (vs ++ vs2)) (hgr : w.grownBy w' v.ownBlock) (hfr : v'.ownBlock = v.ownBlock ∨ v'.ownBlock = some w.heap.size) : RwV B T w' v' (L ++ L2) (vs ++ vs2) := by
  obtain ⟨hl, ho, h1, h2, hg⟩ := h
  have hch : Ch (fun k => v.ownBlock = some k) w w' := Ch.of_grown hgr (fun k hk => hk)
  have hnew : ∀ b : Addr, b.block < w.heap.size → ¬ v.ownBlock = some b.block → ¬ v'.ownBlock = some b.block := fun b hb hne e => by
    rcases hfr with q | q
    · exact hne (by rw [← q]; exact e)
    · rw [q] at e; injection e with e; omega
  have hblk : ∀ (A : Option Addr) (c : Nat) (y : List UInt8), Bs w A y.length c y → 0 < y.length → ∀ b, A = some b → b.block < w.heap.size := fun A c y hb h0 b hA => by
    obtain ⟨b', o', e', hlt, _⟩ := hb.at_ h0
    rw [e'] at hA
    injection hA with hA
    subst hA
    exact hlt
  have hstep : ∀ (u : Value) (z : List UInt8), (∃ A c, u = .slice A z.length c ∧ Bs w A z.length c z ∧ (0 < z.length → ∀ b, A = some b → ¬ v.ownBlock = some b.block ∧ ¬ T b.block)) → ∃ A c, u = .slice A z.length c ∧ Bs w' A z.length c z ∧ (0 < z.length → ∀ b, A = some b → ¬ v'.ownBlock = some b.block ∧ ¬ T b.block) := by
    rintro u z ⟨A', c', e, hb, hne⟩
    exact ⟨A', c', e, hb.ch hch (fun h0 b hA hs => (hne h0 b hA).1 hs), fun h0 b hA => ⟨hnew b (hblk _ _ _ hb h0 b hA) (hne h0 b hA).1, (hne h0 b hA).2⟩⟩
  refine ⟨by simp [hl, hl2], by rw [List.length_append]; exact hown, fun u hu => ?_, fun k hk ht => ?_, fun i u z e1 e2 => ?_⟩
  · rcases List.mem_append.1 hu with hu | hu
    · exact h1 u hu
    · exact h12 u hu
  · rcases hfr with q | q
    · exact h2 k (by rw [← q]; exact hk) ht
    · rw [q] at hk; injection hk with hk; rw [← hk] at ht; exact hTn ht
  · by_cases hi : i < L.length
    · rw [List.getElem?_append_left (by rw [hl]; exact hi)] at e1
      rw [List.getElem?_append_left hi] at e2
      exact hstep u z (hg i u z e1 e2)
    · rw [List.getElem?_append_right (by rw [hl]; omega), hl] at e1
      rw [List.getElem?_append_right (by omega)] at e2
      exact hstep u z (hx _ u z e1 e2)
end

end Go.Proofs.YtodjilljcjkacaaGreatDoor
/- Layer 17: two inboxes that are fed the same. -/
namespace Go.Proofs.YtodjilljcjkacaaGreatDoor
open Go.RowKit Go.MapKept

theorem keepD_plain {d : Dk} {fs : Fs} {rs : List (List UInt8)} (h : WPlain d fs nmI rs) (m : List UInt8) : ∃ x, (keepD d fs (recs rs).length m).1 = .inl x ∧
    WPlain (keepD d fs (recs rs).length m).2.1 (keepD d fs (recs rs).length m).2.2 nmI (if x = 0 then rs ++ [m] else rs) ∧ (if x = 0 then (recs rs).length + (record m).length else (recs rs).length) = (recs (if x = 0 then rs ++ [m] else rs)).length ∧ (keepD d fs (recs rs).length m).2.1.room = d.room := by
  unfold keepD
  split
  · by_cases hk : okLen m.length = true
    · obtain ⟨hr, h1 | h1⟩ := addD_plain h nameL m hk
      · exact ⟨0, h1.2.1, by simpa using h1.2.2, by simp [recs_snoc], hr⟩
      · exact ⟨4, h1.2.1, by simpa using h1.2.2, by simp, hr⟩
    · have e : addD d fs nmI (recs rs).length m = (.inl 9, d, fs) := if_neg hk
      rw [e]
      exact ⟨9, rfl, by simpa using h, by simp, rfl⟩
  · exact ⟨1, rfl, by simpa using h, by simp, rfl⟩
theorem feedM_plain : ∀ (Ms : List (List UInt8)) (d : Dk) (fs : Fs) (T : List (List UInt8)) (kp : Nat) (La : List (List UInt8)), WPlain d fs nmI T →
    (feedM d fs T (recs T).length kp La Ms).r = .inl 0 ∧ WPlain (feedM d fs T (recs T).length kp La Ms).d (feedM d fs T (recs T).length kp La Ms).fs nmI (feedM d fs T (recs T).length kp La Ms).T ∧ (feedM d fs T (recs T).length kp La Ms).g = (recs (feedM d fs T (recs T).length kp La Ms).T).length ∧ (feedM d fs T (recs T).length kp La Ms).d.room = d.room
  | [], d, fs, T, kp, La, h => ⟨rfl, h, rfl, rfl⟩
  | m :: r, d, fs, T, kp, La, h => by
    obtain ⟨x, h1, h2, h3, h4⟩ := keepD_plain h m
    unfold feedM
    rw [h1]
    simp only
    rw [h3]
    obtain ⟨a, b, c, e⟩ := feedM_plain r _ _ _ (if x = 0 then kp + 1 else kp) (La ++ ansD m (.inl x)) h2
    exact ⟨a, b, c, e.trans h4⟩
end Go.Proofs.YtodjilljcjkacaaGreatDoor
