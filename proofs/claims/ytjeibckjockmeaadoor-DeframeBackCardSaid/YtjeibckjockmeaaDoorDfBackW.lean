/- DeframeBack, walked. -/
import Derived.Test.YtjeibckjockmeaaDoorDfBackMath
import Derived.Test.YtjeibckjockmeaaDoorDfWant
import Derived.Test.YtjeibckjockmeaaDoorFrameWrapA
import Derived.Deep.RegionHeld3
namespace Go.Proofs.YtjeibckjockmeaaDoor
open Go.RowKit

theorem newRowB (wa : World) (y : UInt8) : ∀ (j : Nat) (u : Value), [u8 y][j]? = some u → (wa.alloc (.cells #[u8 y] 5)).cell? ((⟨wa.heap.size, 0, none⟩ : Addr).add j) = some u := fun j u hu => by
  have hj : j = 0 := by
    rcases Nat.lt_or_ge j 1 with h | h
    · omega
    · rw [List.getElem?_eq_none (by simpa using h)] at hu; cases hu
  subst hj
  rw [Addr.add_lit, Nat.zero_add, cell_of_row _ wa.heap.size 0 _ _ _ (heap_alloc_new wa _)]
  exact hu
theorem oneRowB (y : UInt8) : ∀ u ∈ [u8 y], u.oneCell' = true := fun u hu => by simp at hu; subst hu; rfl
theorem own_tyB {w : World} {B n : Nat} {e : TypeId} {v : Value} {xs : List Value} (h : w.ownsRow B e 1 v n xs) (k : Nat) (hk : v.ownBlock = some k) : ∃ cur, w.heap[k]? = some (.cells cur e (0, 0)) := by
  rcases h.2 with ⟨rfl, _⟩ | ⟨g', cap, cur, rfl, _, hgg, _⟩
  · cases hk
  · injection hk with hk
    subst hk
    exact ⟨cur, hgg⟩

/-- what is in memory: all that is to be fed, and what is to come -/
structure BackM (m B0 B1 D : Nat) (w : World) (all : List UInt8) (wl : List (List UInt8)) (va vw : Value) (wr : World) : Prop where
  own : Own 5 wr B1 va all
  want : Want B0 wr vw wl
  wantB : ∀ j, vw.ownBlock = some j → B1 ≤ j
  df : Df B0 D none m newS wr
  dlt : D < B1
  low : Below w.heap.size w wr
  sz : B1 ≤ wr.heap.size
  b01 : B0 ≤ B1
  bw : w.heap.size ≤ B0
theorem Want.row {B : Nat} {w : World} {v : Value} {L : List (List UInt8)} (h : Want B w v L) : ∃ vs, w.ownsRow B 23 1 v L.length vs := by
  obtain ⟨vs, _, h, _⟩ := h
  exact ⟨vs, h⟩
theorem BackM.apart {m B0 B1 D : Nat} {w wr : World} {all : List UInt8} {wl : List (List UInt8)} {va vw : Value} (h : BackM m B0 B1 D w all wl va vw wr) (k : Nat) (h1 : va.ownBlock = some k) (h2 : vw.ownBlock = some k) : False := by
  obtain ⟨vs, hv⟩ := h.want.row
  obtain ⟨cur, hc⟩ := own_tyB (show wr.ownsRow B1 5 1 va all.length (u8s all) from h.own) k h1
  exact own_ne hv hc (by decide) h2.symm
theorem BackM.below {m B0 B1 D : Nat} {w wr w' : World} {all : List UInt8} {wl : List (List UInt8)} {va vw : Value} (h : BackM m B0 B1 D w all wl va vw wr) (hb : Below wr.heap.size wr w') : BackM m B0 B1 D w all wl va vw w' :=
  ⟨h.own.below hb, h.want.below hb, h.wantB, h.df.below hb, h.dlt, h.low.trans (hb.mono (Nat.le_trans (Nat.le_trans h.bw h.b01) h.sz)), Nat.le_trans h.sz hb.size, h.b01, h.bw⟩
theorem BackM.app {m B0 B1 D : Nat} {w wr w' : World} {all all' : List UInt8} {wl : List (List UInt8)} {va va' vw : Value} (h : BackM m B0 B1 D w all wl va vw wr) (ho : Own 5 w' B1 va' all') (hg : wr.grownBy w' va.ownBlock) : BackM m B0 B1 D w all' wl va' vw w' := by
  have hc : Ch (fun k => va.ownBlock = some k) wr w' := Ch.of_grown hg (fun k hk => hk)
  have hb1 : ∀ k, va.ownBlock = some k → B1 ≤ k := fun k hk => (Own.lt h.own k hk).1
  have h01 := h.b01
  have hbw := h.bw
  have hdl := h.dlt
  exact ⟨ho, h.want.ch hc (fun k hk hs => by have := hb1 k hs; omega) (fun k hk hs => h.apart k hs hk), h.wantB, h.df.ch hc (fun hs => by have := hb1 _ hs; omega) (fun k hk => by cases hk), hdl, h.low.trans (hc.below (fun k hk => by have := hb1 k hk; omega) (by have := h.sz; omega)), Nat.le_trans h.sz hc.size, h01, hbw⟩
theorem BackM.wanted {m B0 B1 D : Nat} {w wr w' : World} {all : List UInt8} {wl wl' : List (List UInt8)} {va vw vw' : Value} (h : BackM m B0 B1 D w all wl va vw wr) (ho : Want B0 w' vw' wl') (hg : wr.grownBy w' vw.ownBlock) (hf : vw'.ownBlock = vw.ownBlock ∨ vw'.ownBlock = some wr.heap.size) : BackM m B0 B1 D w all wl' va vw' w' := by
  have hc : Ch (fun k => vw.ownBlock = some k) wr w' := Ch.of_grown hg (fun k hk => hk)
  have h01 := h.b01
  have hbw := h.bw
  have hdl := h.dlt
  have hsz := h.sz
  refine ⟨h.own.ch hc (fun k hk hs => h.apart k hk hs), ho, fun j hj => ?_, h.df.ch hc (fun hs => by have := h.wantB _ hs; omega) (fun k hk => by cases hk), hdl, h.low.trans (hc.below (fun k hk => by have := h.wantB k hk; omega) (by omega)), Nat.le_trans h.sz hc.size, h01, hbw⟩
  rcases hf with e | e
  · exact h.wantB j (by rw [← e]; exact hj)
  · rw [e] at hj; injection hj with hj; omega
/-- the numbers -/
structure BackN (m : Nat) (all : List UInt8) (wl : List (List UInt8)) (N Ov a b k : Nat) : Prop where
  inv : BackInv m all wl N Ov
  len : all.length ≤ a
  noise : N ≤ b
  over : Ov ≤ k
  wn : wl.length ≤ k
theorem BackN.junk {m : Nat} {all : List UInt8} {wl : List (List UInt8)} {N Ov a b k : Nat} (h : BackN m all wl N Ov a b k) (x : UInt8) (hx : x ≠ 11) : BackN m (all ++ [x]) wl (N + 1) Ov (a + 1) (b + 1) k :=
  ⟨h.inv.junk x hx, by rw [List.length_append]; have := h.len; simpa using this, by have := h.noise; omega, h.over, h.wn⟩
theorem BackN.more {m : Nat} {all : List UInt8} {wl : List (List UInt8)} {N Ov a b k a' b' k' : Nat} (h : BackN m all wl N Ov a b k) (ha : a ≤ a') (hb : b ≤ b') (hk : k ≤ k') : BackN m all wl N Ov a' b' k' :=
  ⟨h.inv, Nat.le_trans h.len ha, Nat.le_trans h.noise hb, Nat.le_trans h.over hk, Nat.le_trans h.wn hk⟩
theorem BackN.frame {m : Nat} {all l : List UInt8} {wl : List (List UInt8)} {N Ov a b k : Nat} (h : BackN m all wl N Ov a b k) (hg : good l = true) (hm : l.length ≤ m) : BackN m (all ++ 11 :: (l ++ [28, 13])) (wl ++ [l]) N Ov (a + l.length + 3) b (k + 1) :=
  ⟨h.inv.frame hg hm, by have := h.len; simp; omega, h.noise, Nat.le_trans h.over (Nat.le_succ _), by have := h.wn; simp; omega⟩
theorem BackN.ovr {m : Nat} {all l : List UInt8} {wl : List (List UInt8)} {N Ov a b k : Nat} (h : BackN m all wl N Ov a b k) (hg : good l = true) (hm : m < l.length) : BackN m (all ++ 11 :: (l ++ [28, 13])) wl N (Ov + 1) (a + l.length + 3) b (k + 1) :=
  ⟨h.inv.over hg hm, by have := h.len; simp; omega, h.noise, by have := h.over; omega, Nat.le_trans h.wn (Nat.le_succ _)⟩
theorem Df.drewB {B D m : Nat} {O : Option Nat} {s : St} {w : World} (h : Df B D O m s w) : Df B D O m s w.drew := h.below (Below.refl _ w).drew

set_option maxHeartbeats 8000000 in
set_option maxRecDepth 100000 in
theorem deframeBack_walk (n : Int) (A : Option Addr) (k0 c : Nat) (L : List (List UInt8)) (Aj : Option Addr) (kj cj : Nat) (lj : List UInt8) (w : World) (hS : Signs w) (_wf : (Lit.int .i64 n).wf = true) (hB : Rd w A k0 c L) (hR : ∀ x ∈ L, x.length ≤ 140737488351232) (hJ : Bs w Aj kj cj lj) (_hR2 : cj ≤ 140737488351232) :
    Calls Tryd.prog 3 #[.int .i64 n, .slice A k0 c, .slice Aj kj cj] w (True_ w) := by
  obtain ⟨m, hm1, hm2, hmost⟩ := dMost n
  have hmax := hB.nmax
  have hjmax := hJ.nmax
  have HS := Lib.hid hB
  have HSG := Lib.hid hS
  have HJ := Lib.hid hJ
  have HJL := Lib.hid hJ.len
  have HR := Lib.hid hR
  have HLN := Lib.hid hB.1
  have HMO := Lib.hid hmost
  clear _wf hB hR hmost hS hJ _hR2
  go_enter Tryd.func3, Tryd.ntmps3
  go_wp2_with (fail)
  refine (alive05 w).mono ?_
  rintro e w0 ⟨rfl, hb⟩
  have HB0 := Lib.hid hb
  clear hb
  go_wp2_with (fail)
  refine (great05 A k0 c L w0 (HS.out.below HB0.out) HR.out).mono ?_
  rintro e w' ⟨⟨r, rfl, hr⟩, rfl⟩
  cases r
  case true =>
    clear hr
    go_wp2_with (fail)
    refine (alive05 w0).mono ?_
    rintro e w3 ⟨rfl, hb⟩
    have HB3 : Hid (Below w.heap.size w w3) := Lib.hid (HB0.out.trans (hb.mono HB0.out.size))
    clear hb
    go_wp2_with (fail)
    go_ret
    exact ⟨rfl, HB3.out⟩
  have HG := Lib.hid (hr rfl)
  clear hr
  by_cases hjl : (100 : Int) < (kj : Int)
  · go_wp2_with (fail)
    refine (alive05 w0).mono ?_
    rintro e w3 ⟨rfl, hb⟩
    have HB3 : Hid (Below w.heap.size w w3) := Lib.hid (HB0.out.trans (hb.mono HB0.out.size))
    clear hb
    go_wp2_with (fail)
    go_ret
    exact ⟨rfl, HB3.out⟩
  have HJ100 : Hid (kj ≤ 100) := Lib.hid (by omega)
  go_wp2_with (fail)
  refine (HMO.out w0).mono ?_
  rintro e w' ⟨rfl, rfl⟩
  go_wp2_with (fail)
  refine (dNew m hm1 (by omega) w0).mono ?_
  rintro e w1 ⟨D, rfl, hd, hb⟩
  have HM1 : Hid (BackM m w0.heap.size w1.heap.size D w [] [] (.slice none 0 0) (.slice none 0 0) w1) := Lib.hid ⟨Own.nil _ _ _, Want.nil _ _, (fun j hj => by cases hj), hd, hd.lt, HB0.out.trans (hb.mono HB0.out.size), Nat.le_refl _, hb.size, HB0.out.size⟩
  clear hd hb
  clear hjl
  go_wp2_with (fail)
  generalize w0.heap.size = B0 at *
  generalize w1.heap.size = B1 at *
  go_loopw [9, 10, 11, 12, 47, 14, 15, 16] (fun va vw no ov i _ _ _ wr => ∃ (k : Nat) (all : List UInt8) (wl : List (List UInt8)) (N Ov : Nat), k ≤ k0 ∧ i = .int .i64 k ∧ no = .int .i64 (N : Int) ∧ ov = .int .i64 (Ov : Int) ∧
    BackM m B0 B1 D w all wl va vw wr ∧ BackN m all wl N Ov (lensOf (L.take k) + 103 * k) (100 * k) k) (fun _ _ _ _ i _ _ _ _ => k0 - (intOf i).toNat)
  case atStart => exact ⟨0, [], [], 0, 0, Nat.zero_le _, rfl, rfl, rfl, HM1.out, ⟨BackInv.nil m, Nat.le_refl _, Nat.le_refl _, Nat.le_refl _, Nat.le_refl _⟩⟩
  case round =>
    clear HM1
    obtain ⟨wo, rfl⟩ : ∃ wo : World, wo = wr := ⟨_, rfl⟩
    obtain ⟨k, all, wl, N, Ov, hk, rfl, rfl, rfl, hm, hn⟩ := hrel
    have HM := Lib.hid hm
    have HN := Lib.hid hn
    clear hm hn
    obtain ⟨va, hva⟩ : ∃ va, va = u9 := ⟨_, rfl⟩
    obtain ⟨vw, hvw⟩ : ∃ vw, vw = u10 := ⟨_, rfl⟩
    subst hva hvw
    by_cases hlt : k < k0
    · obtain ⟨b, o, Ai, ci, rfl, hbl, hc, hB⟩ := HS.out.read hlt
      have hcc := (HM.out.low.cell (p := ⟨b, o + k, none⟩) hbl).trans hc
      have HBY := Lib.hid hB
      have HBW : Hid (Bs wo Ai (L.getD k []).length ci (L.getD k [])) := Lib.hid (hB.below HM.out.low)
      have HYL : Hid ((L.getD k []).length ≤ 140737488351232) := Lib.hid (HR.out _ (by
        rw [List.getD_eq_getElem?_getD, List.getElem?_eq_getElem (by rw [HLN.out]; exact hlt)]
        exact List.getElem_mem _))
      have e1 : (k : Int) < (k0 : Int) := by omega
      have htk := take_getD L k (by rw [HLN.out]; exact hlt)
      have HXL : Hid (lensOf (L.take k) + (L.getD k []).length ≤ 3000) := Lib.hid (by
        have h1 := lens_take L (k + 1)
        have h2 := HG.out.2
        rw [htk, lensOf_snoc] at h1
        omega)
      have HXS : Hid (lensOf (L.take (k + 1)) = lensOf (L.take k) + (L.getD k []).length) := Lib.hid (by rw [htk, lensOf_snoc])
      have HBAi : Hid (0 < (L.getD k []).length → ∀ b, Ai = some b → b.block < B0) := Lib.hid (fun h0 b hb => by
        obtain ⟨b', o', e, hlt, _⟩ := hB.at_ h0
        rw [e] at hb
        injection hb with hb
        subst hb
        have := HM.out.bw
        show b' < B0
        omega)
      have HLT := Lib.hid hlt
      have HK100 : Hid (k ≤ 100) := Lib.hid (by have := HG.out.1; omega)
      have hkn : k ≤ 100 := HK100.out
      have hNb : N ≤ 10000 := by have := HN.out.noise; omega
      have hOb : Ov ≤ 100 := by have := HN.out.over; omega
      clear hbl hc hB htk hlt
      generalize hS0 : lensOf (L.take k) = S0 at *
      generalize L.getD k [] = y at *
      clear hS0
      have hci := HBY.out.max
      have hyc := HBY.out.le
      by_cases hg : good y = true
      case neg =>
        have HGD : Hid (good y = false) := Lib.hid (by simpa using hg)
        clear hg
        go_wp2_with (fail)
        refine (frameWrap_no Ai y.length ci y wo (HSG.out.below HM.out.low) HBW.out HGD.out).mono ?_
        rintro e w5 ⟨A5, c5, rfl, _, hb5⟩
        have HM5 := Lib.hid (HM.out.below hb5)
        clear hb5
        go_wp2_with (fail)
        exact ⟨⟨k + 1, all, wl, N, Ov, HLT.out, by go_num, rfl, rfl, HM5.out, HN.out.more (by have := HXS.out; omega) (by omega) (by omega)⟩, by have := HLT.out; simp [intOf]; omega⟩
      have HGD := Lib.hid hg
      clear hg
      go_wp2_with (fail)
      refine (frameWrap_new Ai y.length ci y wo (HSG.out.below HM.out.low) HBW.out HGD.out HYL.out).mono ?_
      rintro e w5 ⟨A5, c5, rfl, hF5, hlo5, hb5⟩
      have hl5 : (11 :: (y ++ [28, 13]) : List UInt8).length = y.length + 3 := by simp
      rw [hl5] at hF5 ⊢
      have HM5 := Lib.hid (HM.out.below hb5)
      have HF5 := Lib.hid hF5
      have HSEP5 : Hid (∀ b, A5 = some b → wo.heap.size ≤ b.block ∧ b.block < w5.heap.size) := Lib.hid (fun b hb => ⟨hlo5 b hb, by
        obtain ⟨b', o', e, hlt, _⟩ := hF5.at_ (by omega)
        rw [e] at hb
        injection hb with hb
        subst hb
        exact hlt⟩)
      have HOW : Hid (∀ q, va.ownBlock = some q → q < wo.heap.size) := Lib.hid (fun q hq => (Own.lt HM.out.own q hq).2)
      clear hlo5
      clear hb5 hF5 hl5 HM
      go_wp2_with (fail)
      go_loopw [9, 11, 60, 18] (fun va no i _ wr => ∃ (j : Nat) (all : List UInt8) (N : Nat), j ≤ kj ∧ i = .int .i64 j ∧ no = .int .i64 (N : Int) ∧
        BackM m B0 B1 D w all wl va vw wr ∧ BackN m all wl N Ov (S0 + 103 * k + j) (100 * k + j) k ∧ Bs wr A5 (y.length + 3) c5 (11 :: (y ++ [28, 13])) ∧ (∀ b, A5 = some b → b.block < w5.heap.size ∧ ∀ q, va.ownBlock = some q → q ≠ b.block) ∧ w5.heap.size ≤ wr.heap.size) (fun _ _ i _ _ => kj - (intOf i).toNat)
      case atStart => exact ⟨0, all, N, Nat.zero_le _, rfl, rfl, HM5.out, HN.out, HF5.out, fun b hb => by
        have hs := HSEP5.out b hb
        exact ⟨hs.2, fun q hq e => by have := HOW.out q hq; omega⟩, Nat.le_refl _⟩
      case round =>
        clear HM5 HF5 HN hNb
        obtain ⟨wi, rfl⟩ : ∃ wi : World, wi = wr := ⟨_, rfl⟩
        obtain ⟨j, all', N', hj, rfl, rfl, hm, hn, hf, hsp, hz⟩ := hrel
        have HZI := Lib.hid hz
        have HM := Lib.hid hm
        have HN := Lib.hid hn
        have HF := Lib.hid hf
        have HSP := Lib.hid hsp
        obtain ⟨va', hva⟩ : ∃ va', va' = u9 := ⟨_, rfl⟩
        subst hva
        have hj100 : j ≤ 100 := by have := HJ100.out; omega
        have hNb : N' ≤ 10100 := by have := HN.out.noise; omega
        have hS0 : S0 ≤ 3000 := by have := HXL.out; omega
        clear hm hn hf hsp hz
        by_cases hlt : j < kj
        · obtain ⟨bj, oj, rfl, hbl, hcs⟩ := HJ.out.at_ (by omega)
          have hg0 : lj[j]? = some (lj.getD j 0) := by rw [List.getD_eq_getElem?_getD, List.getElem?_eq_getElem (by rw [HJL.out]; exact hlt)]; rfl
          have hcc2 := (HM.out.low.cell (p := ⟨bj, oj + j, none⟩) hbl).trans (hcs j _ hg0)
          have e2 : (j : Int) < (kj : Int) := by omega
          have HLJ := Lib.hid hlt
          generalize lj.getD j 0 = x at *
          clear hbl hcs hg0 hlt
          by_cases hx : x = 11
          · subst hx
            have HSZ : Hid (wi.heap.size = wi.heap.size) := Lib.hid rfl
            go_wp2_with (fail)
            exact ⟨⟨j + 1, all', N', HLJ.out, by go_num, rfl, HM.out, HN.out.more (by omega) (by omega) (Nat.le_refl _), HF.out, HSP.out, HZI.out⟩, by have := HLJ.out; simp [intOf]; omega⟩
          · have HX := Lib.hid hx
            have hx1 : ((x.toNat : Int) == 11) = false := by
              rw [beq_eq_false_iff_ne]; intro h; exact hx (UInt8.toNat_inj.1 (by simpa using (by omega : x.toNat = 11)))
            have hx2 : ((x.toNat : Int) != 11) = true := by rw [bne, hx1]; rfl
            clear hx
            have HNW := Lib.hid (newRowB wi x)
            have HON := Lib.hid (oneRowB x)
            have HM1 := Lib.hid (HM.out.below ((Below.refl wi.heap.size wi).alloc (Nat.le_refl _) (.cells #[u8 x] 5)))
            have tok1 : Hid True := Lib.hid trivial
            go_wp2_with (at_builtin; have _t := tok1; go_loud ((refine wpList_appAt rfl (.tmp 66) (.tmp 68) 23 rfl B1 5 (.int .u8 0) 1 Tryd.underlying23 byteInfo rfl (by decide) va' all'.length (u8s all') rfl HM1.out.own ⟨wi.heap.size, 0, none⟩ 1 1 [.int .u8 (x.toNat : Int)] rfl rfl HNW.out HON.out (by have := HN.out.len; omega) (HM1.out.sz) ?_; intro v6 w6 hown' hgr hfresh; have HO6 := Lib.hid hown'; have HG6 := Lib.hid hgr; have HF6 := Lib.hid hfresh; clear tok1 hown' hgr hfresh _t)))
            have HO7 : Hid (Own 5 w6 B1 v6 (all' ++ [x])) := Lib.hid (by unfold Own; rw [List.length_append]; simpa using HO6.out)
            have HM7 := Lib.hid (HM1.out.app HO7.out HG6.out)
            have HF1 := HF.out.below ((Below.refl wi.heap.size wi).alloc (Nat.le_refl _) (.cells #[u8 x] 5))
            have HF7 : Hid (Bs w6 A5 (y.length + 3) c5 (11 :: (y ++ [28, 13]))) := Lib.hid (HF1.ch (Ch.of_grown (S := fun q => va'.ownBlock = some q) HG6.out (fun q hq => hq)) (fun _ b hb hs => (HSP.out b hb).2 _ hs rfl))
            have HSP7 : Hid (∀ b, A5 = some b → b.block < w5.heap.size ∧ ∀ q, v6.ownBlock = some q → q ≠ b.block) := Lib.hid (fun b hb => ⟨(HSP.out b hb).1, fun q hq e => by
              rcases HF6.out with h | h
              · exact (HSP.out b hb).2 q (by rw [← h]; exact hq) e
              · rw [h] at hq
                injection hq with hq
                have h1 := (HSP.out b hb).1
                have h2 := HZI.out
                have h3 := ((Below.refl wi.heap.size wi).alloc (Nat.le_refl _) (.cells #[u8 x] 5)).size
                omega⟩)
            have HZ7 : Hid (w5.heap.size ≤ w6.heap.size) := Lib.hid (Nat.le_trans HZI.out (Nat.le_trans ((Below.refl wi.heap.size wi).alloc (Nat.le_refl _) (.cells #[u8 x] 5)).size HG6.out.size))
            have HN7 := Lib.hid (HN.out.junk x HX.out)
            obtain ⟨A7, c7, hv⟩ := own_form HO6.out
            subst hv
            clear HF1 HG6 HF6 HO6 HO7 HNW HON HM1
            go_wp2_with (fail)
            exact ⟨⟨j + 1, all' ++ [x], N' + 1, HLJ.out, by go_num, by go_num, HM7.out, HN7.out.more (by omega) (by omega) (Nat.le_refl _), HF7.out, HSP7.out, HZ7.out⟩, by have := HLJ.out; simp [intOf]; omega⟩
        · obtain rfl : j = kj := by omega
          clear hlt
          have tok1 : Hid True := Lib.hid trivial
          obtain ⟨Z, hZ⟩ : ∃ Z, all' ++ 11 :: (y ++ [28, 13]) = Z := ⟨_, rfl⟩
          have HZ := Lib.hid hZ
          clear hZ
          have HLY : Hid ((11 :: (y ++ [28, 13]) : List UInt8).length = y.length + 3) := Lib.hid (by simp)
          go_wp2_with (at_builtin; have _t := tok1; go_loud ((refine wpList_appL rfl (.tmp 73) (.tmp 74) rfl B1 va' all' rfl HM.out.own A5 (y.length + 3) c5 (11 :: (y ++ [28, 13])) rfl HF.out (by have := HN.out.len; have := HXL.out; omega) HM.out.sz ?_; intro v6 w6 hown6 hgr6 hfr6; rw [HZ.out] at hown6; have HM6 := Lib.hid (HM.out.app hown6 hgr6); obtain ⟨A6, c6, rfl, _, _⟩ := Own.bs hown6; clear tok1 hown6 hgr6 hfr6 _t)))
          refine (HMO.out w6).mono ?_
          rintro e w' ⟨rfl, rfl⟩
          by_cases hym : (y.length : Int) ≤ (m : Int)
          · have HYM : Hid (y.length ≤ m) := Lib.hid (by omega)
            have hwl : wl.length ≤ 100 := by have := HN.out.wn; omega
            have HMA := Lib.hid (HM6.out.below ((Below.refl w6.heap.size w6).alloc (Nat.le_refl _) (.cells #[.slice Ai y.length ci] 23)))
            have HBA : Hid (Bs (w6.alloc (.cells #[.slice Ai y.length ci] 23)) Ai y.length ci y) := Lib.hid (HBY.out.below HMA.out.low)
            have hrow := heap_alloc_new w6 (.cells #[.slice Ai y.length ci] 23)
            have HROW := Lib.hid hrow
            have HBS : Hid (B0 ≤ (w6.alloc (.cells #[.slice Ai y.length ci] 23)).heap.size) := Lib.hid (Nat.le_trans HMA.out.b01 HMA.out.sz)
            clear hrow
            obtain ⟨Zw, hZw⟩ : ∃ Zw, wl ++ [y] = Zw := ⟨_, rfl⟩
            have HZW := Lib.hid hZw
            have HNZ := Lib.hid (HN.out.frame HGD.out HYM.out)
            rw [HZ.out, hZw] at HNZ
            clear hZw
            have tok2 : Hid True := Lib.hid trivial
            go_wp2_with (at_builtin; have _t := tok2; go_loud ((refine wpList_want rfl (.tmp 81) (.tmp 83) rfl B0 vw wl y Ai ci rfl HMA.out.want HBA.out HBAi.out w6.heap.size rfl HROW.out (by omega) HBS.out ?_; intro v8 w8 hw8 hgr8 hfr8; rw [HZW.out] at hw8; have HM8 := Lib.hid (HMA.out.wanted hw8 hgr8 hfr8); obtain ⟨A8, c8, rfl, _⟩ := hw8.rd; clear tok2 hw8 hgr8 hfr8 _t)))
            exact ⟨⟨k + 1, Z, Zw, N', Ov, HLT.out, by go_num, rfl, rfl, HM8.out, HNZ.out.more (by have := HXS.out; omega) (by omega) (Nat.le_refl _)⟩, by have := HLT.out; simp [intOf]; omega⟩
          · have HYM : Hid (m < y.length) := Lib.hid (by omega)
            have HNZ := Lib.hid (HN.out.ovr HGD.out HYM.out)
            rw [HZ.out] at HNZ
            go_wp2_with (fail)
            exact ⟨⟨k + 1, Z, wl, N', Ov + 1, HLT.out, by go_num, rfl, by go_num, HM6.out, HNZ.out.more (by have := HXS.out; omega) (by omega) (Nat.le_refl _)⟩, by have := HLT.out; simp [intOf]; omega⟩
    · obtain rfl : k = k0 := by omega
      have HKK : Hid (k ≤ 100) := Lib.hid HG.out.1
      have HAL : Hid (all.length ≤ 20000) := Lib.hid (by
        have h1 := HN.out.len
        have h2 := HG.out.2
        have h3 := lens_take L k
        have h4 := HKK.out
        omega)
      obtain ⟨s, hf, hmd, hbr, hov, hju⟩ := HN.out.inv
      have hup := feed_up (new_up m) all all.length (Nat.le_refl _)
      rw [List.take_length, hf] at hup
      have hsh := feed_short (new_up m) all all.length (Nat.le_refl _)
      rw [List.take_length, hf] at hsh
      obtain ⟨Aa, ca, hva, hba, hlo⟩ := Own.bs HM.out.own
      obtain ⟨Aw, cw, hvw, hrw⟩ := HM.out.want.rd
      have HW := Lib.hid HM.out.want
      subst hva hvw
      have HUP := Lib.hid hup
      have HSH := Lib.hid hsh
      have HF := Lib.hid hf
      have HMD := Lib.hid hmd
      have HBR := Lib.hid hbr
      have HOV := Lib.hid hov
      have HJU := Lib.hid hju
      have HBA := Lib.hid hba
      have HLO := Lib.hid hlo
      clear hf hmd hbr hov hju hba hlo hrw hup hsh hlt
      go_wp2_with (fail)
      refine (dFeed B0 D none m 0 newS wo HM.out.df (Nat.le_trans HM.out.b01 HM.out.sz) (by omega) (new_up m) Aa all.length ca all HBA.out (fun h0 b hb hs => by
        have h1 := HLO.out b hb
        have h2 := HM.out.dlt
        rcases hs with hs | hs
        · omega
        · cases hs) (by have := HAL.out; omega)).mono ?_
      rintro e w4 ⟨v4, O4, rfl, hr4, hd4, hm4⟩
      rw [HF.out] at hr4 hd4
      simp only at hr4 hd4
      have hW4 := HW.out.ch hm4.1 (fun q hq hs => by
        have h1 := HM.out.df.base
        rcases hs with hs | hs
        · omega
        · cases hs) (fun q hq hs => by
        have h1 := HM.out.wantB q hq
        have h2 := HM.out.dlt
        rcases hs with hs | hs
        · omega
        · cases hs)
      obtain ⟨Ag, cg, rfl, hrg⟩ := hr4.rd (fun x hx => by have := HSH.out x hx; simp only [maxLen]; omega)
      obtain ⟨Aw', cw', ew, hrw⟩ := hW4.rd
      injection ew with ew1 ew2 ew3
      subst ew1 ew3
      have HD4 := Lib.hid hd4
      have HRG := Lib.hid hrg
      have HRW := Lib.hid hrw
      have HB4 : Hid (Below w.heap.size w w4) := Lib.hid (HM.out.low.trans ((hm4.low HM.out.df (Nat.le_trans HM.out.b01 HM.out.sz)).mono HM.out.bw))
      clear hr4 hd4 hm4 hW4 hrg hrw
      go_wp2_with (fail)
      refine (same05 Ag Aw wl.length cg cw wl w4 HRG.out HRW.out).mono ?_
      rintro e w8 ⟨rfl, hb8⟩
      have HD8 := Lib.hid (HD4.out.below hb8)
      have HB8 : Hid (Below w.heap.size w w8) := Lib.hid (HB4.out.trans (hb8.mono HB4.out.size))
      have HFR8 : Hid (s.fr.length ≤ 1000000) := Lib.hid (by have := HUP.out.fr; omega)
      have HHD : Hid (heldD s = 0) := Lib.hid (by unfold heldD; rw [HMD.out]; try rfl)
      have hjn : (0 : Int) ≤ (s.junk : Int) := by omega
      clear hb8 HRG HRW HD4 HB4
      by_cases ho : Ov = 0
      · have HJE : Hid (s.junk = N) := Lib.hid (HJU.out ho)
        subst ho
        go_wp2_with (fail)
        refine (dOver B0 D O4 m s w8 HD8.out).mono ?_
        rintro e w' ⟨rfl, rfl⟩
        rw [HOV.out]
        go_wp2_with (fail)
        refine (dBroken B0 D O4 m s w8 HD8.out).mono ?_
        rintro e w' ⟨rfl, rfl⟩
        rw [HBR.out]
        go_wp2_with (fail)
        refine (dHeld B0 D O4 m s w8 HD8.out HFR8.out).mono ?_
        rintro e w' ⟨rfl, rfl⟩
        rw [HHD.out]
        go_wp2_with (fail)
        refine (dJunk B0 D O4 m s w8 HD8.out).mono ?_
        rintro e w' ⟨rfl, rfl⟩
        go_wp2_with (fail)
        refine (dJunk B0 D O4 m s w8 HD8.out).mono ?_
        rintro e w' ⟨rfl, rfl⟩
        rw [HJE.out]
        go_wp2_with (fail)
        go_ret
        exact ⟨rfl, HB8.out⟩
      · have ho1 : (0 : Int) < (Ov : Int) := by omega
        clear ho
        go_wp2_with (fail)
        refine (dOver B0 D O4 m s w8 HD8.out).mono ?_
        rintro e w' ⟨rfl, rfl⟩
        rw [HOV.out]
        go_wp2_with (fail)
        refine (dBroken B0 D O4 m s w8 HD8.out).mono ?_
        rintro e w' ⟨rfl, rfl⟩
        rw [HBR.out]
        go_wp2_with (fail)
        refine (dHeld B0 D O4 m s w8 HD8.out HFR8.out).mono ?_
        rintro e w' ⟨rfl, rfl⟩
        rw [HHD.out]
        go_wp2_with (fail)
        refine (dJunk B0 D O4 m s w8 HD8.out).mono ?_
        rintro e w' ⟨rfl, rfl⟩
        go_wp2_with (fail)
        go_ret
        exact ⟨rfl, HB8.out⟩
end Go.Proofs.YtjeibckjockmeaaDoor
