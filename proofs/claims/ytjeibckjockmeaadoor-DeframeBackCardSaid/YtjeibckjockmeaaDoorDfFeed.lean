/- Layer 5: Feed. -/
import Derived.Test.YtjeibckjockmeaaDoorDfRows
import Derived.Conc.MuLone
namespace Go.Proofs.YtjeibckjockmeaaDoor
open Go.RowKit

def FnOk (k : FuncId) : Prop := ∀ (args : Array Value) (w : World), (callFunc k args).run Tryd.prog w = .ok (.enter k args) w
theorem okOut : FnOk 23 := fun args w => Go.MuLone.run_callFunc_enter Tryd.func23 (by kernel_rfl) rfl args w
theorem okInn : FnOk 27 := fun args w => Go.MuLone.run_callFunc_enter Tryd.func27 (by kernel_rfl) rfl args w
theorem okBeh : FnOk 29 := fun args w => Go.MuLone.run_callFunc_enter Tryd.func29 (by kernel_rfl) rfl args w

/-- the function that a deframer's next byte goes to -/
theorem nextFn (B D most : Nat) (t : St) : ∃ F, Md.fn D t.md = bfn F D ∧ FnOk F ∧ ∀ (O : Option Nat) (w : World) (x : UInt8), Df B D O most t w → t.Ok → B ≤ w.heap.size → Calls Tryd.prog F #[.pointer (some ⟨D, 0, none⟩), .int .u8 (x.toNat : Int)] w (DfRet (.bool (stepD most t x).2) B D O most (stepD most t x).1 w) := by
  cases hm : t.md
  · exact ⟨_, rfl, okOut, fun O w x h ok hB => dOutside B D O most t w h ok x hm⟩
  · exact ⟨_, rfl, okInn, fun O w x h ok hB => dInside B D O most t w h ok hB x hm⟩
  · exact ⟨_, rfl, okBeh, fun O w x h ok hB => dBehind B D O most t w h ok hB x hm⟩

/-- what Feed gives -/
def FeedPost (B D : Nat) (O : Option Nat) (most : Nat) (s : St) (fs : List (List UInt8)) (w : World) (e : Ending) (w' : World) : Prop :=
  ∃ v O', e = .returned (.tuple #[v, .int .i64 0]) ∧ RowsAt w.heap.size (dS D O') w' v fs ∧ Df B D O' most s w' ∧ Mv D O O' w w'

theorem Bs.ch {S : Nat → Prop} {w w' : World} {A : Option Addr} {n c : Nat} {l : List UInt8} (h : Bs w A n c l) (hc : Ch S w w') (hn : 0 < n → ∀ b, A = some b → ¬ S b.block) : Bs w' A n c l :=
  ⟨h.1, h.2.1, h.2.2.1, fun h0 => by
    obtain ⟨b, o, rfl, hlt, hcell⟩ := h.at_ h0
    refine ⟨b, o, rfl, fun i x hx => ?_⟩
    have hb := hc.block b hlt (hn h0 _ rfl)
    exact (World.cell?_of_block (w := w) (a := ⟨b, o + i, none⟩) hb).trans (hcell i x hx)⟩

theorem Mv.fresh {D : Nat} {O O' : Option Nat} {S' : Nat → Prop} {w a b : World} (h : Mv D O O' w a) (c : Ch S' a b) (hS : ∀ x, S' x → w.heap.size ≤ x) : Mv D O O' w b :=
  ⟨h.1.trans c (fun x hx hs => by have := hS x hs; omega), h.2⟩

set_option maxHeartbeats 2000000 in
set_option maxRecDepth 100000 in
theorem dFeed (B D : Nat) (O : Option Nat) (most M : Nat) (s : St) (w : World) (h : Df B D O most s w) (hB : B ≤ w.heap.size) (hm : most ≤ 1000000) (up : St.Up most M s) (A : Option Addr) (n c : Nat) (l : List UInt8) (hbs : Bs w A n c l) (hA : 0 < n → ∀ b, A = some b → ¬ dS D O b.block) (hM : M + n ≤ 1099511627776) :
    Calls Tryd.prog 11 #[.pointer (some ⟨D, 0, none⟩), .slice A n c] w (FeedPost B D O most (feedD most s l).1 (feedD most s l).2 w) := by
  have H := Lib.hid h
  have HBS := Lib.hid hbs
  have UP := Lib.hid up
  have HA := Lib.hid hA
  have HMM := Lib.hid hM
  have hmax := hbs.nmax
  have hLn := Lib.hid hbs.len
  clear h hbs up hA hM
  go_enter Tryd.func11, Tryd.ntmps11
  go_wp2_with (fail)
  go_loopw [6, 13, 8] (fun v i _ wr => ∃ k : Nat, k ≤ n ∧ i = .int .i64 k ∧ ∃ O', RowsAt w.heap.size (dS D O') wr v (feedD most s (l.take k)).2 ∧ Df B D O' most (feedD most s (l.take k)).1 wr ∧ Mv D O O' w wr) (fun _ i _ _ => n - (intOf i).toNat)
  case atStart => exact ⟨0, Nat.zero_le _, rfl, O, by rw [List.take_zero]; exact RowsAt.nil _ _ _, by rw [List.take_zero]; exact H.out, Mv.refl _ _ _⟩
  case round =>
    obtain ⟨wo, rfl⟩ : ∃ wo : World, wo = wr := ⟨_, rfl⟩
    obtain ⟨k, hk, rfl, O1, hr, hd, hmv⟩ := hrel
    have HR := Lib.hid hr
    have HD := Lib.hid hd
    have HM := Lib.hid hmv
    clear hr hd hmv
    by_cases hlt : k < n
    · have hlk : k < l.length := by rw [hLn.out]; exact hlt
      obtain ⟨b, o, rfl, _, hcell⟩ := (HBS.out.ch HM.out.1 HA.out).at_ (by omega)
      have hcc := hcell k l[k] (List.getElem?_eq_getElem hlk)
      have e1 : (k : Int) < (n : Int) := by omega
      have hup := feed_up UP.out l k (by omega)
      have hfl := feed_len most s l k (by omega)
      have HOK : Hid ((feedD most s (l.take k)).1.Ok) := Lib.hid (hup.ok (by have := HMM.out; omega) hm)
      have HSN := Lib.hid (show feedD most s (l.take (k + 1)) = eatD most (feedD most s (l.take k)) l[k] by rw [List.take_succ_eq_append_getElem hlk, feedD_snoc])
      obtain ⟨x, hx⟩ : ∃ x, x = l[k] := ⟨_, rfl⟩
      obtain ⟨t, X, ht⟩ : ∃ t X, feedD most s (l.take k) = (t, X) := ⟨_, _, rfl⟩
      rw [← hx] at hcc HSN
      rw [ht] at HR HD HOK HSN hfl
      simp only at HR HD HOK HSN hfl
      have HFL : Hid (X.length ≤ k) := Lib.hid hfl
      have HLT := Lib.hid hlt
      have hBo : B ≤ wo.heap.size := Nat.le_trans hB HM.out.1.size
      have HBO := Lib.hid hBo
      obtain ⟨fv, _, _, _, _, hdd⟩ := HD.out
      have z1 := hdd.cell 1
      simp [St.low] at z1
      have hup2 : St.Up most (M + k) t := by rw [ht] at hup; exact hup
      have HUP := Lib.hid hup2
      clear hcell hlt hlk hup hup2 hfl hx ht hdd hBo
      obtain ⟨F, hF, kF, hcall⟩ := nextFn B D most t
      unfold FnOk at kF
      rw [hF] at z1
      have HC := Lib.hid hcall
      clear hF hcall
      simp only [bfn] at z1
      go_wp2_with (fail)
      refine (HC.out O1 wo x HD.out HOK.out HBO.out).mono ?_
      rintro e w2 ⟨rfl, O2, hd2, hm2⟩
      have HD2 := Lib.hid hd2
      have HM2 := Lib.hid hm2
      have HR2 : Hid (RowsAt w.heap.size (dS D O2) w2 u6 X) := Lib.hid (HR.out.ch hm2.1 (fun j hj hs => by
        rcases hs with hs | hs
        · exact .inl hs
        · exact .inr (hm2.2 j hs.symm hj).symm))
      have HBO2 : Hid (B ≤ w2.heap.size) := Lib.hid (Nat.le_trans HBO.out hm2.1.size)
      have HWO2 : Hid (wo.heap.size ≤ w2.heap.size) := Lib.hid hm2.1.size
      clear hd2 hm2 HR HC kF z1 hcc
      cases he : (stepD most t x).2
      · have HE : Hid (feedD most s (l.take (k + 1)) = ((stepD most t x).1, X)) := Lib.hid (by rw [HSN.out, eatD, if_neg (by simp [he])])
        clear he
        go_wp2_with (fail)
        refine ⟨⟨k + 1, HLT.out, by go_num, O2, ?_, ?_, HM.out.trans HM2.out⟩, by have := HLT.out; simp [intOf]; omega⟩
        · rw [HE.out]; exact HR2.out
        · rw [HE.out]; exact HD2.out
      · have HE : Hid (feedD most s (l.take (k + 1)) = (leaveS (stepD most t x).1, X ++ [(stepD most t x).1.fr])) := Lib.hid (by rw [HSN.out, eatD, if_pos (by simp [he])])
        have HOK2 : Hid ((stepD most t x).1.Ok) := Lib.hid ((step_up HUP.out x).ok (by have := HMM.out; have := HLT.out; omega) hm)
        clear he
        generalize (stepD most t x).1 = t2 at *
        go_wp2_with (fail)
        refine (dTaken B D O2 most t2 w2 HD2.out HOK2.out).mono ?_
        rintro e w3 ⟨g, rfl, hg1, hg2, hb3⟩
        have hb4 : Below w2.heap.size w2 (w3.alloc (.cells #[bv g t2.fr] 23)) := hb3.alloc hb3.size _
        obtain ⟨gs, hG⟩ := HR2.out.below hb4
        have HG := Lib.hid hG
        have HB4 := Lib.hid hb4
        have HG1 := Lib.hid hg1
        have HG2 : Hid ((w3.alloc (.cells #[bv g t2.fr] 23)).heap[g]? = some (.cells (u8s t2.fr).toArray 5)) := Lib.hid ((((Below.refl w3.heap.size w3).alloc (Nat.le_refl _) _).block g (Array.getElem?_eq_some_iff.1 hg2).1).trans hg2)
        have HSW : Hid (w.heap.size ≤ w2.heap.size) := Lib.hid (Nat.le_trans HM.out.1.size HWO2.out)
        have HD4 := Lib.hid (HD2.out.below hb4)
        have HSZ3 : Hid (w2.heap.size ≤ w3.heap.size) := Lib.hid hb3.size
        have HNW : Hid (∀ (j : Nat) (u : Value), [bv g t2.fr][j]? = some u → (w3.alloc (.cells #[bv g t2.fr] 23)).cell? ((⟨w3.heap.size, 0, none⟩ : Addr).add j) = some u) := Lib.hid (fun j u hu => by
          have hj : j = 0 := by
            rcases Nat.lt_or_ge j 1 with h | h
            · omega
            · rw [List.getElem?_eq_none (by simpa using h)] at hu; cases hu
          subst hj
          rw [Addr.add_lit, Nat.zero_add, cell_of_row _ w3.heap.size 0 _ _ _ (heap_alloc_new w3 _)]
          exact hu)
        have HOC : Hid (∀ u ∈ [bv g t2.fr], u.oneCell' = true) := Lib.hid (fun u hu => by simp at hu; subst hu; rfl)
        clear hG hb4 hg1 hg2 hb3
        have tok1 : Hid True := Lib.hid trivial
        go_wp2_with (at_builtin; have _t := tok1; go_loud ((refine wpList_appAt rfl (.tmp 23) (.tmp 26) 22 rfl w.heap.size 23 (.slice none 0 0) 24 Tryd.underlying22 rowsInfo rfl (by decide) u6 X.length (List.zipWith bv gs X) rfl HG.out.2.1 ⟨w3.heap.size, 0, none⟩ 1 1 [bv g t2.fr] rfl rfl HNW.out HOC.out (by have := HFL.out; have := HLT.out; have := HMM.out; omega) (by have := HSW.out; have := HSZ3.out; simp; omega) ?_; intro v' w5 hown' hgr hfresh; have HOWN := Lib.hid hown'; have HGR := Lib.hid hgr; have HFR := Lib.hid hfresh; clear tok1 hown' hgr hfresh _t)))
        have hz4 : (w3.alloc (.cells #[bv g t2.fr] 23)).heap.size = w3.heap.size + 1 := by simp
        have hnS : ∀ k, w2.heap.size ≤ k → ¬ dS D O2 k := fun k hk hs => by
          rcases hs with hs | hs
          · have := HD2.out.lt; omega
          · have := (HD2.out.own k hs.symm).2; omega
        have hrow := HG.out.more HG2.out (by have := HSW.out; have := HG1.out; omega) (hnS g HG1.out) (hnS _ (by rw [hz4]; have := HSZ3.out; omega)) HOWN.out HGR.out HFR.out
        have hch5 : Ch (fun k => u6.ownBlock = some k) (w3.alloc (.cells #[bv g t2.fr] 23)) w5 := Ch.of_grown HGR.out (fun k hk => hk)
        have hd5 : Df B D O2 most t2 w5 := HD4.out.ch hch5 (fun h => HG.out.2.2.1 D h (.inl rfl)) (fun k hk h => HG.out.2.2.1 k h (.inr hk.symm))
        have hm5 : Mv D O O2 w w5 := ((HM.out.trans HM2.out).trans (Mv.of_below HB4.out)).fresh hch5 (fun x hx => (World.ownsRow.lt HG.out.2.1 x hx).1)
        have HD5 := Lib.hid hd5
        have HM5 := Lib.hid hm5
        have HROW := Lib.hid hrow
        clear hrow hch5 hd5 hm5 hz4 hnS HG HB4 HG1 HG2 HD4 HSZ3 HNW HOC HOWN HGR HFR HR2 HD2 HM2
        refine (dLeave B D O2 most t2 w5 HD5.out).mono ?_
        rintro e w6 ⟨rfl, O6, hd6, hm6⟩
        have HD6 := Lib.hid hd6
        have HM6 : Hid (Mv D O O6 w w6) := Lib.hid (HM5.out.trans hm6)
        have HR6 : Hid (RowsAt w.heap.size (dS D O6) w6 v' (X ++ [t2.fr])) := Lib.hid (RowsAt.ch ⟨_, HROW.out⟩ hm6.1 (fun j hj hs => by
          rcases hs with hs | hs
          · exact .inl hs
          · exact .inr (hm6.2 j hs.symm hj).symm))
        clear hd6 hm6 HROW HD5 HM5
        go_wp2_with (fail)
        refine ⟨⟨k + 1, HLT.out, by go_num, O6, ?_, ?_, HM6.out⟩, by have := HLT.out; simp [intOf]; omega⟩
        · rw [HE.out]; exact HR6.out
        · rw [HE.out]; exact HD6.out
    · obtain rfl : k = n := by omega
      rw [List.take_of_length_le (by rw [hLn.out]; exact Nat.le_refl _)] at HR HD
      obtain ⟨A6, c6, rfl⟩ : ∃ A6 c6, u6 = .slice A6 (feedD most s l).2.length c6 := by
        obtain ⟨gs, hg⟩ := HR.out
        exact own_form hg.2.1
      go_wp2_with (fail)
      exact bodyPost_ret (v := .tuple #[.slice A6 (feedD most s l).2.length c6, .int .i64 0]) (by simp [results, Tryd.results11, go_sem]) rfl ⟨_, O1, rfl, HR.out, HD.out, HM.out⟩
end Go.Proofs.YtjeibckjockmeaaDoor
