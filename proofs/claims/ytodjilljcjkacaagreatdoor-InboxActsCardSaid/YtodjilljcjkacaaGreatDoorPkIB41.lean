/- Laid together: InboxActsW. -/
import Derived.Test.YtodjilljcjkacaaGreatDoorPkIB40
import Derived.Deep.CutBlock
import Derived.Deep.CutRange
import Derived.Deep.DeepCutAuto

namespace Go.Proofs.YtodjilljcjkacaaGreatDoor
open Lib (hid)
section
open Go.RowKit Go.MapKept
def iaAct (a b:Int) (A:Option Addr) (n c N0 D Lg BX:Nat) (u23 u24 u25 u26 u27 u28 u30 u31 u32 u33 u34 u35 u36 u37 u38 u39 u40:Value):Act:={ tmps:=#[.agg #[.int .i64 a,.int .i64 b],.slice A n c,.pointer (some ⟨N0,0,none⟩),undef,.bool false,pD D,pL Lg,.pointer (some ⟨BX,0,none⟩),undef,undef,undef,undef,undef,undef,undef,undef,undef,undef,undef,undef,undef,undef,undef,u23,u24,u25,u26,u27,u28,undef,u30,u31,u32,u33,u34,u35,u36,u37,u38,u39,u40,undef,undef,undef,undef,undef,undef,undef,undef,undef,undef,undef,undef,undef,undef,undef,undef,undef,undef,undef,undef,undef,undef,undef,undef,undef,undef,undef,undef,undef,undef,undef,undef,undef,undef,undef,undef,undef,undef,undef,undef,undef,undef,undef,undef,undef,undef,undef,undef,undef,undef,undef,undef,undef,undef,undef,undef,undef,undef,undef,undef,undef,undef,undef,undef,undef,undef,undef,undef,undef,undef,undef,undef,undef,undef,undef,undef,undef,undef,undef,undef,undef,undef,undef,undef,undef,undef,undef,undef,undef,undef,undef,undef,undef,undef,undef,undef,undef,undef,undef,undef,undef,undef,undef,undef,undef,undef,undef,undef,undef,undef,undef,undef,undef,undef,undef,undef,undef,undef,undef,undef,undef,undef,undef,undef,undef,undef,undef,undef,undef,undef,undef,undef,undef,undef,undef,undef,undef,undef,undef,undef,undef,undef,undef,undef,undef,undef,undef,undef,undef,undef,undef,undef,undef,undef,undef,undef,undef,undef,undef,undef,undef,undef,undef,undef,undef],defers:=[] }
abbrev TPIp:TypeId:=28
set_option maxRecDepth 100000
set_option maxHeartbeats 8000000
theorem inboxActs_walk (a b:Int) (A:Option Addr) (n c:Nat) (L:List IAct) (w:World) (hv:Vers w∧Signs w∧Cds w) (hL:IAs w A n c L) :
    Calls Tryz.prog 3 #[.agg #[.int .i64 a,.int .i64 b],.slice A n c] w (True_ w):=by
  have HG:=hid (fun W (hb:Below w.heap.size w W)=>(⟨hv.1.below hb,hv.2.1.below hb,hv.2.2.below hb⟩:Vers W∧Signs W∧Cds W))
  have hmax:n≤140737488351232:=hL.2.2.2.1
  have HL:=hid hL
  clear hv hL
  go_enter Tryz.func3,Tryz.ntmps3
  have hb0:Below w.heap.size w (w.alloc (.cells #[.int .i64 a,.int .i64 b] 22)):=(Below.refl _ w).alloc (Nat.le_refl _) _
  have HB0:=hid hb0
  have HBX0:Hid ((w.alloc (.cells #[.int .i64 a,.int .i64 b] 22)).heap[w.heap.size]?=some (.cells #[.int .i64 a,.int .i64 b] 22)):=hid (heap_alloc_new w _)
  clear hb0
  go_wp2_with (fail)
  generalize w.alloc (.cells #[.int .i64 a,.int .i64 b] 22)=w0 at *
  refine (alive17 w0 (fun W hb=>HG.out W (HB0.out.trans (hb.mono HB0.out.size)))).mono ?_
  rintro e wa ⟨rfl,hba⟩
  have HBa:=hid (HB0.out.trans (hba.mono HB0.out.size))
  have HBXa:=hid ((Ch.of_below (S:=fun _=>False) hba).row HBX0.out (fun h=>h))
  clear hba
  go_wp2_with (fail)
  refine (great17 A n c L wa (HL.out.below HBa.out)).mono ?_
  rintro e w1 ⟨big,rfl,hbig,hb1⟩
  have HB1:=hid (HBa.out.trans (hb1.mono HBa.out.size))
  have HBX1:=hid ((Ch.of_below (S:=fun _=>False) hb1).row HBXa.out (fun h=>h))
  clear hb1 HBXa HBa HBX0 HB0
  by_cases hbg:big=true
  · subst hbg
    go_wp2_with (fail)
    refine (alive17 w1 (fun W hb=>HG.out W (HB1.out.trans (hb.mono HB1.out.size)))).mono ?_
    rintro e w2 ⟨rfl,hb2⟩
    have HB2:=hid (HB1.out.trans (hb2.mono HB1.out.size))
    clear hb2
    go_wp2_with (fail)
    go_ret
    exact ⟨rfl,HB2.out⟩
  obtain rfl:big=false:=by simpa using hbg
  have HN:=hid (hbig rfl)
  clear hbig hbg
  go_wp2_with (fail)
  obtain ⟨N0,hN0⟩:∃ N0,N0=w.heap.size:=⟨_,rfl⟩
  have HN0:=hid hN0
  rw [← hN0] at HBX1
  rw [← hN0]
  clear hN0
  obtain ⟨S,hSd⟩:∃ S:World→Prop,∀ W,S W ↔ Below w1.heap.size w1 W:=⟨_,fun _=>Iff.rfl⟩
  have hN0l:N0<w1.heap.size:=(Array.getElem?_eq_some_iff.1 HBX1.out).1
  have s0:∀ q:Meets S,q.u.cell? ⟨N0,0,none⟩=some (.int .i64 a):=fun q=>(((hSd _).1 q.h).cell (p:=⟨N0,0,none⟩) hN0l).trans (cell_of_row w1 N0 0 _ _ _ HBX1.out)
  have s1:∀ q:Meets S,q.u.cell? ⟨N0,1,none⟩=some (.int .i64 b):=fun q=>(((hSd _).1 q.h).cell (p:=⟨N0,1,none⟩) hN0l).trans (cell_of_row w1 N0 1 _ _ _ HBX1.out)
  have hne:Nonempty (Meets S):=⟨⟨w1,(hSd _).2 (Below.refl _ _)⟩⟩
  have HSW:Hid (∀ W,Below w1.heap.size w1 W→S W):=hid (fun W hb=>(hSd _).2 hb)
  obtain ⟨rr,hrr,hrl⟩:∃ rr,rr=u64D a 3000∧rr<3000:=⟨_,rfl,u64D_lt a 3000 (by decide)⟩
  obtain ⟨mm,hmm,hml⟩:∃ mm,mm=u64D b 600∧mm<600:=⟨_,rfl,u64D_lt b 600 (by decide)⟩
  have HRR:=hid hrr
  have HMM:=hid hmm
  have HRL:Hid ((0:Int)≤(rr:Int)∧(rr:Int)≤1073741824):=hid (by omega)
  have HML:Hid (1≤mm+1∧mm+1≤600):=hid (by omega)
  clear hSd hrr hmm hrl hml hN0l
  refine wp_region_held_drew (S:=S) (by kernel_rfl) (HSW.out _ (Below.refl _ w1).drew) (fun _=>?_)
  refine takes (P:=Tryz.prog) (by kernel_rfl) (fun _ _ _ _ _ h=>h) [0,1,3,4] 11 _ _ _ (by kernel_rfl) (HSW.out _ (Below.refl _ w1).drew) ?_
  simp only [pick,List.getElem?_cons_zero,List.getElem?_cons_succ]
  repeat (go_big_quiet_step (fail))
  refine wpQuiet_nil ?_
  generalize hQ:Exit.then _ _=Q
  have key:∀ (BX Bq D M Lg Qd X:Nat) (vv:Value) (W:World) (u23 u24 u25 u26 u27 u28 u30 u31 u32 u33 u34 u35 u36 u37 u38 u39 u40:Value),Below w1.heap.size w1 W→W.heap[BX]?=some (.cells #[pI X] TPIp)→IB (fun k=>k=BX) W Bq D M Lg Qd X none ⟨(rr:Int),0,0,0,0,0⟩ [] [] 0 vv (mm+1) newS (.slice none 0 0) [] 0 0→w1.heap.size≤Bq→Bq≤W.heap.size→Q .normal (iaAct a b A n c N0 D Lg BX u23 u24 u25 u26 u27 u28 u30 u31 u32 u33 u34 u35 u36 u37 u38 u39 u40) W:=by
    intro BX Bq D M Lg Qd X vv W u23 u24 u25 u26 u27 u28 u30 u31 u32 u33 u34 u35 u36 u37 u38 u39 u40 hbw hrow hib hbq hbq2
    rw [← hQ]
    unfold iaAct
    obtain ⟨ml,hml⟩:∃ ml,ml=mm+1:=⟨_,rfl⟩
    as_aux_lemma =>
      rw [← hml] at hib
      have HMB:Hid (1≤ml∧ml≤600):=hid (by rw [hml];exact HML.out)
      have HM2:Hid (u64D b 600+1=ml):=hid (by rw [hml,HMM.out])
      have HIB:=hid hib
      have HBW:=hid hbw
      have HROW:=hid hrow
      have HBQ:=hid (And.intro hbq hbq2)
      have HBR:Hid (W.heap[N0]?=some (.cells #[.int .i64 a,.int .i64 b] 22)):=hid ((hbw.block N0 (Array.getElem?_eq_some_iff.1 HBX1.out).1).trans HBX1.out)
      have k0:W.cell? ⟨BX,0,none⟩=some (pI X):=cell_of_row W BX 0 _ _ _ hrow
      have k1:W.cell? ⟨N0,0,none⟩=some (.int .i64 a):=cell_of_row W N0 0 _ _ _ HBR.out
      have HOPN:=hid (ixOpen (BX:=BX) HRL.out hib)
      clear hib hbw hrow hbq hbq2 hQ hml s0 s1
      go_wp2_with (fail)
      refine (room17 a _).mono ?_
      rintro e wz ⟨rfl,rfl⟩
      rw [← HRR.out]
      go_wp2_with (fail)
      refine HOPN.out.mono ?_
      rintro e w5 hro
      obtain ⟨H,r,Lf,vr,P,vh,rfl,hbx5,hb5,hix,hxb⟩:=ixBegin HIB.out HRL.out HBQ.out.1 HBQ.out.2 HBW.out hro
      have HN5:Hid (w5.heap[N0]?=some (.cells #[.int .i64 a,.int .i64 b] 22)):=hid ((hb5.block N0 (Array.getElem?_eq_some_iff.1 HBX1.out).1).trans HBX1.out)
      have HR5:Hid ((w5.alloc (.cells (yCells H ml nilV 0 nilV 0 0) TY17)).heap[BX]?=some (.cells #[pI X] TPIp)):=hid ((((Below.refl w5.heap.size w5).alloc (Nat.le_refl _) _).block BX (Array.getElem?_eq_some_iff.1 (hbx5.trans HROW.out)).1).trans (hbx5.trans HROW.out))
      have k5:w5.cell? ⟨N0,1,none⟩=some (.int .i64 b):=cell_of_row w5 N0 1 _ _ _ HN5.out
      obtain ⟨G,hG⟩:∃ G,G=wz.heap.size:=⟨_,rfl⟩
      rw [← hG] at hix hxb
      have HST:Hid (IaS (fun k=>k=BX) false w1 D M Lg Qd X G G H w5.heap.size ml Bq 0 (w5.alloc (.cells (yCells H ml nilV 0 nilV 0 0) TY17))):=hid ⟨_,_,_,_,_,_,_,_,_,_,_,_,_,_,_,_,_,_,_,_,hix,hxb.c (by decide),fun _=>hxb⟩
      rw [← hG]
      have HG0:=hid hG
      clear hix hxb hro hbx5 hb5 HOPN hG k0 k1
      go_wp2_with (fail)
      refine (most17 b _).mono ?_
      rintro e w6 ⟨rfl,rfl⟩
      rw [HM2.out]
      go_wp2_with (fail)
      obtain ⟨Y,hY⟩:∃ Y,Y=w6.heap.size:=⟨_,rfl⟩
      rw [← hY] at HST
      rw [← hY]
      clear hY
      generalize w6.alloc (.cells (yCells H ml nilV 0 nilV 0 0) TY17)=w7 at *
      go_loopw [62] (fun i wr=>∃ k:Nat,k≤n∧i=.int .i64 k∧IaS (fun k=>k=BX) false w1 D M Lg Qd X G G H Y ml Bq (lensI (L.take k)) wr∧wr.heap[BX]?=some (.cells #[pI X] TPIp)) (fun i _=>n-(intOf i).toNat)
      case atStart=>exact ⟨0,Nat.zero_le _,rfl,HST.out,HR5.out⟩
      case round =>
        as_aux_lemma =>
          clear HST HR5 k5 HN5
          obtain ⟨wo,rfl⟩:∃ wo:World,wo=wr:=⟨_,rfl⟩
          obtain ⟨k,hk,rfl,hst,hrow⟩:=hrel
          have HST:=hid hst
          have HROW:=hid hrow
          have HBX9:Hid (Below w.heap.size w wo):=hid (HB1.out.trans (hst.low.mono HB1.out.size))
          have HLOW:=hid hst.low
          clear hst hrow
          by_cases hlt:k<n
          · obtain ⟨b',o',rfl,hxx⟩:=(HL.out.below HB1.out).2.2.2.2 (by omega)
            obtain ⟨⟨kd,nn,kp,bd⟩,hxk⟩:∃ x,L[k]?=some x:=⟨_,List.getElem?_eq_getElem (by have:=HL.out.1;omega)⟩
            obtain ⟨⟨c0,c1,c2,A5,m,c5,c3,hbd,hc5⟩,hfit⟩:=hxx k _ hxk
            obtain rfl:m=bd.length:=hbd.len.symm
            have hbl:=World.block_lt_of_cell? w1 _ c0
            have c0:=(HLOW.out.cell (p:=⟨b',o'+k*4,none⟩) hbl).trans c0
            have c1:=(HLOW.out.cell (p:=⟨b',o'+k*4+1,none⟩) hbl).trans c1
            have c2:=(HLOW.out.cell (p:=⟨b',o'+k*4+2,none⟩) hbl).trans c2
            have c3:=(HLOW.out.cell (p:=⟨b',o'+k*4+3,none⟩) hbl).trans c3
            have HOFF:Hid (0<bd.length→∀ q,A5=some q→q.block<w1.heap.size):=hid (fun hq q hqq=>by
              obtain ⟨b2,o2,e,hlt2,_⟩:=hbd.at_ hq
              rw [hqq] at e;injection e with e;subst e
              exact hlt2)
            have hkc:(n:Int)≤(c:Int):=by have:=HL.out.2.1;omega
            have HTK:=hid (lensI_take L k _ hxk)
            have HTL:Hid (lensI (L.take (k+1))≤2500):=hid (Nat.le_trans (lensI_take_le L (k+1)) HN.out.2)
            have hbo:Below wo.heap.size wo (wo.alloc (.cells (actC17 kd nn kp A5 bd.length c5) TAct17)):=(Below.refl _ _).alloc (Nat.le_refl _) _
            have HE5:Hid ((wo.alloc (.cells (actC17 kd nn kp A5 bd.length c5) TAct17)).heap[wo.heap.size]?=some (.cells (actC17 kd nn kp A5 bd.length c5) TAct17)):=hid (heap_alloc_new wo _)
            have HB5:Hid ((wo.alloc (.cells (actC17 kd nn kp A5 bd.length c5) TAct17)).heap[BX]?=some (.cells #[pI X] TPIp)):=hid ((hbo.block BX (Array.getElem?_eq_some_iff.1 HROW.out).1).trans HROW.out)
            have HS5:Hid (IaS (fun q=>q=BX∨q=wo.heap.size) false w1 D M Lg Qd X G G H Y ml Bq (lensI (L.take k)) (wo.alloc (.cells (actC17 kd nn kp A5 bd.length c5) TAct17))):=hid (HST.out.addZ hbo (fun q hq=>hq.imp id (fun e=>⟨by rw [e];exact Nat.le_refl _,by rw [e];exact (Array.getElem?_eq_some_iff.1 HE5.out).1⟩)))
            have HL5:Hid (Bs (wo.alloc (.cells (actC17 kd nn kp A5 bd.length c5) TAct17)) A5 bd.length c5 bd):=hid ((hbd.below HLOW.out).below hbo)
            have HFIT:=hid hfit
            have HBD1:=hid hbd
            clear hxx hxk hbd hfit hbo hbl HST HROW
            go_upto_region 12 with (fail)
            obtain ⟨BA,hBA⟩:∃ BA,BA=wo.heap.size:=⟨_,rfl⟩
            rw [← hBA] at HE5 HS5
            rw [← hBA]
            clear hBA c0 c1 c2 c3
            generalize wo.alloc (.cells (actC17 kd nn kp A5 bd.length c5) TAct17)=w5 at *
            have e0:w5.cell? ⟨BA,0,none⟩=some (.int .i64 kd):=cell_of_row w5 BA 0 _ _ _ HE5.out
            go_upto_block 2 with (fail)
            go_cut [15] (fun x wx=>∃ u:Bool,x=.bool u∧IaS (fun q=>q=BX) u w1 D M Lg Qd X G G H Y ml Bq (lensI (L.take (k+1))) wx∧wx.heap[BX]?=some (.cells #[pI X] TPIp))
            case first =>
              have HNN:Hid (lensI (L.take k)≤lensI (L.take (k+1))):=hid (by rw [HTK.out];exact Nat.le_add_right _ _)
              have HEND:Hid (∀ wx,IaS (fun q=>q=BX∨q=BA) false w1 D M Lg Qd X G G H Y ml Bq (lensI (L.take k)) wx→Keep (fun q=>q=BX∨q=BA) w5 wx→∃ u:Bool,Value.bool false=.bool u∧IaS (fun q=>q=BX) u w1 D M Lg Qd X G G H Y ml Bq (lensI (L.take (k+1))) wx∧wx.heap[BX]?=some (.cells #[pI X] TPIp)) :=
                hid (fun wx h hk=>⟨false,rfl,h.more HNN.out (fun _ hq=>.inl hq),(hk.row BX (.inl rfl)).trans HB5.out⟩)
              have k5:w5.cell? ⟨BX,0,none⟩=some (pI X):=cell_of_row w5 BX 0 _ _ _ HB5.out
              by_cases h0:kd=0
              · subst h0
                as_aux_lemma =>
                  have hmf:∀ (fn:Fn) (first cap:Array Value) (w:World),(Instr.makeFunc fn first cap).run Tryz.prog w=.ok (.func fn first cap) w:=fun _ _ _ _=>rfl
                  have k6:w5.cell? ⟨BA,3,none⟩=some (.slice A5 bd.length c5):=cell_of_row w5 BA 3 _ _ _ HE5.out
                  have HNL:Hid (lensI (L.take k)+bd.length≤3000):=hid (by have h5:=HTL.out;rw [HTK.out] at h5;exact Nat.le_trans h5 (by decide))
                  have HFP:=hid (iaFeedP HS5.out (Nat.le_trans HMB.out.2 (by decide)) (fun W hb=>HG.out W (HB1.out.trans (hb.mono HB1.out.size))) A5 c5 HL5.out HOFF.out HNL.out BX BA k5 k6)
                  go_wp2_with (fail)
                  refine HFP.out.mono ?_
                  rintro e wp ⟨gone,op,rfl,hif,hk1⟩
                  have hbc:Below wp.heap.size wp (wp.alloc (.cells #[.int .i64 op] 48)):=(Below.refl _ _).alloc (Nat.le_refl _) _
                  have HIF:=hid (hif.below hbc)
                  have HK1:=hid (hk1.below' hbc hif.lt)
                  have HL6:=hid (HBD1.out.below HIF.out.low)
                  have k7:(wp.alloc (.cells #[.int .i64 op] 48)).cell? ⟨BA,3,none⟩=some (.slice A5 bd.length c5):=cell_of_row _ BA 3 _ _ _ ((HK1.out.row BA (.inr rfl)).trans HE5.out)
                  have HFD:=hid (iaFeedD HIF.out (Nat.le_trans HMB.out.2 (by decide)) A5 c5 HL6.out HOFF.out HNL.out)
                  clear hif hk1 hbc HFP k5 k6
                  go_wp2_with (fail)
                  refine HFD.out.mono ?_
                  rintro e wq ⟨rfl,his,hk2⟩
                  have HF:Hid (∃ u:Bool,Value.bool gone=.bool u∧IaS (fun q=>q=BX) u w1 D M Lg Qd X G G H Y ml Bq (lensI (L.take (k+1))) wq∧wq.heap[BX]?=some (.cells #[pI X] TPIp)) :=
                    hid ⟨gone,rfl,his.more (by rw [HTK.out];exact Nat.le_refl _) (fun _ hq=>.inl hq),((HK1.out.trans hk2).row BX (.inl rfl)).trans HB5.out⟩
                  clear HFD his hk2 k7
                  cases gone
                  · go_wp2_with (fail)
                    go_meet
                    exact HF.out
                  · go_wp2_with (fail)
                    go_meet
                    exact HF.out
              by_cases h1:kd=1
              · subst h1
                as_aux_lemma =>
                  have HTP:=hid (iaTakeP HS5.out)
                  go_wp2_with (fail)
                  refine HTP.out.mono ?_
                  rintro e wp ⟨va,rfl,hit,hk1⟩
                  have HTD:=hid (iaTakeD hit)
                  have HK1:=hid hk1
                  clear HTP hit hk1
                  go_wp2_with (fail)
                  refine HTD.out.mono ?_
                  rintro e wq ⟨vo,rfl,hir,his,hk2⟩
                  have HSM:=hid (iaSame hir)
                  have HIS:=hid his
                  have HK2:=hid (HK1.out.trans hk2)
                  clear HTD hir his hk2
                  go_wp2_with (fail)
                  refine HSM.out.mono ?_
                  rintro e ws ⟨rfl,hb⟩
                  have HF:=hid (HEND.out ws (HIS.out.below hb) (HK2.out.below' hb HIS.out.lt))
                  clear HSM hb
                  go_wp2_with (fail)
                  go_meet
                  exact HF.out
              by_cases h2:kd=2
              · subst h2
                as_aux_lemma =>
                  have HTP:=hid (iaResetP HS5.out)
                  go_wp2_with (fail)
                  refine HTP.out.mono ?_
                  rintro e wp ⟨rfl,hit,hk1⟩
                  have HTD:=hid (iaResetD (by have:=HTL.out;have:=HNN.out;omega) hit)
                  have HK1:=hid hk1
                  clear HTP hit hk1
                  go_wp2_with (fail)
                  refine HTD.out.mono ?_
                  rintro e wq ⟨rfl,his,hk2⟩
                  have HF:=hid (HEND.out wq his (HK1.out.trans hk2))
                  clear HTD his hk2
                  go_wp2_with (fail)
                  go_meet
                  exact HF.out
              by_cases h3:kd=3
              · subst h3
                as_aux_lemma =>
                  have kn:w5.cell? ⟨BA,1,none⟩=some (.int .i64 nn):=cell_of_row w5 BA 1 _ _ _ HE5.out
                  obtain ⟨R,hR,hRl⟩:∃ R,R=u64D nn 3000∧R<3000:=⟨_,rfl,u64D_lt nn 3000 (by decide)⟩
                  have HRB:Hid ((0:Int)≤(R:Int)∧(R:Int)≤1073741824):=hid (by omega)
                  have HRE:=hid hR
                  clear hR hRl
                  have HOP:=hid (iaDk HS5.out (upd:=fun d=>{ d with room:=(R:Int) }) (fun d F h=>dkSetRoom h (R:Int) HRB.out))
                  go_wp2_with (fail)
                  refine (room17 nn _).mono ?_
                  rintro e wz ⟨rfl,rfl⟩
                  rw [← HRE.out]
                  go_wp2_with (fail)
                  refine HOP.out.mono ?_
                  rintro e wp ⟨rfl,him,hk1⟩
                  have HBA:=hid ((hk1.row BA (.inr rfl)).trans HE5.out)
                  have HK1:=hid hk1
                  obtain ⟨r5,vr5,hgr,hst⟩:=iaSize him HRB.out (by have:=HTL.out;have:=HNN.out;omega)
                  have HGR:=hid hgr
                  have HST:=hid hst
                  have kn2:wp.cell? ⟨BA,1,none⟩=some (.int .i64 nn):=cell_of_row wp BA 1 _ _ _ HBA.out
                  have kf:wp.frozen? ⟨G,1,none⟩=false:=by simp [World.frozen?,hgr]
                  have kc:wp.cell? ⟨G,1,none⟩=some (.int .i64 r5.size):=cell_of_row wp G 1 _ _ _ hgr
                  clear kn HOP him hk1 hgr hst
                  go_wp2_with (fail)
                  refine (room17 nn _).mono ?_
                  rintro e wq ⟨rfl,rfl⟩
                  rw [← HRE.out]
                  have HF:=hid (HST.out (wq.setCell ⟨G,1,none⟩ (.int .i64 (R:Int))) ((Ch.refl _ _).set1 1 _) (heap_set_row HGR.out _))
                  have HF2:=hid (HEND.out _ HF.out.1 (HK1.out.trans HF.out.2))
                  clear HST HF
                  go_wp2_with (fail)
                  go_meet
                  exact HF2.out
              by_cases h4:kd=4
              · subst h4
                as_aux_lemma =>
                  have kn:w5.cell? ⟨BA,1,none⟩=some (.int .i64 nn):=cell_of_row w5 BA 1 _ _ _ HE5.out
                  have HRB:Hid ((0:Int)≤max 1 nn∧max 1 nn≤9223372036854775807):=hid (by have:=HFIT.out.n;simp only at this;omega)
                  have HOP:=hid (iaDk HS5.out (upd:=fun d=>{ d with failIn:=max 1 nn }) (fun d F h=>dkFail h (max 1 nn) (by omega)))
                  go_wp2_with (fail)
                  refine HOP.out.mono ?_
                  rintro e wp ⟨rfl,him,hk1⟩
                  have HBA:=hid ((hk1.row BA (.inr rfl)).trans HE5.out)
                  have HK1:=hid hk1
                  obtain ⟨r5,vr5,hgr,hst⟩:=iaFail him HRB.out (by have:=HTL.out;have:=HNN.out;omega)
                  have HGR:=hid hgr
                  have HF:=hid (hst (wp.setCell ⟨G,5,none⟩ (.int .i64 (max 1 nn))) ((Ch.refl _ _).set1 5 _) (heap_set_row HGR.out _))
                  have HF2:=hid (HEND.out _ HF.out.1 (HK1.out.trans HF.out.2))
                  have kn2:wp.cell? ⟨BA,1,none⟩=some (.int .i64 nn):=cell_of_row wp BA 1 _ _ _ HBA.out
                  have kf:wp.frozen? ⟨G,5,none⟩=false:=by simp [World.frozen?,hgr]
                  have kc:wp.cell? ⟨G,5,none⟩=some (.int .i64 r5.fail):=cell_of_row wp G 5 _ _ _ hgr
                  clear kn HOP him hk1 hgr hst HF
                  go_wp2_with (fail)
                  go_meet
                  exact HF2.out
              by_cases h5:kd=5
              · subst h5
                as_aux_lemma =>
                  have kn:w5.cell? ⟨BA,1,none⟩=some (.int .i64 nn):=cell_of_row w5 BA 1 _ _ _ HE5.out
                  have kk:w5.cell? ⟨BA,2,none⟩=some (.int .i64 kp):=cell_of_row w5 BA 2 _ _ _ HE5.out
                  have HRB:Hid ((0:Int)≤max 1 nn∧max 1 nn≤9223372036854775807):=hid (by have:=HFIT.out.n;simp only at this;omega)
                  have HOP:=hid (iaDk HS5.out (upd:=fun d=>{ d with armedIn:=max 1 nn,armKeep:=kp }) (fun d F h=>dkArm h (max 1 nn) kp (by omega)))
                  go_wp2_with (fail)
                  refine HOP.out.mono ?_
                  rintro e wp ⟨rfl,him,hk1⟩
                  have HBA:=hid ((hk1.row BA (.inr rfl)).trans HE5.out)
                  have HK1:=hid hk1
                  obtain ⟨r5,vr5,hgr,hst⟩:=iaArm him HRB.out HFIT.out.k (by have:=HTL.out;have:=HNN.out;omega)
                  have HGR:=hid hgr
                  have HBG:Hid (BA≠G):=hid (fun e=>by
                    have h6:=HBA.out
                    rw [e,hgr] at h6
                    simp only [Option.some.injEq,Obj.cells.injEq] at h6
                    exact absurd h6.2.1 (by decide))
                  have HF:=hid (hst ((wp.drew.setCell ⟨G,3,none⟩ (.int .i64 (max 1 nn))).setCell ⟨G,4,none⟩ (.int .i64 kp)) ((((Ch.refl _ wp).drew).set1 3 _).set1 4 _) (heap_set_row (heap_set_row (w:=wp.drew) HGR.out _) _))
                  have HF2:=hid (HEND.out _ HF.out.1 (HK1.out.trans HF.out.2))
                  clear kn kk HOP him hk1 hgr hst HF
                  obtain ⟨S2,hSd⟩:∃ S:World→Prop,∀ W,S W ↔ (W.cell? ⟨BA,1,none⟩=some (.int .i64 nn)∧W.cell? ⟨BA,2,none⟩=some (.int .i64 kp)):=⟨_,fun _=>Iff.rfl⟩
                  have t3:∀ q:Meets S2,q.u.cell? ⟨BA,1,none⟩=some (.int .i64 nn):=fun q=>((hSd _).1 q.h).1
                  have t4:∀ q:Meets S2,q.u.cell? ⟨BA,2,none⟩=some (.int .i64 kp):=fun q=>((hSd _).1 q.h).2
                  have HSD:=hid hSd
                  clear hSd
                  go_wp2_with (fail)
                  refine region_plan S2 [([0,1,2,3,4,5,6,7,8],9),([10,11],12)] [] (by kernel_rfl) (by kernel_rfl) (fun _ _ _ _ _ h=>h) ((HSD.out _).2 ⟨cell_of_row _ BA 1 _ _ _ HBA.out,cell_of_row _ BA 2 _ _ _ HBA.out⟩) (fun hne2=>?_)
                  simp only [wpPlan,pick,List.getElem?_cons_zero,List.getElem?_cons_succ,Option.elim]
                  repeat (go_big_quiet_step (fail))
                  refine wpQuiet_nil ?_
                  intro K hK
                  have HGD:Hid (wp.drew.heap[G]?=some (rkObj vr5 r5)):=hid HGR.out
                  have HBD:Hid (wp.drew.heap[BA]?=some (.cells (actC17 5 nn kp A5 bd.length c5) TAct17)):=hid HBA.out
                  generalize wp.drew=wd at *
                  have z1:wd.cell? ⟨G,3,none⟩=some (.int .i64 r5.armed):=cell_of_row wd G 3 _ _ _ HGD.out
                  have z2:wd.frozen? ⟨G,3,none⟩=false:=frz HGD.out
                  have HBA2:Hid ((wd.setCell ⟨G,3,none⟩ (.int .i64 (max 1 nn))).heap[BA]?=some (.cells (actC17 5 nn kp A5 bd.length c5) TAct17)):=hid (((Ch.refl (At1 G) wd).set1 3 _).row HBD.out HBG.out)
                  have HGR2:Hid ((wd.setCell ⟨G,3,none⟩ (.int .i64 (max 1 nn))).heap[G]?=some (rkObj vr5 { r5 with armed:=max 1 nn })):=hid (heap_set_row HGD.out _)
                  have HBA3:Hid (((wd.setCell ⟨G,3,none⟩ (.int .i64 (max 1 nn))).setCell ⟨G,4,none⟩ (.int .i64 kp)).heap[BA]?=some (.cells (actC17 5 nn kp A5 bd.length c5) TAct17)):=hid (((Ch.refl (At1 G) _).set1 4 _).row HBA2.out HBG.out)
                  go_simp
                  refine hK.out _ _ ((HSD.out _).2 ⟨cell_of_row _ BA 1 _ _ _ HBA2.out,cell_of_row _ BA 2 _ _ _ HBA2.out⟩) (fun _=>?_)
                  clear hK K z1 z2
                  repeat (go_big_quiet_step (fail))
                  refine wpQuiet_nil ?_
                  intro K hK
                  generalize hwz:wd.setCell ⟨G,3,none⟩ (.int .i64 (max 1 nn))=wz at *
                  have z1:wz.cell? ⟨G,4,none⟩=some (.int .i64 r5.keep):=cell_of_row wz G 4 _ _ _ HGR2.out
                  have z2:wz.frozen? ⟨G,4,none⟩=false:=frz HGR2.out
                  go_simp
                  refine hK.out _ _ ((HSD.out _).2 ⟨cell_of_row _ BA 1 _ _ _ HBA3.out,cell_of_row _ BA 2 _ _ _ HBA3.out⟩) (fun _=>?_)
                  clear hK K z1 z2
                  refine wpQuiet_nil ?_
                  go_wp2_with (fail)
                  go_meet
                  exact HF2.out
              have HF:=hid (HEND.out w5 HS5.out ⟨Nat.le_refl _,fun _ _=>rfl⟩)
              go_wp2_with (fail)
              go_meet
              exact HF.out
            case rest =>
              as_aux_lemma =>
                clear e0
                obtain ⟨u,rfl,hst,hrow⟩:=hcut
                obtain ⟨fb,ops,hrd,hby,hop,hcn⟩:=iaLook hst
                have HST:=hid hst
                have HROW:=hid hrow
                have HRD:=hid hrd
                have HBY:=hid hby
                have HOP:=hid hop
                have HCN:=hid hcn
                clear hst hrow hrd hby hop hcn
                go_wp2_with (fail)
                refine HRD.out.mono ?_
                rintro e w8 ⟨A1,c1,x1,rfl,hB1,hb8⟩
                have HBS1:=hid hB1
                have HB8:=hid hb8
                have HBYC:=hid (HBY.out w8 hb8)
                clear hB1 hb8 HRD HBY
                go_wp2_with (fail)
                refine HBYC.out.mono ?_
                rintro e wz ⟨rfl,A2,c2,fnd,rfl,hB2⟩
                have hcv1:=fun q:Later w8=>(HBS1.out.below q.h).str (P:=Tryz.prog) 40 5 9 Tryz.underlying40 Tryz.underlying5 Tryz.underlying9
                have hcv2:=fun q:Later w8=>(hB2.below q.h).str (P:=Tryz.prog) 40 5 9 Tryz.underlying40 Tryz.underlying5 Tryz.underlying9
                have HOPL:Hid (∀ q:Later w8,Calls Tryz.prog 28 #[pD D] q.u fun e w'=>e=.returned (.int .i64 ops)∧q.u=w'):=hid (fun q=>HOP.out _ (HB8.out.trans (q.h.mono HB8.out.size)))
                have g2:∀ q:Later w8,q.u.cell? ⟨G,2,none⟩=some (.int .i64 ops):=fun q=>HCN.out _ (HB8.out.trans (q.h.mono HB8.out.size))
                clear hB2 HBS1 HBYC HOP HCN
                generalize txt fb=Xs at *
                generalize fb.length=len at *
                go_wp2_with (fail)
                try simp only [List.append]
                refine region_later (by kernel_rfl) (by kernel_rfl) ?_
                repeat (go_big_quiet_step ((go_at_call 28;exact Calls.later_same (HOPL.out _))))
                refine wpQuiet_nil ?_
                intro nq
                have HS9:=hid (HST.out.below (HB8.out.trans (nq.h.mono HB8.out.size)))
                have HR9:Hid (nq.u.heap[BX]?=some (.cells #[pI X] TPIp)):=hid (((HB8.out.trans (nq.h.mono HB8.out.size)).block BX (Array.getElem?_eq_some_iff.1 HROW.out).1).trans HROW.out)
                clear hcv1 hcv2 g2 HOPL HST HROW HB8
                generalize nq.u=w9 at *
                have k9:w9.cell? ⟨BX,0,none⟩=some (pI X):=cell_of_row w9 BX 0 _ _ _ HR9.out
                cases u
                · obtain ⟨sn,kp2,hd,hnm⟩:=iaNums HS9.out (Nat.le_trans HMB.out.2 (by decide)) (Nat.le_trans HTL.out (by decide))
                  as_aux_lemma =>
                    have g5:∀ q:Later w9,q.u.cell? ⟨Y,5,none⟩=some (.int .i64 (sn:Int)):=fun q=>(hnm _ q.h).2.2.2.2.1
                    have g6:∀ q:Later w9,q.u.cell? ⟨Y,6,none⟩=some (.int .i64 (kp2:Int)):=fun q=>(hnm _ q.h).2.2.2.2.2
                    have g0:∀ q:Later w9,q.u.cell? ⟨BX,0,none⟩=some (pI X):=fun q=>cell_of_row q.u BX 0 _ _ _ ((q.h.block BX (Array.getElem?_eq_some_iff.1 HR9.out).1).trans HR9.out)
                    have HC1:Hid (∀ q:Later w9,Calls Tryz.prog 29 #[pI X] q.u fun e w'=>e=.returned (.int .i64 (sn:Int))∧q.u=w'):=hid (fun q=>(hnm _ q.h).1.mono (fun _ _ h=>⟨h.1,h.2.symm⟩))
                    have HC2:Hid (∀ q:Later w9,Calls Tryz.prog 30 #[pI X] q.u fun e w'=>e=.returned (.int .i64 (kp2:Int))∧q.u=w'):=hid (fun q=>(hnm _ q.h).2.1.mono (fun _ _ h=>⟨h.1,h.2.symm⟩))
                    have HC3:Hid (∀ q:Later w9,Calls Tryz.prog 31 #[pI X] q.u fun e w'=>e=.returned (.int .i64 (hd:Int))∧q.u=w'):=hid (fun q=>(hnm _ q.h).2.2.1.mono (fun _ _ h=>⟨h.1,h.2.symm⟩))
                    have HC4:Hid (∀ q:Later w9,Calls Tryz.prog 32 #[pY Y] q.u fun e w'=>e=.returned (.int .i64 (hd:Int))∧Below q.u.heap.size q.u w'):=hid (fun q=>(hnm _ q.h).2.2.2.1)
                    clear hnm k9
                    go_upto_region 40 with (fail)
                    refine region_later (by kernel_rfl) (by kernel_rfl) ?_
                    repeat (go_big_quiet_step ((first | (go_at_call 29;exact Calls.later_same (HC1.out _)) | (go_at_call 30;exact Calls.later_same (HC2.out _)) | (go_at_call 31;exact Calls.later_same (HC3.out _)) | (go_at_call 32;exact Calls.later (HC4.out _)))))
                    refine wpQuiet_nil ?_
                    intro nr
                    have HSF:=hid (HS9.out.below nr.h)
                    have HRF:Hid (nr.u.heap[BX]?=some (.cells #[pI X] TPIp)):=hid ((nr.h.block BX (Array.getElem?_eq_some_iff.1 HR9.out).1).trans HR9.out)
                    clear g5 g6 g0 HC1 HC2 HC3 HC4
                    generalize nr.u=wr9 at *
                    have hw5:IntKind.i64.wrap ((k:Int)+1)=(k:Int)+1:=IntWalk.i64_in _ (by have:=HN.out.1;omega)
                    go_wp2_with (fail)
                    exact ⟨⟨k+1,by omega,by go_num,HSF.out,HRF.out⟩,by simp [intOf];omega⟩
                · have HTP:=hid (iaTakeP HS9.out)
                  as_aux_lemma =>
                    go_wp2_with (fail)
                    refine HTP.out.mono ?_
                    rintro e wp ⟨va,rfl,hit,_⟩
                    have HTD:=hid (iaTakeD hit)
                    clear HTP k9 hit
                    go_wp2_with (fail)
                    refine HTD.out.mono ?_
                    rintro e wq ⟨vo,rfl,hir,his,_⟩
                    have HSM:=hid (iaSame hir)
                    have HLW:=hid his.low
                    clear HTD hir his
                    go_wp2_with (fail)
                    refine HSM.out.mono ?_
                    rintro e ws ⟨rfl,hb⟩
                    have HLF:=hid (HB1.out.trans ((HLW.out.trans (hb.mono HLW.out.size)).mono HB1.out.size))
                    clear HSM hb
                    go_wp2_with (fail)
                    go_ret
                    exact ⟨rfl,HLF.out⟩
          · obtain rfl:k=n:=by omega
            clear hlt
            as_aux_lemma =>
              have HTP:=hid (iaTakeP HST.out)
              have k7:wo.cell? ⟨BX,0,none⟩=some (pI X):=cell_of_row wo BX 0 _ _ _ HROW.out
              go_wp2_with (fail)
              refine HTP.out.mono ?_
              rintro e wp ⟨va,rfl,hit,_⟩
              have HTD:=hid (iaTakeD hit)
              clear HTP k7 hit
              go_wp2_with (fail)
              refine HTD.out.mono ?_
              rintro e wq ⟨vo,rfl,hir,his,_⟩
              have HSM:=hid (iaSame hir)
              have HLW:=hid his.low
              clear HTD hir his
              go_wp2_with (fail)
              refine HSM.out.mono ?_
              rintro e ws ⟨rfl,hb⟩
              have HLF:=hid (HB1.out.trans ((HLW.out.trans (hb.mono HLW.out.size)).mono HB1.out.size))
              clear HSM hb
              go_wp2_with (fail)
              go_ret
              exact ⟨rfl,HLF.out⟩
  have hz:Below w1.heap.size w1 w1.drew:=(Below.refl _ w1).drew
  generalize w1.drew=x0 at *
  have hbw:=hz
  have hQh:∀ c (a:Act) d v w,Q (.panic c) (a.put (some d) v) w→Q (.panic c) a w:=by rw [← hQ];exact fun _ _ _ _ _ h=>h
  clear hz s0 s1
  refine wpAnyH_ready (rs:=[2,11]) (by kernel_rfl) (by simp) (fun j hj=>?_)
  rcases List.mem_cons.1 hj with rfl|hj
  · refine wpOp_step rfl (fun K hK=>?_)
    go_simp
    refine (room17 a _).mono ?_
    rintro e x1 ⟨rfl,rfl⟩
    dsimp only
    refine hK _ _ ⟨HSW.out _ hbw,?_⟩
    refine wpAnyH_ready (rs:=[5,11]) (by kernel_rfl) (by simp) (fun j hj=>?_)
    rcases List.mem_cons.1 hj with rfl|hj
    · refine wpOp_step rfl (fun K hK=>?_)
      go_simp
      refine (most17 b _).mono ?_
      rintro e x2 ⟨rfl,rfl⟩
      dsimp only
      refine hK _ _ ⟨HSW.out _ hbw,?_⟩
      refine wpAnyH_ready (rs:=[6,11]) (by kernel_rfl) (by simp) (fun j hj=>?_)
      rcases List.mem_cons.1 hj with rfl|hj
      · refine wpOp_step rfl (fun K hK=>?_)
        go_simp
        rw [← HRR.out,← HMM.out]
        refine (begin17 (rr:Int) HRL.out (mm+1) HML.out.1 (by have:=HML.out;omega) _).mono ?_
        rintro e x3 ⟨D,M,Lg,Qd,X,vv,rfl,hi,hb6⟩
        obtain ⟨Bq,hBq⟩:∃ Bq,Bq=x2.heap.size:=⟨_,rfl⟩
        have hib0:=hi
        rw [← hBq] at hib0
        have hbq:w1.heap.size≤Bq:=by rw [hBq];exact hbw.size
        have hbq20:Bq≤x3.heap.size:=by rw [hBq];exact hb6.size
        have hbw:=hbw.trans (hb6.mono hbw.size)
        clear hi hBq
        dsimp only
        refine hK _ _ ⟨HSW.out _ hbw,?_⟩
        refine takes (P:=Tryz.prog) (by kernel_rfl) hQh [7,8,9,10] 4 _ _ _ (by kernel_rfl) (HSW.out _ hbw) ?_
        simp only [pick,List.getElem?_cons_zero,List.getElem?_cons_succ]
        repeat (go_big_quiet_step (fail))
        refine wpQuiet_nil ?_
        refine wpAnyH_ready (rs:=[11]) (by kernel_rfl) (by simp) (fun j hj=>?_)
        obtain rfl:=List.mem_singleton.1 hj
        refine wpOp_step rfl (fun K hK=>?_)
        go_simp
        obtain ⟨x4,hx4⟩:∃ y,y=x3.alloc (.cells #[.pointer none] TPIp):=⟨_,rfl⟩
        rw [← hx4]
        have hba:Below x3.heap.size x3 x4:=by rw [hx4];exact (Below.refl _ _).alloc (Nat.le_refl _) _
        obtain ⟨BX,hBX⟩:∃ BX,BX=x3.heap.size:=⟨_,rfl⟩
        have hrow:x4.heap[BX]?=some (.cells #[.pointer none] TPIp):=by rw [hx4,hBX];exact heap_alloc_new _ _
        have hbx:w1.heap.size≤BX:=by rw [hBX];exact hbw.size
        rw [← hBX]
        have hib:=hib0.addZ (Z':=fun k=>k=BX) hba (fun k hk=>.inr ⟨by rw [hk,hBX];exact Nat.le_refl _,by rw [hk];exact (Array.getElem?_eq_some_iff.1 hrow).1⟩)
        have hbq2:=Nat.le_trans hbq20 hba.size
        have hbw:=hbw.trans (hba.mono hbw.size)
        clear hx4 hBX
        refine hK _ _ ⟨HSW.out _ hbw,?_⟩
        refine takes (P:=Tryz.prog) (by kernel_rfl) hQh [12,13] 1 _ _ _ (by kernel_rfl) (HSW.out _ hbw) ?_
        simp only [pick,List.getElem?_cons_zero,List.getElem?_cons_succ]
        repeat (go_big_quiet_step (fail))
        refine wpQuiet_nil ?_
        refine wpAnyH_ready (rs:=[14]) (by kernel_rfl) (by simp) (fun j hj=>?_)
        obtain rfl:=List.mem_singleton.1 hj
        refine wpOp_step rfl (fun K hK=>?_)
        have kc:=cell_of_row x4 BX 0 _ _ _ hrow
        have kf:x4.frozen? ⟨BX,0,none⟩=false:=by simp [World.frozen?,hrow]
        simp only [List.getElem?_toArray,List.getElem?_cons_zero] at kc
        go_simp
        have hcs:Ch (At1 BX) x4 (x4.setCell ⟨BX,0,none⟩ (pI X)):=(Ch.refl _ _).set1 0 _
        have hbs:Below w1.heap.size w1 (x4.setCell ⟨BX,0,none⟩ (pI X)):=hbw.trans (hcs.below (B:=w1.heap.size) (fun k hk=>by rw [show k=BX from hk];exact hbx) hbw.size)
        refine hK _ _ ⟨HSW.out _ hbs,?_⟩
        refine wpAnyH_done (by kernel_rfl) ?_ 0
        exact key BX Bq D M Lg Qd X vv _ _ _ _ _ _ _ _ _ _ _ _ _ _ _ _ _ _ hbs (heap_set_row hrow _) (hib.zch hcs (fun k hk=>hk)) hbq (Nat.le_trans hbq2 hcs.size)
      · obtain rfl:j=11:=by simpa using hj
        refine wpOp_step rfl (fun K hK=>?_)
        go_simp
        obtain ⟨x5,hx5⟩:∃ y,y=x2.alloc (.cells #[.pointer none] TPIp):=⟨_,rfl⟩
        rw [← hx5]
        have hba:Below x2.heap.size x2 x5:=by rw [hx5];exact (Below.refl _ _).alloc (Nat.le_refl _) _
        obtain ⟨BX,hBX⟩:∃ BX,BX=x2.heap.size:=⟨_,rfl⟩
        have hrow:x5.heap[BX]?=some (.cells #[.pointer none] TPIp):=by rw [hx5,hBX];exact heap_alloc_new _ _
        have hbx:w1.heap.size≤BX:=by rw [hBX];exact hbw.size
        rw [← hBX]
        have hbw:=hbw.trans (hba.mono hbw.size)
        clear hx5 hBX
        refine hK _ _ ⟨HSW.out _ hbw,?_⟩
        refine wpAnyH_ready (rs:=[6]) (by kernel_rfl) (by simp) (fun j hj=>?_)
        obtain rfl:=List.mem_singleton.1 hj
        refine wpOp_step rfl (fun K hK=>?_)
        go_simp
        rw [← HRR.out,← HMM.out]
        refine (begin17 (rr:Int) HRL.out (mm+1) HML.out.1 (by have:=HML.out;omega) _).mono ?_
        rintro e x6 ⟨D,M,Lg,Qd,X,vv,rfl,hi,hb6⟩
        have hib:=hi.less (Z':=fun k=>k=BX) (fun k hk=>by rw [hk];exact (Array.getElem?_eq_some_iff.1 hrow).1)
        have hrow:=(hb6.block _ (Array.getElem?_eq_some_iff.1 hrow).1).trans hrow
        obtain ⟨Bq,hBq⟩:∃ Bq,Bq=x5.heap.size:=⟨_,rfl⟩
        rw [← hBq] at hib
        have hbq:w1.heap.size≤Bq:=by rw [hBq];exact hbw.size
        have hbq2:Bq≤x6.heap.size:=by rw [hBq];exact hb6.size
        have hbw:=hbw.trans (hb6.mono hbw.size)
        clear hi hBq
        dsimp only
        refine hK _ _ ⟨HSW.out _ hbw,?_⟩
        refine takes (P:=Tryz.prog) (by kernel_rfl) hQh [7,8,9,10,12,13] 1 _ _ _ (by kernel_rfl) (HSW.out _ hbw) ?_
        simp only [pick,List.getElem?_cons_zero,List.getElem?_cons_succ]
        repeat (go_big_quiet_step (fail))
        refine wpQuiet_nil ?_
        refine wpAnyH_ready (rs:=[14]) (by kernel_rfl) (by simp) (fun j hj=>?_)
        obtain rfl:=List.mem_singleton.1 hj
        refine wpOp_step rfl (fun K hK=>?_)
        have kc:=cell_of_row x6 BX 0 _ _ _ hrow
        have kf:x6.frozen? ⟨BX,0,none⟩=false:=by simp [World.frozen?,hrow]
        simp only [List.getElem?_toArray,List.getElem?_cons_zero] at kc
        go_simp
        have hcs:Ch (At1 BX) x6 (x6.setCell ⟨BX,0,none⟩ (pI X)):=(Ch.refl _ _).set1 0 _
        have hbs:Below w1.heap.size w1 (x6.setCell ⟨BX,0,none⟩ (pI X)):=hbw.trans (hcs.below (B:=w1.heap.size) (fun k hk=>by rw [show k=BX from hk];exact hbx) hbw.size)
        refine hK _ _ ⟨HSW.out _ hbs,?_⟩
        refine wpAnyH_done (by kernel_rfl) ?_ 0
        exact key BX Bq D M Lg Qd X vv _ _ _ _ _ _ _ _ _ _ _ _ _ _ _ _ _ _ hbs (heap_set_row hrow _) (hib.zch hcs (fun k hk=>hk)) hbq (Nat.le_trans hbq2 hcs.size)
    · obtain rfl:j=11:=by simpa using hj
      refine wpOp_step rfl (fun K hK=>?_)
      go_simp
      obtain ⟨x7,hx7⟩:∃ y,y=x1.alloc (.cells #[.pointer none] TPIp):=⟨_,rfl⟩
      rw [← hx7]
      have hba:Below x1.heap.size x1 x7:=by rw [hx7];exact (Below.refl _ _).alloc (Nat.le_refl _) _
      obtain ⟨BX,hBX⟩:∃ BX,BX=x1.heap.size:=⟨_,rfl⟩
      have hrow:x7.heap[BX]?=some (.cells #[.pointer none] TPIp):=by rw [hx7,hBX];exact heap_alloc_new _ _
      have hbx:w1.heap.size≤BX:=by rw [hBX];exact hbw.size
      rw [← hBX]
      have hbw:=hbw.trans (hba.mono hbw.size)
      clear hx7 hBX
      refine hK _ _ ⟨HSW.out _ hbw,?_⟩
      refine wpAnyH_ready (rs:=[5]) (by kernel_rfl) (by simp) (fun j hj=>?_)
      obtain rfl:=List.mem_singleton.1 hj
      refine wpOp_step rfl (fun K hK=>?_)
      go_simp
      refine (most17 b _).mono ?_
      rintro e x8 ⟨rfl,rfl⟩
      dsimp only
      refine hK _ _ ⟨HSW.out _ hbw,?_⟩
      refine wpAnyH_ready (rs:=[6]) (by kernel_rfl) (by simp) (fun j hj=>?_)
      obtain rfl:=List.mem_singleton.1 hj
      refine wpOp_step rfl (fun K hK=>?_)
      go_simp
      rw [← HRR.out,← HMM.out]
      refine (begin17 (rr:Int) HRL.out (mm+1) HML.out.1 (by have:=HML.out;omega) _).mono ?_
      rintro e x9 ⟨D,M,Lg,Qd,X,vv,rfl,hi,hb6⟩
      have hib:=hi.less (Z':=fun k=>k=BX) (fun k hk=>by rw [hk];exact (Array.getElem?_eq_some_iff.1 hrow).1)
      have hrow:=(hb6.block _ (Array.getElem?_eq_some_iff.1 hrow).1).trans hrow
      obtain ⟨Bq,hBq⟩:∃ Bq,Bq=x8.heap.size:=⟨_,rfl⟩
      rw [← hBq] at hib
      have hbq:w1.heap.size≤Bq:=by rw [hBq];exact hbw.size
      have hbq2:Bq≤x9.heap.size:=by rw [hBq];exact hb6.size
      have hbw:=hbw.trans (hb6.mono hbw.size)
      clear hi hBq
      dsimp only
      refine hK _ _ ⟨HSW.out _ hbw,?_⟩
      refine takes (P:=Tryz.prog) (by kernel_rfl) hQh [7,8,9,10,12,13] 1 _ _ _ (by kernel_rfl) (HSW.out _ hbw) ?_
      simp only [pick,List.getElem?_cons_zero,List.getElem?_cons_succ]
      repeat (go_big_quiet_step (fail))
      refine wpQuiet_nil ?_
      refine wpAnyH_ready (rs:=[14]) (by kernel_rfl) (by simp) (fun j hj=>?_)
      obtain rfl:=List.mem_singleton.1 hj
      refine wpOp_step rfl (fun K hK=>?_)
      have kc:=cell_of_row x9 BX 0 _ _ _ hrow
      have kf:x9.frozen? ⟨BX,0,none⟩=false:=by simp [World.frozen?,hrow]
      simp only [List.getElem?_toArray,List.getElem?_cons_zero] at kc
      go_simp
      have hcs:Ch (At1 BX) x9 (x9.setCell ⟨BX,0,none⟩ (pI X)):=(Ch.refl _ _).set1 0 _
      have hbs:Below w1.heap.size w1 (x9.setCell ⟨BX,0,none⟩ (pI X)):=hbw.trans (hcs.below (B:=w1.heap.size) (fun k hk=>by rw [show k=BX from hk];exact hbx) hbw.size)
      refine hK _ _ ⟨HSW.out _ hbs,?_⟩
      refine wpAnyH_done (by kernel_rfl) ?_ 0
      exact key BX Bq D M Lg Qd X vv _ _ _ _ _ _ _ _ _ _ _ _ _ _ _ _ _ _ hbs (heap_set_row hrow _) (hib.zch hcs (fun k hk=>hk)) hbq (Nat.le_trans hbq2 hcs.size)
  · obtain rfl:j=11:=by simpa using hj
    refine wpOp_step rfl (fun K hK=>?_)
    go_simp
    obtain ⟨x10,hx10⟩:∃ y,y=x0.alloc (.cells #[.pointer none] TPIp):=⟨_,rfl⟩
    rw [← hx10]
    have hba:Below x0.heap.size x0 x10:=by rw [hx10];exact (Below.refl _ _).alloc (Nat.le_refl _) _
    obtain ⟨BX,hBX⟩:∃ BX,BX=x0.heap.size:=⟨_,rfl⟩
    have hrow:x10.heap[BX]?=some (.cells #[.pointer none] TPIp):=by rw [hx10,hBX];exact heap_alloc_new _ _
    have hbx:w1.heap.size≤BX:=by rw [hBX];exact hbw.size
    rw [← hBX]
    have hbw:=hbw.trans (hba.mono hbw.size)
    clear hx10 hBX
    refine hK _ _ ⟨HSW.out _ hbw,?_⟩
    refine wpAnyH_ready (rs:=[2]) (by kernel_rfl) (by simp) (fun j hj=>?_)
    obtain rfl:=List.mem_singleton.1 hj
    refine wpOp_step rfl (fun K hK=>?_)
    go_simp
    refine (room17 a _).mono ?_
    rintro e x11 ⟨rfl,rfl⟩
    dsimp only
    refine hK _ _ ⟨HSW.out _ hbw,?_⟩
    refine wpAnyH_ready (rs:=[5]) (by kernel_rfl) (by simp) (fun j hj=>?_)
    obtain rfl:=List.mem_singleton.1 hj
    refine wpOp_step rfl (fun K hK=>?_)
    go_simp
    refine (most17 b _).mono ?_
    rintro e x12 ⟨rfl,rfl⟩
    dsimp only
    refine hK _ _ ⟨HSW.out _ hbw,?_⟩
    refine wpAnyH_ready (rs:=[6]) (by kernel_rfl) (by simp) (fun j hj=>?_)
    obtain rfl:=List.mem_singleton.1 hj
    refine wpOp_step rfl (fun K hK=>?_)
    go_simp
    rw [← HRR.out,← HMM.out]
    refine (begin17 (rr:Int) HRL.out (mm+1) HML.out.1 (by have:=HML.out;omega) _).mono ?_
    rintro e x13 ⟨D,M,Lg,Qd,X,vv,rfl,hi,hb6⟩
    have hib:=hi.less (Z':=fun k=>k=BX) (fun k hk=>by rw [hk];exact (Array.getElem?_eq_some_iff.1 hrow).1)
    have hrow:=(hb6.block _ (Array.getElem?_eq_some_iff.1 hrow).1).trans hrow
    obtain ⟨Bq,hBq⟩:∃ Bq,Bq=x12.heap.size:=⟨_,rfl⟩
    rw [← hBq] at hib
    have hbq:w1.heap.size≤Bq:=by rw [hBq];exact hbw.size
    have hbq2:Bq≤x13.heap.size:=by rw [hBq];exact hb6.size
    have hbw:=hbw.trans (hb6.mono hbw.size)
    clear hi hBq
    dsimp only
    refine hK _ _ ⟨HSW.out _ hbw,?_⟩
    refine takes (P:=Tryz.prog) (by kernel_rfl) hQh [7,8,9,10,12,13] 1 _ _ _ (by kernel_rfl) (HSW.out _ hbw) ?_
    simp only [pick,List.getElem?_cons_zero,List.getElem?_cons_succ]
    repeat (go_big_quiet_step (fail))
    refine wpQuiet_nil ?_
    refine wpAnyH_ready (rs:=[14]) (by kernel_rfl) (by simp) (fun j hj=>?_)
    obtain rfl:=List.mem_singleton.1 hj
    refine wpOp_step rfl (fun K hK=>?_)
    have kc:=cell_of_row x13 BX 0 _ _ _ hrow
    have kf:x13.frozen? ⟨BX,0,none⟩=false:=by simp [World.frozen?,hrow]
    simp only [List.getElem?_toArray,List.getElem?_cons_zero] at kc
    go_simp
    have hcs:Ch (At1 BX) x13 (x13.setCell ⟨BX,0,none⟩ (pI X)):=(Ch.refl _ _).set1 0 _
    have hbs:Below w1.heap.size w1 (x13.setCell ⟨BX,0,none⟩ (pI X)):=hbw.trans (hcs.below (B:=w1.heap.size) (fun k hk=>by rw [show k=BX from hk];exact hbx) hbw.size)
    refine hK _ _ ⟨HSW.out _ hbs,?_⟩
    refine wpAnyH_done (by kernel_rfl) ?_ 0
    exact key BX Bq D M Lg Qd X vv _ _ _ _ _ _ _ _ _ _ _ _ _ _ _ _ _ _ hbs (heap_set_row hrow _) (hib.zch hcs (fun k hk=>hk)) hbq (Nat.le_trans hbq2 hcs.size)
end
end Go.Proofs.YtodjilljcjkacaaGreatDoor
