/- Laid together: In4, In5, In6, In7. -/
import Derived.Test.YtodjilljcjkacaaGreatDoorPkIB30
import Derived.Conc.SmallLaws
import Derived.Defers

namespace Go.Proofs.YtodjilljcjkacaaGreatDoor
open Lib (hid)
section
open Go.RowKit Go.MapKept
def chLeft (w:World) (C:Nat):Nat:=match w.heap[C]? with
  | some (.chan _ buf _ _ _ _)=>buf.size
  | _=>0
theorem CH.left {cl:Bool} {w:World} {C cap:Nat} {L:List (List UInt8)} {T Z:Nat→Prop} (h:CH cl w C cap L T Z):chLeft w C=L.length:=by
  obtain ⟨_,vs,s,r,h1,h2,_⟩:=h
  simp [chLeft,h1,h2]
def CoPost (Z:Nat→Prop) (B D M L Q X:Nat) (O:Option Nat) (d:Dk) (F:List Ent) (T:List (List UInt8)) (g:Nat) (v:Value) (most:Nat) (s:St) (va:Value) (an:List (List UInt8)) (sn kp:Nat) (C:Nat) (La:List (List UInt8)) (w:World) (e:Ending) (w':World):Prop :=
  ∃ va',e=.returned (.tuple #[])∧IB Z w' B D M L Q X O d F T g v most s va' (an++La) (sn+La.length) kp∧ICh (fun k=>FI L D M Q X O F v va k∨k=C) (fun k=>FI L D M Q X O F v va' k∨k=C) w w'
section
variable {Z:Nat→Prop} {w:World} {B D M L Q X g sn kp most:Nat} {O:Option Nat} {d:Dk} {F:List Ent} {T:List (List UInt8)} {v va:Value} {s:St} {an:List (List UInt8)}
theorem ICh.chan {A A':Nat→Prop} {w w1 w2:World} {C:Nat} (h:ICh (fun k=>A k∨k=C) (fun k=>A' k∨k=C) w w1) (c:Ch (At1 C) w1 w2):ICh (fun k=>A k∨k=C) (fun k=>A' k∨k=C) w w2 :=
  h.trans (.wide c (R':=fun _=>False) (fun _ h=>h.elim) (fun _ hk=>.inr hk) (fun _ hk=>.inl hk))
set_option maxRecDepth 100000 in
set_option maxHeartbeats 4000000 in
theorem mCollect (h:IB Z w B D M L Q X O d F T g v most s va an sn kp) (C cap:Nat) (La:List (List UInt8)) (hZC:Z C) (hc:CH false w C cap La (FI L D M Q X O F v va) Z) (u:FrameMode) (hsn:sn+La.length≤1099511627770) (han:an.length+La.length≤1099511627770) (hBw:B≤w.heap.size) :
    CallsD Tryz.prog 51 #[pI X,.chan (some C)] u w fun e u' w'=>u'=u∧CoPost Z B D M L Q X O d F T g v most s va an sn kp C La w e w':=by
  obtain ⟨buf,ss,rr,hcw,hch⟩:=hc.close hZC
  have q:=Go.run_close_open (P:=Tryz.prog) #[101] 0 hcw
  refine callsDN Tryz.func51 rfl ?_
  simp only [Tryz.ntmps51,List.size_toArray,List.length_cons,List.length_nil,Nat.reduceAdd,Nat.reduceSub,Array.replicate_succ,Array.replicate_zero,List.push_toArray,List.append_toArray,List.nil_append,List.cons_append]
  refine wpN_seqN (wpN_region ?_)
  show opsN _ _ _ [0,1] _ _
  refine opsN_value (o:=⟨some 5,_,_,_,_,_⟩) (v:=.chan (some C)) (w':=w) rfl (by kernel_rfl) (by go_simp) ?_
  simp only [Act.put,List.setIfInBounds_toArray,List.set_cons_succ,List.set_cons_zero]
  refine opsN_value (o:=⟨none,_,_,_,_,_⟩) (v:=.tuple #[]) (w':=w.setChan C cap buf true ss rr false) rfl (by kernel_rfl) (by go_simp;rfl) ?_
  refine opsN_nil ?_
  have hcc:=ch_chan w C cap buf true ss rr false
  have HI:=hid (h.zch hcc (fun k hk=>by rw [show k=C from hk];exact hZC))
  have HIC:Hid (ICh (fun k=>FI L D M Q X O F v va k∨k=C) (fun k=>FI L D M Q X O F v va k∨k=C) w (w.setChan C cap buf true ss rr false)):=hid ((ICh.of_below (Below.refl _ w)).chan hcc)
  have HZC:=hid hZC
  have HC:=hid hch
  have HSN:=hid hsn
  have HAN:=hid han
  have HBW:Hid (B≤(w.setChan C cap buf true ss rr false).heap.size):=hid (Nat.le_trans hBw hcc.size)
  clear h hc q hcw hch hcc hZC hsn han hBw
  generalize w.setChan C cap buf true ss rr false=w1 at *
  show wpN _ _ _ _ _
  refine wpN_seq ?_
  go_wp2_with (fail)
  refine wpN_block ?_
  refine wpN_loop (fun a W=>∃ (k:Nat) (va':Value) (x4 x7 x8 x9 x10 x11 x12 x13 x14 x15 x16 x17 x18 x19 x20 x21 x22 x23 x24 x25 x26:Value),a=⟨#[pI X,.chan (some C),undef,undef,x4,.chan (some C),.chan (some C),x7,x8,x9,x10,x11,x12,x13,x14,x15,x16,x17,x18,x19,x20,x21,x22,x23,x24,x25,x26],[]⟩∧k≤La.length∧IB Z W B D M L Q X O d F T g v most s va' (an++La.take k) (sn+k) kp∧CH true W C cap (La.drop k) (FI L D M Q X O F v va') Z ∧
    ICh (fun k=>FI L D M Q X O F v va k∨k=C) (fun k=>FI L D M Q X O F v va' k∨k=C) w W∧B≤W.heap.size) (fun _ W=>chLeft W C) ?_ ?_
  · refine ⟨0,va,_,_,_,_,_,_,_,_,_,_,_,_,_,_,_,_,_,_,_,_,_,rfl,Nat.zero_le _,?_,HC.out,HIC.out,HBW.out⟩
    simpa using HI.out
  · clear HI HC HIC HBW
    rintro _ W ⟨k,va',x4,x7,x8,x9,x10,x11,x12,x13,x14,x15,x16,x17,x18,x19,x20,x21,x22,x23,x24,x25,x26,rfl,hk,hi,hch,hic,hbw⟩
    by_cases hlt:k<La.length
    · have hdr:La.drop k=La[k] :: La.drop (k+1):=List.drop_eq_getElem_cons hlt
      have htk:La.take (k+1)=La.take k++[La[k]]:=List.take_succ_eq_append_getElem hlt
      have hfl:∀ j,FI L D M Q X O F v va' j→B≤j∧j<W.heap.size:=fun j hj=>hi.foot_lt hj
      rw [hdr] at hch
      obtain ⟨x,hx⟩:∃ x,x=La[k]:=⟨_,rfl⟩
      rw [← hx] at hch htk hdr
      clear hx
      have HL0:Hid (chLeft W C=La.length-k):=hid (by rw [hch.left];simp;omega)
      obtain ⟨bf,s1,r1,A,c,hcw,hb0,hbv,hB,hBT,hch1⟩:=hch.recv HZC.out
      have hcc:=ch_chan W C cap (bf.extract 1 bf.size) true s1 (r1+1) false
      refine wpN_seqN (wpN_region ?_)
      show opsN _ _ _ [0,1] _ _
      refine opsN_comm (o:=⟨some 7,_,_,_,_,_⟩) (cases:=#[Go.Conc.rcase C (.slice none 0 0)]) (shape:=.recv true) (v:=.tuple #[.slice A x.length c,.bool true]) (w1:=W) (w2:=W.setChan C cap (bf.extract 1 bf.size) true s1 (r1+1) false) rfl (by kernel_rfl) (by go_simp;rfl) (fun fr cs es h=>by
        have:=Go.Conc.step_lone_recv_buf true h hcw hb0
        rw [hbv] at this
        exact this) ?_
      simp only [Act.put,List.setIfInBounds_toArray,List.set_cons_succ,List.set_cons_zero]
      have HI1:=hid (hi.zch hcc (fun k hk=>by rw [show k=C from hk];exact HZC.out))
      have HIC1:=hid (hic.chan hcc)
      have HBW1:Hid (B≤(W.setChan C cap (bf.extract 1 bf.size) true s1 (r1+1) false).heap.size):=hid (Nat.le_trans hbw hcc.size)
      have HB1:=hid (hB.ch hcc (fun h0 b hb hs=>(hBT h0 b hb).2 (by rw [show b.block=C from hs];exact HZC.out)))
      have HFL1:Hid (∀ j,FI L D M Q X O F v va' j→B≤j∧j<(W.setChan C cap (bf.extract 1 bf.size) true s1 (r1+1) false).heap.size):=hid (fun j hj=>⟨(hfl j hj).1,Nat.lt_of_lt_of_le (hfl j hj).2 hcc.size⟩)
      have HCH1:=hid hch1
      have HBT:=hid hBT
      have HTK:=hid htk
      have HDR:=hid hdr
      have HLT:=hid hlt
      have HZS:Hid (∀ j,Z j→j<(W.setChan C cap (bf.extract 1 bf.size) true s1 (r1+1) false).heap.size):=hid (fun j hj=>(HI1.out.zl j hj).1)
      clear hi hch hic hbw hfl hcw hb0 hbv hB hBT hch1 hcc htk hdr hlt hk
      generalize W.setChan C cap (bf.extract 1 bf.size) true s1 (r1+1) false=W1 at *
      refine opsN_value (o:=⟨some 8,_,_,_,_,_⟩) (v:=.bool true) (w':=W1) rfl (by kernel_rfl) (by go_simp) ?_
      simp only [Act.put,List.setIfInBounds_toArray,List.set_cons_succ,List.set_cons_zero]
      refine opsN_nil ?_
      show wpN _ _ _ _ _
      refine wpN_of ?_
      obtain ⟨Lk,hLk⟩:∃ Lk,Lk=an++La.take k:=⟨_,rfl⟩
      have HLN:Hid (Lk.length+1≤1099511627776):=hid (by rw [hLk,List.length_append,List.length_take];have:=HAN.out;have:=HLT.out;omega)
      obtain ⟨Ls,hLs⟩:∃ Ls,Lk++[x]=Ls:=⟨_,rfl⟩
      have HLS:=hid hLs
      have HLK:Hid (Ls=an++La.take (k+1)):=hid (by rw [← hLs,hLk,HTK.out,List.append_assoc])
      rw [← hLk] at HI1
      clear hLk hLs
      have hc2:=HI1.out.cell 2
      simp only [List.getElem?_toArray,List.getElem?_cons_zero,List.getElem?_cons_succ] at hc2
      have HA2:=hid ((Below.refl W1.heap.size W1).alloc (Nat.le_refl _) (.cells #[.slice A x.length c] 40))
      have HI2:=hid (HI1.out.below HA2.out)
      have HROW:=hid (heap_alloc_new W1 (.cells #[.slice A x.length c] 40))
      have HXA:=hid (HB1.out.below HA2.out)
      have HLT1:Hid (0<x.length→∀ b,A=some b→¬ va'.ownBlock=some b.block∧¬ (Z b.block∨b.block=X∨dS Q O b.block∨WFoot L D M F v b.block)):=hid (fun h0 b hb=>⟨fun e=>(HBT.out h0 b hb).1 (.inr (.inr (.inr e))),fun e=>by
        rcases e with e|e|e|e
        · exact (HBT.out h0 b hb).2 e
        · exact (HBT.out h0 b hb).1 (.inl e)
        · exact (HBT.out h0 b hb).1 (.inr (.inl e))
        · exact (HBT.out h0 b hb).1 (.inr (.inr (.inl e)))⟩)
      have tok1:Hid True:=hid trivial
      have HTN:Hid (¬ (fun j=>Z j∨j=X∨dS Q O j∨WFoot L D M F v j) (W1.alloc (.cells #[.slice A x.length c] 40)).heap.size):=hid (fun ht=>by
        have hs:=HA2.out.size
        rcases ht with e|e|e|e
        · have:=HZS.out _ e;omega
        · have:=(HFL1.out _ (.inl e)).2;omega
        · have:=(HFL1.out _ (.inr (.inl e))).2;omega
        · have:=(HFL1.out _ (.inr (.inr (.inl e)))).2;omega)
      have HBW2:Hid (B≤(W1.alloc (.cells #[.slice A x.length c] 40)).heap.size):=hid (Nat.le_trans HBW1.out HA2.out.size)
      have ew:IntKind.i64.wrap (((sn+k:Nat):Int)+1)=((sn+(k+1):Nat):Int):=by have:=HSN.out;have:=HLT.out;rw [IntKind.wrap_i64];omega
      go_wp2_with (at_builtin;have _t:=tok1;go_loud ((refine wpList_rw rfl (.tmp 14) (.tmp 16) rfl B (fun j=>Z j∨j=X∨dS Q O j∨WFoot L D M F v j) va' Lk x A c rfl HI2.out.an HXA.out HLT1.out HTN.out W1.heap.size rfl HROW.out HLN.out HBW2.out ?_;intro v2 w2 hw2 hgr2 hfr2;rw [HLS.out] at hw2;obtain ⟨A2,c2,rfl⟩:=hw2.form;obtain ⟨hi3,hr3,hc3⟩:=HI2.out.app hw2 (Ch.of_grown hgr2 (fun j hj=>hj)) hfr2;have HI3:=hid hi3;have HC3:=hid hc3;have HFR:=hid hfr2;have c22:=cell_of_row w2 X 2 _ _ _ hr3;have c23:=cell_of_row w2 X 3 _ _ _ hr3;have f22:w2.frozen? ⟨X,2,none⟩=false:=(by simp [World.frozen?,hr3]);have f23:w2.frozen? ⟨X,3,none⟩=false:=(by simp [World.frozen?,hr3]);simp only [List.getElem?_toArray,List.getElem?_cons_zero,List.getElem?_cons_succ] at c22 c23;clear tok1 hw2 hgr2 hfr2 hi3 hr3 hc3 _t)))
      have ew2:wrap64 ((sn:Int)+(k:Int)+1)=((sn+(k+1):Nat):Int):=by have:=HSN.out;have:=HLT.out;simp only [wrap64];omega
      rw [ew2]
      have hcs:Ch (At1 X) (w2.setCell ⟨X,2,none⟩ (.slice A2 Ls.length c2)) ((w2.setCell ⟨X,2,none⟩ (.slice A2 Ls.length c2)).setCell ⟨X,3,none⟩ (.int .i64 ((sn+(k+1):Nat):Int))):=(Ch.refl _ _).set1 3 _
      have h3:ICh (FI L D M Q X O F v va') (FI L D M Q X O F v (.slice A2 Ls.length c2)) (W1.alloc (.cells #[.slice A x.length c] 40)) (w2.setCell ⟨X,2,none⟩ (.slice A2 Ls.length c2)) :=
        .wide HC3.out (R':=fun j=>(Value.slice A2 Ls.length c2).ownBlock=some j) (fun j hj=>by
          rcases HFR.out with e|e
          · exact .inl (.inr (by rw [← e];exact hj))
          · rw [e] at hj;injection hj with hj;exact .inr (by omega)) (fun j hj=>hj.elim .inl (fun e=>.inr (.inr (.inr e)))) (fun j hj=>by
          rcases hj with e|e|e|e
          · exact .inl (.inl e)
          · exact .inl (.inr (.inl e))
          · exact .inl (.inr (.inr (.inl e)))
          · exact .inr e)
      have h4:ICh (FI L D M Q X O F v va') (FI L D M Q X O F v (.slice A2 Ls.length c2)) W1 ((w2.setCell ⟨X,2,none⟩ (.slice A2 Ls.length c2)).setCell ⟨X,3,none⟩ (.int .i64 ((sn+(k+1):Nat):Int))) :=
        ((ICh.of_below HA2.out).trans h3).trans (.wide hcs (R':=fun _=>False) (fun _ h=>h.elim) (fun j hj=>.inl hj) (fun j hj=>.inl hj))
      have hch5:=HCH1.out.ich h4
      refine ⟨⟨k+1,HLT.out,.slice A2 Ls.length c2,?_,hch5,HIC1.out.trans h4.or,by have h5:=h4.ch.size;have h6:=HBW1.out;simp at h5 ⊢;omega⟩,?_⟩
      · rw [← HLK.out]
        exact HI3.out.setRow hcs (heap_set_row HI3.out.row _)
      · rw [hch5.left,HL0.out,List.length_drop]
        have:=HLT.out;omega
    · obtain rfl:k=La.length:=by omega
      rw [List.drop_length] at hch
      rw [List.take_length] at hi
      obtain ⟨s1,r1,hcw⟩:=hch.none
      refine wpN_seqN (wpN_region ?_)
      show opsN _ _ _ [0,1] _ _
      refine opsN_comm (o:=⟨some 7,_,_,_,_,_⟩) (cases:=#[Go.Conc.rcase C (.slice none 0 0)]) (shape:=.recv true) (v:=.tuple #[.slice none 0 0,.bool false]) (w1:=W) (w2:=W) rfl (by kernel_rfl) (by go_simp;rfl) (fun fr cs es h=>Go.Conc.step_lone_recv_shut true h hcw) ?_
      simp only [Act.put,List.setIfInBounds_toArray,List.set_cons_succ,List.set_cons_zero]
      refine opsN_value (o:=⟨some 8,_,_,_,_,_⟩) (v:=.bool false) (w':=W) rfl (by kernel_rfl) (by go_simp) ?_
      simp only [Act.put,List.setIfInBounds_toArray,List.set_cons_succ,List.set_cons_zero]
      refine opsN_nil ?_
      show wpN _ _ _ _ _
      refine wpN_of ?_
      have HI:=hid hi
      have HIC:=hid hic
      clear hi hic hch hcw hbw
      go_wp2_with (fail)
      go_end0
      exact ⟨va',rfl,HI.out,HIC.out⟩
end
end
section
open Go.RowKit Go.MapKept
structure InR where
  r:Int ⊕ Int
  d:Dk
  fs:Fs
  T:List (List UInt8)
  g:Nat
  kp:Nat
  La:List (List UInt8)
def feedM (d:Dk) (fs:Fs) (T:List (List UInt8)) (g kp:Nat) (La:List (List UInt8)):List (List UInt8)→InR
  | []=>⟨.inl 0,d,fs,T,g,kp,La⟩
  | m :: r=>match (keepD d fs g m).1 with
    | .inr op=>⟨.inr op,(keepD d fs g m).2.1,(keepD d fs g m).2.2,T,g,kp,La⟩
    | .inl x=>feedM (keepD d fs g m).2.1 (keepD d fs g m).2.2 (if x=0 then T++[m] else T) (if x=0 then g+(record m).length else g) (if x=0 then kp+1 else kp) (La++ansD m (.inl x)) r
theorem ansD_len (m:List UInt8) (r:Int ⊕ Int):(ansD m r).length≤1:=by
  unfold ansD
  split
  · split <;> simp
  · simp
theorem RowsAt.sub {B:Nat} {S S':Nat→Prop} {w:World} {v:Value} {L:List (List UInt8)} (h:RowsAt B S w v L) (hS:∀ k,B≤k→k<w.heap.size→S' k→S k):RowsAt B S' w v L:=by
  obtain ⟨gs,hl,ho,hv,hg⟩:=h
  refine ⟨gs,hl,ho,fun k hk hs=>?_,fun i g x h1 h2=>?_⟩
  · have:=World.ownsRow.lt ho k hk
    exact hv k hk (hS k this.1 this.2 hs)
  · obtain ⟨a,b,c⟩:=hg i g x h1 h2
    exact ⟨a,fun hs=>b (hS g a (Array.getElem?_eq_some_iff.1 c).1 hs),c⟩
theorem RowsAt.get {B:Nat} {S:Nat→Prop} {w:World} {A:Option Addr} {n c:Nat} {L:List (List UInt8)} (h:RowsAt B S w (.slice A n c) L) (hx:∀ x ∈ L,x.length≤maxLen) {i:Nat} (hi:i<L.length) :
    ∃ b g,A=some ⟨b,0,none⟩∧w.cell? ⟨b,i,none⟩=some (bv g L[i])∧Bs w (some ⟨g,0,none⟩) L[i].length L[i].length L[i]∧¬ S g:=by
  obtain ⟨gs,hl,ho,_,hg⟩:=h
  rcases ho.2 with ⟨e,h0⟩|⟨g,cap,cur,e,h1,h2,h3,h4,h5,h6⟩
  · injection e;omega
  · injection e with e1 e2 e3
    have hgl:i<gs.length:=by rw [hl];exact hi
    obtain ⟨_,hs,hr⟩:=hg i gs[i] L[i] (List.getElem?_eq_getElem hgl) (List.getElem?_eq_getElem hi)
    refine ⟨g,gs[i],e1,?_,Bs.block hr rfl (hx _ (List.getElem_mem hi)),hs⟩
    rw [cell_of_row w g i cur _ _ h2]
    have e:(cur.toList.take (L.length*1))[i]?=(List.zipWith bv gs L)[i]?:=by rw [h6]
    rw [Nat.mul_one,List.getElem?_take,if_pos hi,List.getElem?_zipWith,List.getElem?_eq_getElem hgl,List.getElem?_eq_getElem hi] at e
    simpa using e
theorem ICh.dropC {A A':Nat→Prop} {w w1 w':World} {C:Nat} (h:ICh (fun k=>A k∨k=C) (fun k=>A' k∨k=C) w1 w') (hb:Below w.heap.size w w1) (hC:w.heap.size≤C):ICh A A' w w' :=
  ⟨(Ch.of_below hb).trans h.ch (fun k hk hs=>hs.resolve_right (fun e=>by omega)),fun k hk=>by
    rcases h.foot k (.inl hk) with (h1|h1)|h1
    · exact .inl h1
    · exact .inr (by omega)
    · exact .inr (Nat.le_trans hb.size h1)⟩
section
variable {Z Z':Nat→Prop} {w w':World} {B D M L Q X g sn kp most:Nat} {O O':Option Nat} {d:Dk} {F:List Ent} {T:List (List UInt8)} {v va:Value} {s:St} {an:List (List UInt8)}
theorem IB.less (h:IB Z w B D M L Q X O d F T g v most s va an sn kp) (hZ:∀ k,Z' k→Z k):IB Z' w B D M L Q X O d F T g v most s va an sn kp:=h.addZ (Below.refl _ _) (fun k hk=>.inl (hZ k hk))
theorem ICh.of_mv (m:Mv Q O O' w w'):ICh (FI L D M Q X O F v va) (FI L D M Q X O' F v va) w w' :=
  .wide m.1 (R':=dS Q O') (fun k hk=>by
    rcases hk with hk|hk
    · exact .inl (.inl hk)
    · rcases Nat.lt_or_ge k w.heap.size with h1|h1
      · exact .inl (.inr (m.2 k hk.symm h1).symm)
      · exact .inr h1) (fun k hk=>.inr (.inl hk)) (fun k hk=>by
    rcases hk with h1|h1|h1|h1
    · exact .inl (.inl h1)
    · exact .inr h1
    · exact .inl (.inr (.inr (.inl h1)))
    · exact .inl (.inr (.inr (.inr h1))))
def endF:Int ⊕ Int→Ending
  | .inl _=>.returned (.int .i64 0)
  | .inr op=>.panicked [{ v:=crashI op,recovered:=false }]
def FPost (Z:Nat→Prop) (B D M L Q X:Nat) (O:Option Nat) (F:List Ent) (v:Value) (most:Nat) (s:St) (va:Value) (an:List (List UInt8)) (sn:Nat) (w:World) (R:InR) (e:Ending) (w':World):Prop :=
  ∃ F' v' va' O',e=endF R.r∧fsOf F'=R.fs∧IB Z w' B D M L Q X O' R.d F' R.T R.g v' most s va' (an++R.La) (sn+R.La.length) R.kp∧ICh (FI L D M Q X O F v va) (FI L D M Q X O' F' v' va') w w'
theorem makeCh:∃ i:TypeInfo,Tryz.prog.info? 40=some i∧i.bytes=24:=by
  obtain ⟨i,hi,hzz⟩:=Option.map_eq_some_iff.1 rowsInfo
  refine ⟨i,hi,?_⟩
  simp only [Prod.mk.injEq] at hzz
  exact hzz.2.2
theorem make_chan (n:Nat) (hn:n≤1000000000) (w:World):(Instr.makeChan TCH (.int .i64 n)).run Tryz.prog w=.ok (.chan (some w.heap.size)) (w.alloc (.chan n #[] false 0 0 false)):=by
  obtain ⟨i,hi,hb⟩:=makeCh
  exact Go.Conc.run_makeChan Tryz.underlying101 hi .i64 n (by omega) (by rw [hb];omega)
end
end
section
open Go.RowKit Go.MapKept
def FSt (Z:Nat→Prop) (B D M L Q X:Nat) (O:Option Nat) (d:Dk) (F:List Ent) (T:List (List UInt8)) (g:Nat) (v:Value) (most:Nat) (s:St) (va:Value) (an:List (List UInt8)) (sn kp C N:Nat) (Ms:List (List UInt8)) (R:InR) (w:World) (k:Nat) (W:World):Prop :=
  ∃ d' F' T' g' kp' La' v',R=feedM d' (fsOf F') T' g' kp' La' (Ms.drop k)∧IB Z W B D M L Q X O d' F' T' g' v' most s va an sn kp'∧CH false W C N La' (FI L D M Q X O F' v' va) Z ∧
    ICh (fun k=>FI L D M Q X O F v va k∨k=C) (fun k=>FI L D M Q X O F' v' va k∨k=C) w W∧La'.length≤k∧FsOk d' (fsOf F')∧d'.ops≤d.ops+3*k∧g'≤g+29008*k∧T'.length≤T.length+k∧kp'≤kp+k
section
variable {Z:Nat→Prop} {w:World} {B D M L Q X g sn kp most:Nat} {O:Option Nat} {d:Dk} {F:List Ent} {T:List (List UInt8)} {v va:Value} {s:St} {an:List (List UInt8)}
theorem if_inl {α:Type} (x:Int) (a b:α):(if (Sum.inl x:Int ⊕ Int)=.inl 0 then a else b)=if x=0 then a else b:=by
  by_cases hx:x=0 <;> simp [hx]
theorem feed_fin {w1 w3 W w':World} {C g' kp':Nat} {F':List Ent} {v':Value} {O1:Option Nat} {d':Dk} {T' La':List (List UInt8)} {e:Ending} (h1:ICh (FI L D M Q X O F v va) (FI L D M Q X O1 F v va) w w1) (hb:Below C w1 w3) (hC:C=w1.heap.size)
    (hic:ICh (fun k=>FI L D M Q X O1 F v va k∨k=C) (fun k=>FI L D M Q X O1 F' v' va k∨k=C) w3 W) (hco:CoPost (fun k=>Z k∨k=C) B D M L Q X O1 d' F' T' g' v' most s va an sn kp' C La' W e w') (r:Int ⊕ Int) :
    FPost Z B D M L Q X O F v most s va an sn w ⟨r,d',fsOf F',T',g',kp',La'⟩ (endF r) w':=by
  obtain ⟨va',_,hi,hc⟩:=hco
  subst hC
  exact ⟨F',v',va',O1,rfl,rfl,hi.less (fun k hk=>.inl hk),h1.trans ((hic.trans hc).dropC hb (Nat.le_refl _))⟩
set_option maxRecDepth 100000 in
set_option maxHeartbeats 8000000 in
theorem mFeed (h : IB Z w B D M L Q X O d F T g v most s va an sn kp) (A : Option Addr) (n c Mx : Nat) (l : List UInt8) (hl : Bs w A n c l) (hoff : 0 < n → ∀ b, A = some b → ¬ FI L D M Q X O F v va b.block) (hm : most ≤ 29000) (up : St.Up most Mx s) (hM : Mx + n ≤ 1099511627776) (hn : n ≤ 1000000)
    (hG : ∀ W, Below B w W → Vers W ∧ Signs W ∧ Cds W) (ok : FsOk d (fsOf F)) (ho : d.ops + 3 * n + 8 ≤ 1152921504606846976) (hg : g + 29008 * n ≤ 1099511000000) (hT : T.length + n ≤ 1099511627770) (hkp : kp + n ≤ 1099511627770) (hsn : sn + n ≤ 1099511627770) (han : an.length + n ≤ 1099511627770) (hBw : B ≤ w.heap.size) :
    Calls Tryz.prog 16 #[pI X, .slice A n c] w (FPost Z B D M L Q X O F v most (feedD most s l).1 va an sn w (feedM d (fsOf F) T g kp [] (feedD most s l).2)) := by
  have hmf : ∀ (fn : Fn) (first cap : Array Value) (w : World), (Instr.makeFunc fn first cap).run Tryz.prog w = .ok (.func fn first cap) w := fun _ _ _ _ => rfl
  have hb0 : Below w.heap.size w (w.alloc (.cells #[pI X] TPI)) := (Below.refl _ w).alloc (Nat.le_refl _) _
  have HB0 := Lib.hid hb0
  have HX0 : Hid ((w.alloc (.cells #[pI X] TPI)).heap[w.heap.size]? = some (.cells #[pI X] TPI)) := Lib.hid (heap_alloc_new w _)
  have HI0 := Lib.hid (h.below hb0)
  have c00 := (h.below hb0).cell 0
  simp only [List.getElem?_toArray, List.getElem?_cons_zero] at c00
  have HL0 := Lib.hid (hl.below hb0)
  have HFL : Hid (∀ k, FI L D M Q X O F v va k → k < w.heap.size) := Lib.hid (fun k hk => (h.foot_lt hk).2)
  have HOFF := Lib.hid hoff
  have HM := Lib.hid hm
  have UP := Lib.hid up
  have HMX := Lib.hid hM
  have HN := Lib.hid hn
  have HG := Lib.hid hG
  have OK := Lib.hid ok
  have HO := Lib.hid ho
  have HGG := Lib.hid hg
  have HT := Lib.hid hT
  have HKP := Lib.hid hkp
  have HSN := Lib.hid hsn
  have HAN := Lib.hid han
  have HBW := Lib.hid hBw
  have HLN := Lib.hid hl.len
  have HFB : Hid (∀ k, FI L D M Q X O F v va k → B ≤ k) := Lib.hid (fun k hk => (h.foot_lt hk).1)
  obtain ⟨s1, hs1⟩ : ∃ s1, s1 = (feedD most s l).1 := ⟨_, rfl⟩
  obtain ⟨Ms, hMs⟩ : ∃ Ms, Ms = (feedD most s l).2 := ⟨_, rfl⟩
  obtain ⟨R, hR⟩ : ∃ R, R = feedM d (fsOf F) T g kp [] Ms := ⟨_, rfl⟩
  have HR := Lib.hid hR
  have HS1 := Lib.hid hs1
  have HMS := Lib.hid hMs
  have hmn : Ms.length ≤ n := by
    have := feed_len most s l l.length (Nat.le_refl _)
    rw [List.take_length, ← hMs, hl.len] at this
    exact this
  have HSH : Hid (∀ x ∈ Ms, x.length ≤ 29000) := Lib.hid (fun x hx => by
    have := feed_short up l l.length (Nat.le_refl _) x (by rw [List.take_length, ← hMs]; exact hx)
    omega)
  rw [← hMs, ← hR, ← hs1]
  have HMN := Lib.hid hmn
  clear hR hs1 hMs hmn
  clear h hl hoff hm up hM hn hG ok ho hg hT hkp hsn han hBw hb0
  go_enter_defers Tryz.func16, Tryz.ntmps16
  go_wp2_with (fail)
  refine (dFeed B Q O most Mx s _ HI0.out.df (Nat.le_trans HBW.out HB0.out.size) (by have := HM.out; omega) UP.out A n c l HL0.out (fun h0 b hb hs => HOFF.out h0 b hb (.inr (.inl hs))) HMX.out).mono ?_
  rintro e w1 ⟨vm, O1, rfl, hr, hd, hmv⟩
  rw [← HMS.out] at hr
  rw [← HS1.out] at hd
  have HI1 := Lib.hid (HI0.out.dfm hmv hd)
  have HIC01 : Hid (ICh (FI L D M Q X O F v va) (FI L D M Q X O1 F v va) (w.alloc (.cells #[pI X] TPI)) w1) := Lib.hid (.of_mv hmv)
  have HIC1 : Hid (ICh (FI L D M Q X O F v va) (FI L D M Q X O1 F v va) w w1) := Lib.hid ((ICh.of_below HB0.out).trans (.of_mv hmv))
  obtain ⟨Am, cm, rfl, hrd⟩ := hr.rd (fun x hx => by have := HSH.out x hx; simp only [maxLen]; omega)
  have HMR := Lib.hid hr
  have hcm := hrd.2.1
  have hcm2 := hrd.nmax
  obtain ⟨N, hN⟩ : ∃ N, N = Ms.length := ⟨_, rfl⟩
  rw [← hN] at HMR HMN hcm hcm2 ⊢
  have HNE := Lib.hid hN
  have hmc := make_chan N (by have := HMN.out; have := HN.out; omega)
  have cb : w1.cell? ⟨w.heap.size, 0, none⟩ = some (pI X) := by
    have := hmv.1.row HX0.out (fun hk => by
      have := HFL.out w.heap.size (.inr (.inl hk)); omega)
    rw [cell_of_row w1 w.heap.size 0 _ _ _ this]; rfl
  have HXB : Hid (w1.heap[w.heap.size]? = some (.cells #[pI X] TPI)) := Lib.hid (hmv.1.row HX0.out (fun hk => by
      have := HFL.out w.heap.size (.inr (.inl hk)); omega))
  have hbA : Below w1.heap.size w1 (w1.alloc (.chan N #[] false 0 0 false)) := (Below.refl _ _).alloc (Nat.le_refl _) _
  have hbB : Below w1.heap.size w1 ((w1.alloc (.chan N #[] false 0 0 false)).alloc (.cells #[.chan (some w1.heap.size)] TCH)) := hbA.alloc hbA.size _
  have HXB3 := Lib.hid ((Ch.of_below (S := fun _ => False) hbB).row HXB.out (fun h => h))
  have HBB := Lib.hid hbB
  have cb3 := cell_of_row _ w.heap.size 0 _ _ _ HXB3.out
  simp only [List.getElem?_toArray, List.getElem?_cons_zero] at cb3
  clear hr hd hmv hrd hN c00 HI0 hbA hbB
  have HZ3 : Hid (IB (fun k => Z k ∨ k = w1.heap.size) ((w1.alloc (.chan N #[] false 0 0 false)).alloc (.cells #[.chan (some w1.heap.size)] TCH)) B D M L Q X O1 d F T g v most s1 va an sn kp) := Lib.hid (HI1.out.addZ HBB.out (fun k hk => hk.imp id (fun e => ⟨by omega, by rw [e]; simp; omega⟩)))
  have HFL1 : Hid (∀ k, FI L D M Q X O1 F v va k → B ≤ k ∧ k < w1.heap.size) := Lib.hid (fun k hk => HI1.out.foot_lt hk)
  have HCH3 : Hid (CH false ((w1.alloc (.chan N #[] false 0 0 false)).alloc (.cells #[.chan (some w1.heap.size)] TCH)) w1.heap.size N [] (FI L D M Q X O1 F v va) (fun k => Z k ∨ k = w1.heap.size)) := Lib.hid ((CH.new w1 N _ (fun k hk => (HFL1.out k hk).2)).below ((Below.refl _ _).alloc (Nat.le_refl _) _))
  have HBA3 : Hid (((w1.alloc (.chan N #[] false 0 0 false)).alloc (.cells #[.chan (some w1.heap.size)] TCH)).heap[w1.heap.size + 1]? = some (.cells #[.chan (some w1.heap.size)] TCH)) := Lib.hid (by
    have := heap_alloc_new (w1.alloc (.chan N #[] false 0 0 false)) (.cells #[.chan (some w1.heap.size)] TCH)
    simpa using this)
  have HMR3 : Hid (RowsAt (w.alloc (.cells #[pI X] TPI)).heap.size (fun k => FI L D M Q X O1 F v va k ∨ k = w1.heap.size) ((w1.alloc (.chan N #[] false 0 0 false)).alloc (.cells #[.chan (some w1.heap.size)] TCH)) (.slice Am N cm) Ms) := Lib.hid ((HMR.out.sub (fun k h1 h2 hk => by
    have h3 : w.heap.size < k := by have : (w.alloc (.cells #[pI X] TPI)).heap.size = w.heap.size + 1 := by simp
                                    omega
    rcases hk with (hk | hk | hk | hk) | hk
    · have := HFL.out k (.inl hk); omega
    · exact hk
    · have := HFL.out k (.inr (.inr (.inl hk))); omega
    · have := HFL.out k (.inr (.inr (.inr hk))); omega
    · omega)).below HBB.out)
  have HBL3 : Hid (Below B w ((w1.alloc (.chan N #[] false 0 0 false)).alloc (.cells #[.chan (some w1.heap.size)] TCH))) := Lib.hid ((HIC1.out.ch.below HFB.out HBW.out).trans (HBB.out.mono (Nat.le_trans HBW.out HIC1.out.ch.size)))
  have HBX : Hid (w.heap.size < w1.heap.size) := Lib.hid (Array.getElem?_eq_some_iff.1 HXB.out).1
  have HBXF : Hid (¬ (FI L D M Q X O1 F v va w.heap.size ∨ w.heap.size = w1.heap.size)) := Lib.hid (fun hk => by
    have := HBX.out
    have hz := HB0.out.size
    rcases hk with hk | hk
    · rcases HIC01.out.foot _ hk with h1 | h1
      · have := HFL.out _ h1; omega
      · simp at h1; omega
    · omega)
  clear HB0 HX0 HXB HI1 HMR UP HOFF HMX HL0 HIC01
  go_wp2_with (fail)
  clear cb cb3 hmc hmf
  obtain ⟨Cc, hC⟩ : ∃ Cc, Cc = w1.heap.size := ⟨_, rfl⟩
  obtain ⟨BX, hBX⟩ : ∃ BX, BX = w.heap.size := ⟨_, rfl⟩
  have HSZ1 : Hid ((w.alloc (.cells #[pI X] TPI)).heap.size = BX + 1) := Lib.hid (by rw [hBX]; simp)
  rw [← hC] at HZ3 HCH3 HBA3 HMR3 HBXF HBX HBL3 HBB HXB3
  rw [← hC, ← hBX]
  rw [← hBX] at HXB3 HBXF HBX
  generalize hW3 : (w1.alloc (.chan N #[] false 0 0 false)).alloc (.cells #[.chan (some Cc)] TCH) = w3 at *
  have HCW : Hid (w.heap.size ≤ Cc) := Lib.hid (by rw [← hBX]; have := HBX.out; omega)
  have HCE := Lib.hid hC
  have HBE := Lib.hid hBX
  clear hW3 hC hBX
  go_loopw [10, 33, 34, 35, 36, 37, 38, 39, 40] (fun _ i _ _ _ _ _ _ _ wr => ∃ k : Nat, i = .int .i64 k ∧ k ≤ N ∧ FSt (fun k => Z k ∨ k = Cc) B D M L Q X O1 d F T g v most s1 va an sn kp Cc N Ms R w3 k wr) (fun _ i _ _ _ _ _ _ _ _ => N - (intOf i).toNat)
  case atStart =>
    refine ⟨0, rfl, Nat.zero_le _, d, F, T, g, kp, [], v, HR.out, HZ3.out, HCH3.out, .of_below (Below.refl _ _), Nat.le_refl _, OK.out, by omega, by omega, by omega, by omega⟩
  case round =>
    obtain ⟨wo, rfl⟩ : ∃ wo : World, wo = wr := ⟨_, rfl⟩
    obtain ⟨k, rfl, hk, d', F', T', g', kp', La', v', hRR, hi, hch, hic, hla, hok, hops, hgg, htt, hkk⟩ := hrel
    by_cases hlt : k < N
    · have hkm : k < Ms.length := by have := HNE.out; omega
      have hdr : Ms.drop k = Ms[k] :: Ms.drop (k + 1) := List.drop_eq_getElem_cons hkm
      have hmr := HMR3.out.ch (S' := fun k => FI L D M Q X O1 F' v' va k ∨ k = Cc) hic.ch (fun j hj hs => (hic.foot j hs).resolve_right (by omega))
      obtain ⟨b, gb, rfl, cg, hbm, hnb⟩ := hmr.get (fun x hx => by have := HSH.out x hx; simp only [maxLen]; omega) hkm
      have hml := HSH.out _ (List.getElem_mem hkm)
      obtain ⟨m, hm⟩ : ∃ m, m = Ms[k] := ⟨_, rfl⟩
      have HME := Lib.hid hm
      rw [← hm] at hdr cg hbm hml
      clear hm
      rw [hdr] at hRR
      have hbl : Below B w3 wo := hic.ch.below (fun j hj => by
        rcases hj with hj | hj
        · exact (HFL1.out j hj).1
        · have := HBW.out; have := HCW.out; omega) (Nat.le_trans HBW.out HBL3.out.size)
      have hba := hic.ch.row HBA3.out (fun hk => by
        rcases hk with hk | hk
        · have := (HFL1.out _ hk).2; have := HCE.out; omega
        · omega)
      have HD := Lib.hid (mDone hi Cc N La' (.inr rfl) hch (by omega) BX (Cc + 1) (hic.ch.row HXB3.out HBXF.out) hba (fun hk => by
        rcases hic.foot _ (.inl hk) with (h1 | h1) | h1
        · have := (HFL1.out _ h1).2; have := HCE.out; omega
        · omega
        · have := (Array.getElem?_eq_some_iff.1 HBA3.out).1; omega) (fun W hb => HG.out W ((HBL3.out.trans hbl).trans hb)) hok (by have := HO.out; have := HMN.out; omega) (some ⟨gb, 0, none⟩) m.length m hbm hml (fun _ b hb hf => hnb (.inl (by injection hb with hb; rw [← hb] at hf; exact hf))) (by have := HGG.out; have := HMN.out; omega) (by have := HT.out; have := HMN.out; omega) (Nat.le_trans (Nat.le_trans HBW.out HBL3.out.size) hbl.size) (by have := HKP.out; have := HMN.out; omega))
      have e1 : (k : Int) < (N : Int) := by omega
      have HIC := Lib.hid hic
      have HRR := Lib.hid hRR
      have HOK := Lib.hid (keepD_ok hok (by have := HO.out; have := HMN.out; omega) g' m)
      have HLA := Lib.hid hla
      have HOP := Lib.hid hops
      have HG2 := Lib.hid hgg
      have HT2 := Lib.hid htt
      have HK2 := Lib.hid hkk
      have HML := Lib.hid hml
      have HFL2 : Hid (∀ j, FI L D M Q X O1 F' v' va j → B ≤ j) := Lib.hid (fun j hj => (hi.foot_lt hj).1)
      clear hi hch hic hbl hba hmr hbm hnb hdr hRR hok hops hgg htt hkk hla hml
      go_wp2_with (fail)
      refine HD.out.mono ?_
      rintro e w2 ⟨F2, v2, he, hf2, hi2, hic2, hch2⟩
      have hst : feedM d' (fsOf F') T' g' kp' La' (m :: Ms.drop (k + 1)) = match (keepD d' (fsOf F') g' m).1 with
        | .inr op => ⟨.inr op, (keepD d' (fsOf F') g' m).2.1, (keepD d' (fsOf F') g' m).2.2, T', g', kp', La'⟩
        | .inl x => feedM (keepD d' (fsOf F') g' m).2.1 (keepD d' (fsOf F') g' m).2.2 (if x = 0 then T' ++ [m] else T') (if x = 0 then g' + (record m).length else g') (if x = 0 then kp' + 1 else kp') (La' ++ ansD m (.inl x)) (Ms.drop (k + 1)) := rfl
      have hrr := HRR.out
      have hok2 := HOK.out
      rw [hst] at hrr
      have HLN : Hid ((La' ++ ansD m (keepD d' (fsOf F') g' m).1).length ≤ k + 1) := Lib.hid (by have := ansD_len m (keepD d' (fsOf F') g' m).1; have := HLA.out; rw [List.length_append]; omega)
      clear HRR HD hst HOK cg
      generalize keepD d' (fsOf F') g' m = r at *
      obtain ⟨x | op, d2, fs2⟩ := r
      · obtain rfl : e = .returned (.tuple #[]) := he
        simp only [if_inl] at hi2
        have HR2 := Lib.hid hrr
        have HI2 := Lib.hid hi2
        have HIC2 := Lib.hid (HIC.out.trans hic2)
        have HCH2 := Lib.hid hch2
        have HF2 := Lib.hid hf2
        have HOK2 := Lib.hid hok2
        clear hrr hi2 hic2 hch2 hf2 hok2
        go_wp2_with (fail)
        refine ⟨⟨k + 1, by go_num, by omega, d2, F2, _, _, _, _, v2, by rw [HF2.out]; exact HR2.out, HI2.out, HCH2.out, HIC2.out, HLN.out, by rw [HF2.out]; exact HOK2.out.1, ?_, ?_, ?_, ?_⟩, by simp [intOf]; omega⟩
        · have h1 : d2.ops ≤ d'.ops + 3 := HOK2.out.2
          have := HOP.out; omega
        · have h1 := record_length m; have := HML.out; have := HG2.out; split <;> omega
        · have := HT2.out; split <;> (try rw [List.length_append, List.length_singleton]) <;> omega
        · have := HK2.out; split <;> omega
      · obtain rfl : e = .panicked [{ v := crashI op, recovered := false }] := he
        have hn0 : ¬ ((.inr op : Int ⊕ Int) = .inl 0) := fun e => by cases e
        simp only [if_neg hn0] at hi2
        rw [show ansD m (.inr op) = [] from rfl, List.append_nil] at hch2
        have hr : R = ⟨.inr op, d2, fs2, T', g', kp', La'⟩ := hrr
        subst hf2
        subst hr
        refine leaves_cons (f := 51) (args := #[pI X, .chan (some Cc)]) (by simp) (by simp [go_sem]) ?_
        refine (mCollect hi2 Cc N La' (.inr rfl) hch2 _ (by have := HSN.out; have := HLA.out; have := HMN.out; omega) (by have := HAN.out; have := HLA.out; have := HMN.out; omega) (by have h1 := HBW.out; have h2 := HBL3.out.size; have h3 := HIC.out.ch.size; have h4 := hic2.ch.size; omega)).mono ?_
        rintro e u' w3' ⟨rfl, hco⟩
        have hc9 := hco
        obtain ⟨_, rfl, _⟩ := hc9
        exact feed_fin HIC1.out HBB.out HCE.out (HIC.out.trans hic2) hco (.inr op)
    · obtain rfl : k = N := by omega
      rw [HNE.out, List.drop_length] at hRR
      have hr : R = ⟨.inl 0, d', fsOf F', T', g', kp', La'⟩ := hRR
      have HI := Lib.hid hi
      have HCH := Lib.hid hch
      have HIC := Lib.hid hic
      have HLA := Lib.hid hla
      subst hr
      clear hi hch hic hla hRR hok hops hgg htt hkk HR
      go_wp2_with (fail)
      refine leaves_cons (f := 51) (args := #[pI X, .chan (some Cc)]) (by simp) (by simp [go_sem]) ?_
      refine (mCollect HI.out Cc k La' (.inr rfl) HCH.out _ (by have := HSN.out; have := HLA.out; have := HMN.out; omega) (by have := HAN.out; have := HLA.out; have := HMN.out; omega) (by have h1 := HBW.out; have h2 := HBL3.out.size; have h3 := HIC.out.ch.size; omega)).mono ?_
      rintro e u' w3' ⟨rfl, hco⟩
      have hc9 := hco
      obtain ⟨_, rfl, _⟩ := hc9
      have hf := feed_fin HIC1.out HBB.out HCE.out HIC.out hco (.inl 0)
      simp [Leaves, settle, results, Tryz.results16, go_sem]
      exact hf
end
end
section
open Go.RowKit Go.MapKept
theorem Df.baseL {B B' D most:Nat} {O:Option Nat} {s:St} {w:World} (h:Df B' D O most s w) (hB:B≤B'):Df B D O most s w:=by
  obtain ⟨fv,e,hne,h1,ho,hd⟩:=h
  exact ⟨fv,e,hne,Nat.le_trans hB h1,⟨ho.1,ho.2.imp id (fun ⟨g,cap,cur,e,h1,h2⟩=>⟨g,cap,cur,e,Nat.le_trans hB h1,h2⟩)⟩,hd⟩
set_option maxRecDepth 100000
set_option maxHeartbeats 2000000
section
variable {Z:Nat→Prop} {w:World} {B D M L Q X g sn kp most:Nat} {O:Option Nat} {d:Dk} {F:List Ent} {T:List (List UInt8)} {v va:Value} {s:St} {an:List (List UInt8)}
theorem inNew (hd:DkAt w B D M d F) (hl:LgAt Z w B L D M F nmI T g v) (m:Nat) (h0:1≤m) (h1:m≤65536) (hBw:B≤w.heap.size) (hZ:∀ k,Z k→k<w.heap.size∧¬ LT L D M F k) :
    Calls Tryz.prog 33 #[pL L,.int .i64 m] w fun e w'=>∃ X Q,e=.returned (.tuple #[pI X,.int .i64 0])∧IB Z w' B D M L Q X none d F T g v m newS (.slice none 0 0) [] 0 0∧Below w.heap.size w w'∧w.heap.size≤X:=by
  have HD:=hid hd
  have HL:=hid hl
  have HBW:=hid hBw
  have HZ:=hid hZ
  clear hd hl hBw hZ
  go_enter Tryz.func33,Tryz.ntmps33
  go_wp2_with (fail)
  refine (dNew m h0 h1 w).mono ?_
  rintro e w1 ⟨Q,rfl,hdf,hb1⟩
  have HF:=hid hdf
  have HB1:=hid hb1
  clear hdf hb1
  go_wp2_with (fail)
  refine bodyPost_ret (v:=.tuple #[pI w1.heap.size,.int .i64 0]) (by simp [results,Tryz.results33,go_sem]) rfl ⟨w1.heap.size,Q,rfl,?_,HB1.out.alloc HB1.out.size _,HB1.out.size⟩
  have hb2:Below w1.heap.size w1 (w1.alloc (.cells (ibCells Q L (.slice none 0 0) 0 0) TIB)):=(Below.refl _ _).alloc (Nat.le_refl _) _
  have hq:w.heap.size≤Q∧Q<w1.heap.size:=⟨HF.out.base,HF.out.lt⟩
  have hd1:=HD.out.below HB1.out
  have hft:∀ k,WFoot L D M F v k→k<w.heap.size:=fun k hk=>(HL.out.foot_lt HD.out hk).2
  refine ⟨hd1.below hb2,?_,(HF.out.baseL HBW.out).below hb2,heap_alloc_new w1 _,Nat.le_trans HBW.out HB1.out.size,Rw.nil _ _ _,fun k hk hw=>?_,fun k hk=>?_⟩
  · refine ((HL.out.widen (fun k hk=>?_)).below HB1.out).below hb2
    rcases hk with hk|hk|(hk|hk)|hk
    · exact .inl hk
    · exact .inr (by have:=HB1.out.size;omega)
    · exact .inr (by omega)
    · cases hk
    · cases hk
  · have:=hft k hw
    rcases hk with hk|hk
    · omega
    · cases hk
  · obtain ⟨h3,h4⟩:=HZ.out k hk
    have:=HB1.out.size
    refine ⟨by simp;omega,by omega,fun hk2=>?_,h4⟩
    rcases hk2 with hk2|hk2
    · omega
    · cases hk2
theorem inSeen (h:IB Z w B D M L Q X O d F T g v most s va an sn kp):Calls Tryz.prog 29 #[pI X] w fun e w'=>e=.returned (.int .i64 (sn:Int))∧w'=w:=by
  have c:=h.cell 3
  simp only [List.getElem?_toArray,List.getElem?_cons_zero,List.getElem?_cons_succ] at c
  clear h
  go_enter Tryz.func29,Tryz.ntmps29
  go_wp2_with (fail)
  go_ret
  exact ⟨rfl,rfl⟩
theorem inKept (h:IB Z w B D M L Q X O d F T g v most s va an sn kp):Calls Tryz.prog 30 #[pI X] w fun e w'=>e=.returned (.int .i64 (kp:Int))∧w'=w:=by
  have c:=h.cell 4
  simp only [List.getElem?_toArray,List.getElem?_cons_zero,List.getElem?_cons_succ] at c
  clear h
  go_enter Tryz.func30,Tryz.ntmps30
  go_wp2_with (fail)
  go_ret
  exact ⟨rfl,rfl⟩
theorem inHeld (h:IB Z w B D M L Q X O d F T g v most s va an sn kp) (hf:s.fr.length≤1000000):Calls Tryz.prog 31 #[pI X] w fun e w'=>e=.returned (.int .i64 (heldD s:Int))∧w'=w:=by
  have c:=h.cell 0
  simp only [List.getElem?_toArray,List.getElem?_cons_zero] at c
  have HD:=hid (dHeld B Q O most s w h.df hf)
  clear h hf
  go_enter Tryz.func31,Tryz.ntmps31
  go_wp2_with (fail)
  refine HD.out.mono ?_
  rintro e w1 ⟨rfl,rfl⟩
  go_wp2_with (fail)
  go_ret
  exact ⟨rfl,rfl⟩
theorem inTake (h:IB Z w B D M L Q X O d F T g v most s va an sn kp):Calls Tryz.prog 19 #[pI X] w fun e w'=>e=.returned va∧IB Z w' B D M L Q X O d F T g v most s (.slice none 0 0) [] sn kp∧Rw B (fun k=>Z k∨FI L D M Q X O F v (.slice none 0 0) k) w' va an∧Ch (At1 X) w w':=by
  have c:=h.cell 2
  have f:=h.frozen 2
  simp only [List.getElem?_toArray,List.getElem?_cons_zero,List.getElem?_cons_succ] at c
  have H:=hid h
  clear h
  go_enter Tryz.func19,Tryz.ntmps19
  obtain ⟨Av,cv,rfl⟩:=H.out.an.form
  obtain ⟨na,hna⟩:∃ na,na=an.length:=⟨_,rfl⟩
  have HNA:=hid hna
  rw [← hna] at c H ⊢
  clear hna
  go_wp2_with (fail)
  go_ret
  obtain ⟨h1,h2⟩:=H.out.taken
  refine ⟨rfl,h1,?_,h2⟩
  exact (H.out.an.ch h2 (fun k _ hk=>.inr (.inl hk)) (fun k _ hk=>by
    rcases hk with hk|hk|hk|hk|hk
    · exact .inl hk
    · exact .inr (.inl hk)
    · exact .inr (.inr (.inl hk))
    · exact .inr (.inr (.inr hk))
    · cases hk))
theorem inReset (h:IB Z w B D M L Q X O d F T g v most s va an sn kp):Calls Tryz.prog 21 #[pI X] w fun e w'=>e=.returned (.tuple #[])∧∃ O',IB Z w' B D M L Q X O' d F T g v most (leaveS s) va an sn kp∧ICh (FI L D M Q X O F v va) (FI L D M Q X O' F v va) w w':=by
  have c:=h.cell 0
  simp only [List.getElem?_toArray,List.getElem?_cons_zero] at c
  have H:=hid h
  clear h
  go_enter Tryz.func21,Tryz.ntmps21
  go_wp2_with (fail)
  refine (dReset B Q O most s w H.out.df).mono ?_
  rintro e w1 ⟨rfl,O1,hd,hm⟩
  have HI:=hid (H.out.dfm hm hd)
  have HC:Hid (ICh (FI L D M Q X O F v va) (FI L D M Q X O1 F v va) w w1):=hid (.of_mv hm)
  clear hd hm c
  go_wp2_with (fail)
  go_end0
  exact ⟨rfl,O1,HI.out,HC.out⟩
end
end
end Go.Proofs.YtodjilljcjkacaaGreatDoor
