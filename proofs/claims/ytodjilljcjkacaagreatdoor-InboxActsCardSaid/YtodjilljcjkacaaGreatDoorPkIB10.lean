/- Laid together: Rk1, RefName. -/
import Derived.Test.YtodjilljcjkacaaGreatDoorPkIB9
import Derived.Deep.AppendLies
import Derived.Sort.Walk0
import Derived.BigQuiet

namespace Go.Proofs.YtodjilljcjkacaaGreatDoor
open Lib (hid)
section
open Go.RowKit Go.MapKept
theorem rfInfo:(Tryz.prog.info? TRF).map (fun i=>(i.zero,i.size,i.bytes))=some (some (.agg #[.string ⟨#[]⟩,.slice none 0 0,.int .i64 0]),3,48):=by kernel_rfl
theorem step_appR {ops:Array Oper} {o:Oper} {a:Act} {W:World} {K:Act→World→Prop} {Q:Exit→Act→World→Prop} {E:Prop} (hgd:o.guard=none) (s x:Operand) (t:TypeId)
    (ho:o.op=.call { callee:=.builtin .append,args:=#[s,x],argTypes:=#[t,t] }) (base:Nat) (ht:Tryz.prog.underlying t=some (.slice TRF))
    (v:Value) (n:Nat) (xs:List Value) (hs:a.eval s=v) (hown:W.ownsRow base TRF 3 v n xs) (cs:List Value) (c gx:Nat) (hcell:W.heap[gx]?=some (.cells cs.toArray TRF)) (hx:a.eval x=.slice (some ⟨gx,0,none⟩) 1 c) (hl:cs.length=3) (h1:∀ u ∈ cs,u.oneCell'=true)
    (h63:n+1≤1000000000) (hbase:base≤W.heap.size)
    (h:∀ g cap w',w'.ownsRow base TRF 3 (.slice (some ⟨g,0,none⟩) (n+1) cap) (n+1) (xs++cs)→W.grownBy w' v.ownBlock→(v.ownBlock=some g∨g=W.heap.size)→g<w'.heap.size→K (a.put o.dst (.slice (some ⟨g,0,none⟩) (n+1) cap)) w') :
    if Region.wanted o (yielded ops a.tmps)=true then Oper.wp Tryz.prog o a W K Q else E:=by
  obtain ⟨i,hi,hzz⟩:=Option.map_eq_some_iff.1 rfInfo
  simp only [Prod.mk.injEq] at hzz
  obtain ⟨hz,hsize,hby⟩:=hzz
  have hnews:∀ j u,cs[j]?=some u→W.cell? ((⟨gx,0,none⟩:Addr).add j)=some u:=by
    intro j u hj
    have hadd:(⟨gx,0,none⟩:Addr).add j=⟨gx,j,none⟩:=by unfold Addr.add;split <;> simp_all
    rw [hadd,cell_of_row _ _ _ _ _ _ hcell]
    simpa using hj
  have h2:(n+1)*48≤1000000000*48:=Nat.mul_le_mul_right 48 h63
  exact step_append_lies _ hgd s x t ho base TRF i (.agg #[.string ⟨#[]⟩,.slice none 0 0,.int .i64 0]) 3 48 ht hi hz hsize hby rfl (by decide) v n xs hs hown ⟨gx,0,none⟩ 1 c cs hx (by omega) hnews h1 (by decide) (by simp only [maxLen];omega) (by omega) hbase W.heap.size rfl h
theorem Ch.trim {S:Nat→Prop} {w w':World} (h:Ch (fun k=>S k∨w.heap.size≤k) w w'):Ch S w w':=⟨h.os,h.tape,h.output,h.size,fun k hk hn=>h.block k hk (fun hs=>hs.elim hn (fun h=>by omega))⟩
theorem set_two {α:Type} (A C:List α) (a0 a1 a2 b0 b1 b2:α) {m:Nat} (h:A.length=m) :
    ((((((A++(a0 :: a1 :: a2 :: b0 :: b1 :: b2 :: C)).set (m+3) a0).set (m+3+1) a1).set (m+3+2) a2).set m b0).set (m+1) b1).set (m+2) b2=A++(b0 :: b1 :: b2 :: a0 :: a1 :: a2 :: C):=by
  subst h
  have key:∀ (D:List α) (k:Nat) (x:α),(A++D).set (A.length+k) x=A++D.set k x:=by
    intro D k x
    rw [List.set_append,if_neg (by omega),Nat.add_sub_cancel_left]
  rw [key,show A.length+3+1=A.length+4 from rfl,key,show A.length+3+2=A.length+5 from rfl,key]
  have k0:=key (((((a0 :: a1 :: a2 :: b0 :: b1 :: b2 :: C).set 3 a0).set 4 a1).set 5 a2)) 0 b0
  rw [Nat.add_zero] at k0
  rw [k0,key,key]
  rfl
abbrev bl (a b:ByteArray):Bool:=Op.bytesLess a.toList b.toList
abbrev rfV (e:ByteArray × Fl) (d:Value):Value:=.agg #[.string e.1,d,.int .i64 (e.2.safe:Int)]
def PutsTo (L:Fs) (e:ByteArray × Fl) (L':Fs):Prop:=∃ Pl Ql,L=Pl++Ql∧L'=Pl++e :: Ql∧(∀ q ∈ Ql,bl e.1 q.1=true)∧(∀ y,Pl.getLast?=some y→bl e.1 y.1=false)
set_option maxHeartbeats 16000000 in
set_option maxRecDepth 100000 in
theorem rkPut {w:World} {B G:Nat} {E:Nat→Prop} {r:Rk} {L:Fs} {v:Value} {P:List Value} (h:RkAt w B G E r L v P) (e:ByteArray × Fl) (A5:Option Addr) (m5 c5:Nat) (hd:DvX (fun k=>RF G v k∨E k) w (.slice A5 m5 c5) e.2.bs) (hl:L.length≤1000000) (hBw:B≤w.heap.size) :
    Calls Tryz.prog 126 #[pR G,rfV e (.slice A5 m5 c5)] w fun x w'=>x=.returned (.tuple #[])∧∃ L' v' P',PutsTo L e L'∧RkAt w' B G E r L' v' P'∧Ch (RF G v) w w'∧(∀ k,v'.ownBlock=some k→v.ownBlock=some k∨w.heap.size≤k):=by
  obtain ⟨A,c,rfl,hc1,hc2⟩:=h.form
  have H:=hid h
  have HD:=hid hd
  have HL:=hid hl
  obtain ⟨wb,hwb⟩:∃ wb,wb=w.alloc (.cells #[.string e.1,.slice A5 m5 c5,.int .i64 (e.2.safe:Int)] TRF):=⟨_,rfl⟩
  have hbb:Below w.heap.size w (w.alloc (.cells #[.string e.1,.slice A5 m5 c5,.int .i64 (e.2.safe:Int)] TRF)):=(Below.refl _ w).alloc (Nat.le_refl _) _
  have HBB:=hid hbb
  have HZ:Hid ((w.alloc (.cells #[.string e.1,.slice A5 m5 c5,.int .i64 (e.2.safe:Int)] TRF)).heap[w.heap.size]?=some (.cells #[.string e.1,.slice A5 m5 c5,.int .i64 (e.2.safe:Int)] TRF)):=hid (heap_alloc_new w _)
  have HW:=hid (h.below hbb)
  clear h hd hl hbb hwb
  go_enter Tryz.func126,Tryz.ntmps126
  go_wp2_with (fail)
  obtain ⟨X,hX⟩:∃ X,X=w.heap.size:=⟨_,rfl⟩
  have HX:=hid hX
  rw [← hX] at HZ ⊢
  clear hX
  generalize w.alloc (.cells #[.string e.1,.slice A5 m5 c5,.int .i64 (e.2.safe:Int)] TRF)=wb at *
  obtain ⟨n,hn⟩:∃ n,n=L.length:=⟨_,rfl⟩
  have HN:=hid hn
  have c0:wb.cell? ⟨G,0,none⟩=some (.slice A L.length c):=HW.out.cell 0
  have z0:=cell_of_row _ X 0 _ _ _ HZ.out
  have z1:=cell_of_row _ X 1 _ _ _ HZ.out
  have z2:=cell_of_row _ X 2 _ _ _ HZ.out
  simp only [List.getElem?_toArray,List.getElem?_cons_zero,List.getElem?_cons_succ] at z0 z1 z2
  have HBA:Hid (Below wb.heap.size wb (wb.alloc (.cells #[.string e.1,.slice A5 m5 c5,.int .i64 (e.2.safe:Int)] TRF)).drew):=hid ((Below.refl _ _).alloc (Nat.le_refl _) _).drew
  have HWA:=hid (HW.out.below HBA.out)
  have HC:Hid ((wb.alloc (.cells #[.string e.1,.slice A5 m5 c5,.int .i64 (e.2.safe:Int)] TRF)).heap[wb.heap.size]?=some (.cells [.string e.1,.slice A5 m5 c5,.int .i64 (e.2.safe:Int)].toArray TRF)):=hid (heap_alloc_new wb _)
  have HOWN:=hid HWA.out.own
  have HSZ:Hid (B≤(wb.alloc (.cells #[.string e.1,.slice A5 m5 c5,.int .i64 (e.2.safe:Int)] TRF)).drew.heap.size):=hid (by have h1:=HBB.out.size;have h2:=HBA.out.size;omega)
  have HN1:Hid (n≤1000000):=hid (by rw [hn];exact HL.out)
  have HVN:Hid (∀ k,(Value.slice A n c).ownBlock=some k→k≠G):=hid (by rw [hn];exact fun k hk=>H.out.vne k hk)
  have HROW:Hid ((wb.alloc (.cells #[.string e.1,.slice A5 m5 c5,.int .i64 (e.2.safe:Int)] TRF)).drew.heap[G]?=some (rkObj (.slice A n c) r)):=hid (by rw [hn];exact HWA.out.row)
  have c0':(wb.alloc (.cells #[.string e.1,.slice A5 m5 c5,.int .i64 (e.2.safe:Int)] TRF)).cell? ⟨G,0,none⟩=some (.slice A n c):=cell_of_row _ G 0 _ _ _ HROW.out
  rw [← hn] at c0 HOWN
  have tok1:Hid True:=hid trivial
  clear hn
  go_region_law (first | (have _t:=tok1;refine step_appR rfl (.tmp 10) (.tmp 12) TRL rfl B Tryz.underlying33 (.slice A n c) n (rfsC L P) rfl HOWN.out [.string e.1,.slice A5 m5 c5,.int .i64 (e.2.safe:Int)] _ wb.heap.size HC.out rfl rfl (by intro u hu;simp only [List.mem_cons,List.not_mem_nil,or_false] at hu;rcases hu with rfl | rfl | rfl <;> rfl) (by have:=HN1.out;omega) HSZ.out ?_;intro gO cO w5 ho5 hg5 hat5 hlt5;have HO5:=hid ho5;have HG5:=hid hg5;have HW5:Hid (w5.heap[G]?=some (rkObj (.slice A n c) r)):=hid ((Ch.of_grown (S:=fun k=>k≠G) hg5 (fun k hk=>HVN.out k hk)).row HROW.out (fun h=>h rfl));have s4:w5.cell? ⟨G,0,none⟩=some (.slice A n c):=cell_of_row _ G 0 _ _ _ HW5.out;have t4:w5.frozen? ⟨G,0,none⟩=false:=frz HW5.out;have HAT:=hid hat5;clear tok1 _t ho5 hg5 hat5))
  all_goals
    obtain ⟨v1,hv1⟩:∃ v1:Value,v1=.slice (some ⟨gO,0,none⟩) (n+1) cO:=⟨_,rfl⟩
    have HV1:=hid hv1
    have HR6:Hid ((w5.setCell ⟨G,0,none⟩ (.slice (some ⟨gO,0,none⟩) (n+1) cO)).heap[G]?=some (rkObj (.slice (some ⟨gO,0,none⟩) (n+1) cO) r)):=hid (heap_set_row HW5.out _)
    have HGO:Hid (gO≠G):=hid (by
      rintro rfl
      obtain ⟨cur,hcur⟩:=own3_ty HO5.out gO rfl
      rw [HW5.out] at hcur
      simp only [Option.some.injEq,Obj.cells.injEq] at hcur
      exact absurd hcur.2.1 (by decide))
    have HO6:Hid ((w5.setCell ⟨G,0,none⟩ (.slice (some ⟨gO,0,none⟩) (n+1) cO)).ownsRow B TRF 3 (.slice (some ⟨gO,0,none⟩) (n+1) cO) (n+1) (rfsC (L++[e]) (P++[.slice A5 m5 c5]))):=hid (by
      rw [rfsC_app _ _ H.out.len]
      refine own3_ch (S:=At1 G) (by simpa [rfsC] using HO5.out) ((Ch.refl _ _).set1 0 _) (fun k hk=>?_)
      simp only [Value.ownBlock,Option.some.injEq] at hk
      subst hk
      exact HGO.out)
    have HS6:Hid (Ch (fun k=>RF G (.slice A n c) k∨w.heap.size≤k) w (w5.setCell ⟨G,0,none⟩ (.slice (some ⟨gO,0,none⟩) (n+1) cO))):=hid (by
      have h1:Ch (fun k=>RF G (.slice A n c) k∨w.heap.size≤k) w (wb.alloc (.cells #[.string e.1,.slice A5 m5 c5,.int .i64 (e.2.safe:Int)] TRF)).drew:=Ch.of_below (HBB.out.trans (HBA.out.mono HBB.out.size))
      have h2:=h1.trans (Ch.of_grown (S:=fun k=>(Value.slice A n c).ownBlock=some k) HG5.out (fun k hk=>hk)) (fun k _ hk=>.inl (.inr hk))
      exact h2.set (a:=⟨G,0,none⟩) (.inl (.inl rfl)) _)
    have HGF:Hid ((Value.slice A n c).ownBlock=some gO∨w.heap.size≤gO):=hid (HAT.out.imp id (fun h=>Nat.le_trans (Nat.le_trans HBB.out.size HBA.out.size) (Nat.le_of_eq h.symm)))
    have HCO:Hid (n+1≤cO∧cO≤maxLen):=hid (by
      rcases HO5.out.2 with ⟨h0,_⟩|⟨g',cap',cur',hv',_,_,h3,h4,_⟩
      · cases h0
      · injection hv' with _ _ e3
        subst e3
        exact ⟨h3,h4⟩)
    clear c0 c0' z0 z1 z2 s4 t4 hv1
    generalize w5.setCell ⟨G,0,none⟩ (.slice (some ⟨gO,0,none⟩) (n+1) cO)=w6 at *
    have c0:w6.cell? ⟨G,0,none⟩=some (.slice (some ⟨gO,0,none⟩) (n+1) cO):=cell_of_row _ G 0 _ _ _ HR6.out
    have hwn:IntKind.i64.wrap (n:Int)=(n:Int):=IntWalk.i64_in _ (by have:=HN1.out;omega)
    go_wp2_with (fail)
    clear c0 hwn
    go_loopw [4,5] (fun i _ wr=>∃ (Pl Ql:Fs) (P1 P2:List Value),L=Pl++Ql∧P=P1++P2∧P1.length=Pl.length∧i=.int .i64 (Pl.length:Int)∧(∀ q ∈ Ql,bl e.1 q.1=true)∧wr.heap[G]?=some (rkObj (.slice (some ⟨gO,0,none⟩) (n+1) cO) r)∧wr.ownsRow B TRF 3 (.slice (some ⟨gO,0,none⟩) (n+1) cO) (n+1) (rfsC (Pl++e :: Ql) (P1++.slice A5 m5 c5 :: P2))∧Ch (fun k=>RF G (.slice A n c) k∨w.heap.size≤k) w wr) (fun i _ _=>(intOf i).toNat)
    case atStart=>exact ⟨L,[],P,[],by simp,by simp,H.out.len,by rw [HN.out],(fun q hq=>by cases hq),HR6.out,HO6.out,HS6.out⟩
    case round =>
      obtain ⟨wo,rfl⟩:∃ wo:World,wo=wr:=⟨_,rfl⟩
      obtain ⟨Pl,Ql,P1,P2,hL1,hP1,hlp,rfl,hq,hr6,ho6,hs6⟩:=hrel
      have HL1:=hid hL1
      have HP1:=hid hP1
      have HLP:=hid hlp
      have HQ:=hid hq
      have HR7:=hid hr6
      have HO7:=hid ho6
      have HS7:=hid hs6
      have c0:wo.cell? ⟨G,0,none⟩=some (.slice (some ⟨gO,0,none⟩) (n+1) cO):=cell_of_row _ G 0 _ _ _ hr6
      have HLQ:Hid (Pl.length+Ql.length=n):=hid (by rw [HN.out,hL1,List.length_append])
      have hcn:(n:Int)+1≤(cO:Int):=by have:=HCO.out.1;omega
      have hcm:cO≤9223372036854775807:=by have:=HCO.out.2;simpa only [maxLen] using this
      have HFIN:Hid ((∀ y,Pl.getLast?=some y→bl e.1 y.1=false)→∀ W,Below wo.heap.size wo W→∃ L' v' P',PutsTo L e L'∧RkAt W B G E r L' v' P'∧Ch (RF G (.slice A n c)) w W∧(∀ k,v'.ownBlock=some k→(Value.slice A n c).ownBlock=some k∨w.heap.size≤k)):=hid (fun hlast W hWb=>by
        refine ⟨Pl++e :: Ql,.slice (some ⟨gO,0,none⟩) (n+1) cO,P1++.slice A5 m5 c5 :: P2,⟨Pl,Ql,HL1.out,rfl,HQ.out,hlast⟩,RkAt.below ?_ hWb,HS7.out.trim.trans (Ch.of_below (S:=fun _=>False) hWb) (fun _ _ h=>h.elim),?_⟩
        · have hll:(Pl++e :: Ql).length=n+1:=by have:=HLQ.out;simp;omega
          refine ⟨H.out.hG,HR7.out,?_,by rw [hll];exact HO7.out,?_⟩
          · have:=H.out.len
            rw [HL1.out,HP1.out] at this
            have h1:=HLP.out
            simp only [List.length_append,List.length_cons] at this ⊢
            omega
          · have hY:∀ b,b<w.heap.size→(RF G (.slice (some ⟨gO,0,none⟩) (n+1) cO) b∨E b)→(RF G (.slice A n c) b∨E b):=by
              rintro b hb ((rfl|h)|h)
              · exact .inl (.inl rfl)
              · simp only [Value.ownBlock,Option.some.injEq] at h
                subst h
                rcases HGF.out with h|h
                · exact .inl (.inr h)
                · omega
              · exact .inr h
            intro i x d hx hd
            have hold:∀ j,L[j]?=some x→P[j]?=some d→DvX (fun k=>RF G (.slice (some ⟨gO,0,none⟩) (n+1) cO) k∨E k) wo d x.2.bs:=fun j h1 h2=>by
              have:=H.out.dat j x d h1 h2
              rw [← HN.out] at this
              exact this.ch (HS7.out.trim.wide (fun k hk=>.inl hk)) hY
            by_cases hi:i<Pl.length
            · rw [List.getElem?_append_left hi] at hx
              rw [List.getElem?_append_left (by rw [HLP.out];exact hi)] at hd
              exact hold i (by rw [HL1.out,List.getElem?_append_left hi];exact hx) (by rw [HP1.out,List.getElem?_append_left (by rw [HLP.out];exact hi)];exact hd)
            · rw [List.getElem?_append_right (by omega)] at hx
              rw [List.getElem?_append_right (by rw [HLP.out];omega),HLP.out] at hd
              by_cases h0:i-Pl.length=0
              · rw [h0] at hx hd
                simp only [List.getElem?_cons_zero,Option.some.injEq] at hx hd
                subst hx hd
                have:=HD.out
                rw [← HN.out] at this
                exact this.ch (HS7.out.trim.wide (fun k hk=>.inl hk)) hY
              · obtain ⟨k,hk⟩:∃ k,i-Pl.length=k+1:=⟨i-Pl.length-1,by omega⟩
                rw [hk,List.getElem?_cons_succ] at hx hd
                exact hold (Pl.length+k) (by rw [HL1.out,List.getElem?_append_right (by omega),Nat.add_sub_cancel_left];exact hx) (by rw [HP1.out,List.getElem?_append_right (by rw [HLP.out];omega),HLP.out,Nat.add_sub_cancel_left];exact hd)
        · intro k hk
          simp only [Value.ownBlock,Option.some.injEq] at hk
          subst hk
          exact HGF.out)
      clear hL1 hP1 hlp hq hr6 ho6 hs6
      rcases List.eq_nil_or_concat Pl with rfl|⟨Pl',y,hpl⟩
      · clear HLQ
        simp only [List.length_nil]
        go_wp2_with (fail)
        go_quiet (fail)
        go_wp2_with (fail)
        go_end0
        rw [← HN.out]
        exact ⟨rfl,HFIN.out (fun y hy=>by cases hy) _ (drawN_below (Below.refl _ _) nq)⟩
      · have hpl:Pl=Pl'++[y]:=by rw [hpl,List.concat_eq_append]
        subst hpl
        obtain ⟨j,hj⟩:∃ j,j=Pl'.length:=⟨_,rfl⟩
        have hlen1:(Pl'++[y]).length=j+1:=by simp [hj]
        have HJ:=hid hj
        have hjn:j+1≤n:=by have:=HLQ.out;rw [hlen1] at this;omega
        obtain ⟨P1',dy,hp1,hpl1⟩:∃ P1' dy,P1=P1'++[dy]∧P1'.length=j:=by
          have h1:=HLP.out
          rw [hlen1] at h1
          rcases List.eq_nil_or_concat P1 with rfl|⟨Q,d,hq⟩
          · simp at h1
          · exact ⟨Q,d,by rw [hq,List.concat_eq_append],by rw [hq] at h1;simp at h1;omega⟩
        subst hp1
        obtain ⟨A7,m7,c7,rfl,_,_⟩:=H.out.dat j y dy (by rw [HL1.out,List.getElem?_append_left (by rw [hlen1];omega),List.getElem?_append_right (by omega),hj];simp) (by rw [HP1.out,List.getElem?_append_left (by simp;omega),List.getElem?_append_right (by omega),hpl1];simp)
        have HROWS:Hid (rfsC (Pl'++[y]++e :: Ql) (P1'++[.slice A7 m7 c7]++.slice A5 m5 c5 :: P2)=rfsC Pl' P1'++(.string y.1 :: .slice A7 m7 c7 :: .int .i64 (y.2.safe:Int) :: .string e.1 :: .slice A5 m5 c5 :: .int .i64 (e.2.safe:Int) :: rfsC Ql P2)):=hid (by
          rw [show Pl'++[y]++e :: Ql=Pl'++(y :: e :: Ql) from by simp,show P1'++[.slice A7 m7 c7]++Value.slice A5 m5 c5 :: P2=P1'++(Value.slice A7 m7 c7 :: Value.slice A5 m5 c5 :: P2) from by simp,rfsC_app _ _ (by rw [hpl1,hj])]
          rfl)
        have HROWN:Hid (rfsC (Pl'++e :: y :: Ql) (P1'++.slice A5 m5 c5 :: .slice A7 m7 c7 :: P2)=rfsC Pl' P1'++(.string e.1 :: .slice A5 m5 c5 :: .int .i64 (e.2.safe:Int) :: .string y.1 :: .slice A7 m7 c7 :: .int .i64 (y.2.safe:Int) :: rfsC Ql P2)):=hid (by
          rw [rfsC_app _ _ (by rw [hpl1,hj])]
          rfl)
        have hl3:(rfsC Pl' P1').length=j*3:=by rw [rfsC_len (by rw [hpl1,hj]),hj]
        have HL3:=hid hl3
        have hcell:∀ (W:World),W.ownsRow B TRF 3 (.slice (some ⟨gO,0,none⟩) (n+1) cO) (n+1) (rfsC Pl' P1'++(.string y.1 :: .slice A7 m7 c7 :: .int .i64 (y.2.safe:Int) :: .string e.1 :: .slice A5 m5 c5 :: .int .i64 (e.2.safe:Int) :: rfsC Ql P2))→∀ i,i<6→W.cell? ⟨gO,j*3+i,none⟩=(Value.string y.1 :: .slice A7 m7 c7 :: .int .i64 (y.2.safe:Int) :: .string e.1 :: .slice A5 m5 c5 :: .int .i64 (e.2.safe:Int) :: rfsC Ql P2)[i]?:=fun W hW i hi=>by
          rw [hW.cellAt (j*3+i) (by omega),List.getElem?_append_right (by omega),hl3,Nat.add_sub_cancel_left]
        have ho7:=HO7.out
        rw [HROWS.out] at ho7
        have HO8:=hid ho7
        have x0:=hcell wo ho7 0 (by omega)
        have x1:=hcell wo ho7 1 (by omega)
        have x2:=hcell wo ho7 2 (by omega)
        have x3:=hcell wo ho7 3 (by omega)
        have x4:=hcell wo ho7 4 (by omega)
        have x5:=hcell wo ho7 5 (by omega)
        simp only [List.getElem?_cons_zero,List.getElem?_cons_succ,Nat.add_zero] at x0 x1 x2 x3 x4 x5
        rw [hlen1]
        have hwj:IntKind.i64.wrap (j:Int)=(j:Int):=IntWalk.i64_in _ (by have:=HN1.out;omega)
        have hj1:(j:Int)+1<(n:Int)+1:=by omega
        have hj0:(j:Int)<(n:Int)+1:=by omega
        have hjp:(0:Int)<(j:Int)+1:=by omega
        have e3:(j+1)*3=j*3+3:=by omega
        have HCELL:=hid hcell
        have HPL1:Hid (P1'.length=Pl'.length):=hid (by rw [hpl1,hj])
        clear hcell ho7 hj hpl1 hl3
        by_cases hle:bl e.1 y.1=true
        · have hle':Op.bytesLess e.1.toList y.1.toList=true:=hle
          have HLEY:=hid hle
          clear hle
          go_wp2_with (fail)
          go_quiet (fail)
          have HBQ:Hid (Below wo.heap.size wo (wo.drewN nq)):=hid (drawN_below (Below.refl _ _) nq)
          have HR9:=hid ((HBQ.out.block _ (Array.getElem?_eq_some_iff.1 HR7.out).1).trans HR7.out)
          have HO9:=hid (own3_ch (S:=fun _=>False) HO8.out (Ch.of_below HBQ.out) (fun _ _ h=>h))
          have HS9:=hid (HS7.out.trans (Ch.of_below (S:=fun _=>False) HBQ.out) (fun _ _ h=>h.elim))
          clear x0 x1 x2 x3 x4 x5 c0 hle'
          generalize wo.drewN nq=wq at *
          have c0:wq.cell? ⟨G,0,none⟩=some (.slice (some ⟨gO,0,none⟩) (n+1) cO):=cell_of_row _ G 0 _ _ _ HR9.out
          have x3:=HCELL.out wq HO9.out 3 (by omega)
          have x4:=HCELL.out wq HO9.out 4 (by omega)
          have x5:=HCELL.out wq HO9.out 5 (by omega)
          simp only [List.getElem?_cons_zero,List.getElem?_cons_succ] at x3 x4 x5
          go_wp2_with (fail)
          have HBX:=hid ((Below.refl wq.heap.size wq).alloc (Nat.le_refl _) (.cells #[.string e.1,.slice A5 m5 c5,.int .i64 (e.2.safe:Int)] TRF))
          have HRX:=hid ((HBX.out.block _ (Array.getElem?_eq_some_iff.1 HR9.out).1).trans HR9.out)
          have HOX:=hid (own3_ch (S:=fun _=>False) HO9.out (Ch.of_below HBX.out) (fun _ _ h=>h))
          have HSX:=hid (HS9.out.trans (Ch.of_below (S:=fun _=>False) HBX.out) (fun _ _ h=>h.elim))
          have HZX:=hid (heap_alloc_new wq (.cells #[.string e.1,.slice A5 m5 c5,.int .i64 (e.2.safe:Int)] TRF))
          have HGX:Hid (gO≠wq.heap.size):=hid (by have:=(World.ownsRow.lt HO9.out gO rfl).2;omega)
          obtain ⟨X2,hX2⟩:∃ X2,X2=wq.heap.size:=⟨_,rfl⟩
          rw [← hX2] at HZX HGX ⊢
          clear c0 x3 x4 x5 hX2
          generalize wq.alloc (.cells #[.string e.1,.slice A5 m5 c5,.int .i64 (e.2.safe:Int)] TRF)=wx at *
          have c0:wx.cell? ⟨G,0,none⟩=some (.slice (some ⟨gO,0,none⟩) (n+1) cO):=cell_of_row _ G 0 _ _ _ HRX.out
          have x0:=HCELL.out wx HOX.out 0 (by omega)
          have x1:=HCELL.out wx HOX.out 1 (by omega)
          have x2:=HCELL.out wx HOX.out 2 (by omega)
          have x3:=HCELL.out wx HOX.out 3 (by omega)
          have x4:=HCELL.out wx HOX.out 4 (by omega)
          have x5:=HCELL.out wx HOX.out 5 (by omega)
          simp only [List.getElem?_cons_zero,List.getElem?_cons_succ,Nat.add_zero] at x0 x1 x2 x3 x4 x5
          have f3:=HOX.out.frozenAt (j*3+3)
          have f4:=HOX.out.frozenAt (j*3+3+1)
          have f5:=HOX.out.frozenAt (j*3+3+2)
          go_region
          all_goals
            have HOY:=hid (World.ownsRow.stored (World.ownsRow.stored (World.ownsRow.stored HOX.out (j*3+3) (.string y.1)).1 (j*3+3+1) (.slice A7 m7 c7)).1 (j*3+3+2) (.int .i64 (y.2.safe:Int))).1
            have HCY:Hid (Ch (At1 gO) wx (((wx.setCell ⟨gO,j*3+3,none⟩ (.string y.1)).setCell ⟨gO,j*3+3+1,none⟩ (.slice A7 m7 c7)).setCell ⟨gO,j*3+3+2,none⟩ (.int .i64 (y.2.safe:Int)))):=hid ((((Ch.refl _ _).set1 _ _).set1 _ _).set1 _ _)
            have HRY:=hid (HCY.out.row HRX.out (fun h=>HGO.out h.symm))
            have HZY:=hid (HCY.out.row HZX.out (fun h=>HGX.out h.symm))
            clear c0 x0 x1 x2 x3 x4 x5 f3 f4 f5
            replace HOY:=hid (own3_ch (S:=fun _=>False) HOY.out (Ch.refl _ _).drew (fun _ _ h=>h))
            replace HRY:=hid ((show ((((wx.setCell ⟨gO,j*3+3,none⟩ (.string y.1)).setCell ⟨gO,j*3+3+1,none⟩ (.slice A7 m7 c7)).setCell ⟨gO,j*3+3+2,none⟩ (.int .i64 (y.2.safe:Int))).drew).heap[G]?=_ from HRY.out))
            replace HZY:=hid ((show ((((wx.setCell ⟨gO,j*3+3,none⟩ (.string y.1)).setCell ⟨gO,j*3+3+1,none⟩ (.slice A7 m7 c7)).setCell ⟨gO,j*3+3+2,none⟩ (.int .i64 (y.2.safe:Int))).drew).heap[X2]?=_ from HZY.out))
            replace HCY:=hid (HCY.out.drew)
            generalize (((wx.setCell ⟨gO,j*3+3,none⟩ (.string y.1)).setCell ⟨gO,j*3+3+1,none⟩ (.slice A7 m7 c7)).setCell ⟨gO,j*3+3+2,none⟩ (.int .i64 (y.2.safe:Int))).drew=wy at *
            have c0:wy.cell? ⟨G,0,none⟩=some (.slice (some ⟨gO,0,none⟩) (n+1) cO):=cell_of_row _ G 0 _ _ _ HRY.out
            have z0:=cell_of_row _ X2 0 _ _ _ HZY.out
            have z1:=cell_of_row _ X2 1 _ _ _ HZY.out
            have z2:=cell_of_row _ X2 2 _ _ _ HZY.out
            simp only [List.getElem?_toArray,List.getElem?_cons_zero,List.getElem?_cons_succ] at z0 z1 z2
            have x0:=HOY.out.cellAt (j*3) (by omega)
            have x1:=HOY.out.cellAt (j*3+1) (by omega)
            have x2:=HOY.out.cellAt (j*3+2) (by omega)
            rw [List.getElem?_set_ne (by omega),List.getElem?_set_ne (by omega),List.getElem?_set_ne (by omega),List.getElem?_append_right (by have:=HL3.out;omega),HL3.out] at x0 x1 x2
            simp only [Nat.sub_self,Nat.add_sub_cancel_left,List.getElem?_cons_zero,List.getElem?_cons_succ] at x0 x1 x2
            have f0:=HOY.out.frozenAt (j*3)
            have f1:=HOY.out.frozenAt (j*3+1)
            have f2:=HOY.out.frozenAt (j*3+2)
            have HOZ:=hid (World.ownsRow.stored (World.ownsRow.stored (World.ownsRow.stored HOY.out (j*3) (.string e.1)).1 (j*3+1) (.slice A5 m5 c5)).1 (j*3+2) (.int .i64 (e.2.safe:Int))).1
            rw [set_two _ _ _ _ _ _ _ _ HL3.out] at HOZ
            have HCZ:Hid (Ch (At1 gO) wx (((wy.setCell ⟨gO,j*3,none⟩ (.string e.1)).setCell ⟨gO,j*3+1,none⟩ (.slice A5 m5 c5)).setCell ⟨gO,j*3+2,none⟩ (.int .i64 (e.2.safe:Int)))):=hid (((HCY.out.set1 _ _).set1 _ _).set1 _ _)
            have HRZ:=hid (HCZ.out.row HRX.out (fun h=>HGO.out h.symm))
            go_wp2_with (fail)
            go_region
            all_goals
              go_wp2_with (fail)
              rw [← HROWN.out] at HOZ
              have HSZ:Hid (Ch (fun k=>RF G (.slice A n c) k∨w.heap.size≤k) w (((wy.setCell ⟨gO,j*3,none⟩ (.string e.1)).setCell ⟨gO,j*3+1,none⟩ (.slice A5 m5 c5)).setCell ⟨gO,j*3+2,none⟩ (.int .i64 (e.2.safe:Int)))):=hid (HSX.out.trans HCZ.out (fun k _ hk=>by
                subst hk
                rcases HGF.out with h|h
                · exact .inl (.inr h)
                · exact .inr h))
              have HQY:Hid (∀ q ∈ y :: Ql,bl e.1 q.1=true):=hid (fun q hq=>by
                rcases List.mem_cons.1 hq with rfl|hq
                · exact HLEY.out
                · exact HQ.out q hq)
              exact ⟨⟨Pl',y :: Ql,P1',.slice A7 m7 c7 :: P2,by rw [HL1.out];simp,by rw [HP1.out];simp,HPL1.out,by rw [HJ.out],HQY.out,HRZ.out,HOZ.out,HSZ.out.drew⟩,by simp [intOf]⟩
        · have hle':Op.bytesLess e.1.toList y.1.toList=false:=by simpa using hle
          have HLE:=hid hle
          clear hle
          go_wp2_with (fail)
          go_quiet (fail)
          go_wp2_with (fail)
          go_end0
          rw [← HN.out]
          exact ⟨rfl,HFIN.out (fun z hz=>by simp at hz;subst hz;simpa using HLE.out) _ (drawN_below (Below.refl _ _) nq)⟩
end
section
open Go.RowKit Go.MapKept
set_option maxHeartbeats 4000000 in
set_option maxRecDepth 100000 in
theorem refName (x:ByteArray) (w:World) (hx:x.size≤140737488355328):Calls Tryz.prog 44 #[.string x] w fun e w'=>e=.returned (.bool (nameD x))∧w=w':=by
  go_enter Tryz.func44,Tryz.ntmps44
  by_cases h1:x.size<1
  · have d1:decide ((x.size:Int)<1)=true:=by simp;omega
    have HN:Hid (nameD x=false):=hid (by unfold nameD;simp;omega)
    clear h1
    go_wp2
    go_ret
    exact ⟨by rw [HN.out];rfl,rfl⟩
  have d1:decide ((x.size:Int)<1)=false:=by simp;omega
  by_cases h2:32<x.size
  · have d2:decide ((32:Int)<(x.size:Int))=true:=by simp;omega
    have HN:Hid (nameD x=false):=hid (by unfold nameD;simp;omega)
    clear h1 h2
    go_wp2
    go_ret
    exact ⟨by rw [HN.out];rfl,rfl⟩
  have d2:decide ((32:Int)<(x.size:Int))=false:=by simp;omega
  have HND:Hid (nameD x=x.data.toList.all nameB):=hid (by
    unfold nameD
    rw [decide_eq_true (show 1≤x.size by omega),decide_eq_true (show x.size≤32 by omega)]
    simp)
  have H32:Hid (x.size≤32):=hid (by omega)
  clear h1 h2
  go_wp2_with (fail)
  go_loopw [3] (fun i wr=>∃ k:Nat,k≤x.size∧i=.int .i64 k∧(x.data.toList.take k).all nameB=true∧wr=w) (fun i _=>x.size-(intOf i).toNat)
  case atStart=>exact ⟨0,Nat.zero_le _,rfl,rfl,rfl⟩
  case round =>
    obtain ⟨k,hk,rfl,hal,rfl⟩:=hrel
    have HAL:=hid hal
    clear hal
    by_cases hlt:k<x.size
    · have e1:(k:Int)<(x.size:Int):=by omega
      have e2:decide ((k:Int)<(x.size:Int))=true:=by simpa using e1
      have HX:Hid (x.data.toList.take (k+1)=x.data.toList.take k++[x[k]]):=hid (by rw [List.take_succ_eq_append_getElem (by simpa using hlt)];rfl)
      have HME:Hid (x[k] ∈ x.data.toList):=hid (List.getElem_mem (l:=x.data.toList) (n:=k) (by simpa using hlt))
      have HV:Hid (nameB x[k]=((decide (97≤x[k].toNat) && decide (x[k].toNat≤122)) || (decide (48≤x[k].toNat) && decide (x[k].toNat≤57)) || x[k].toNat == 46)):=hid rfl
      have HC:Hid (∀ c:Nat,x[k].toNat=c→nameB x[k]=((decide (97≤c) && decide (c≤122)) || (decide (48≤c) && decide (c≤57)) || c == 46)):=hid (fun c hc=>by rw [HV.out,hc])
      obtain ⟨c,hc⟩:∃ c,x[k].toNat=c:=⟨_,rfl⟩
      have HB:Hid (nameB x[k]=((decide (97≤c) && decide (c≤122)) || (decide (48≤c) && decide (c≤57)) || c == 46)):=hid (HC.out c hc)
      have HIX:Hid (∀ W:World,(Instr.index 9 (.string x) (.int .i64 (k:Int))).run Tryz.prog W=.ok (.int .u8 (c:Int)) W):=hid (fun W=>by rw [← hc];simp [Instr.index,asIntOf,run_underlying Tryz.underlying9,go_sem,hlt])
      have hix:=HIX.out
      clear HV HC
      have hcase:(97≤c∧c≤122)∨(97≤c∧122<c)∨(c<97∧48≤c∧c≤57)∨(c<97∧48≤c∧57<c)∨(c<48∧c=46)∨(c<48∧c≠46):=by omega
      clear hc
      rcases hcase with h|h|h|h|h|h
      · have hb:nameB x[k]=true:=by rw [HB.out];simp;omega
        have f0:decide ((97:Int)≤(c:Int))=true:=by simp;omega
        have f1:decide ((c:Int)≤122)=true:=by simp;omega
        have HBB:=hid hb
        clear hb h
        go_wp2_with (fail)
        exact ⟨⟨k+1,by omega,by go_num,by rw [HX.out,List.all_append,HAL.out];simp [HBB.out],trivial⟩,by simp [intOf];omega⟩
      · have hb:nameB x[k]=false:=by rw [HB.out];simp;omega
        have f0:decide ((97:Int)≤(c:Int))=true:=by simp;omega
        have f1:decide ((c:Int)≤122)=false:=by simp;omega
        have f2:decide ((48:Int)≤(c:Int))=true:=by simp;omega
        have f3:decide ((c:Int)≤57)=false:=by simp;omega
        have g1:((c:Int) != 46)=true:=by simp;omega
        have HN:Hid (nameD x=false):=hid (by rw [HND.out,List.all_eq_false];exact ⟨x[k],HME.out,by rw [hb];decide⟩)
        clear hb h
        go_wp2_with (fail)
        go_ret
        exact ⟨by rw [HN.out];rfl,rfl⟩
      · have hb:nameB x[k]=true:=by rw [HB.out];simp;omega
        have f0:decide ((97:Int)≤(c:Int))=false:=by simp;omega
        have f1:decide ((48:Int)≤(c:Int))=true:=by simp;omega
        have f2:decide ((c:Int)≤57)=true:=by simp;omega
        have HBB:=hid hb
        clear hb h
        go_wp2_with (fail)
        exact ⟨⟨k+1,by omega,by go_num,by rw [HX.out,List.all_append,HAL.out];simp [HBB.out],trivial⟩,by simp [intOf];omega⟩
      · have hb:nameB x[k]=false:=by rw [HB.out];simp;omega
        have f0:decide ((97:Int)≤(c:Int))=false:=by simp;omega
        have f1:decide ((48:Int)≤(c:Int))=true:=by simp;omega
        have f2:decide ((c:Int)≤57)=false:=by simp;omega
        have g1:((c:Int) != 46)=true:=by simp;omega
        have HN:Hid (nameD x=false):=hid (by rw [HND.out,List.all_eq_false];exact ⟨x[k],HME.out,by rw [hb];decide⟩)
        clear hb h
        go_wp2_with (fail)
        go_ret
        exact ⟨by rw [HN.out];rfl,rfl⟩
      · have hb:nameB x[k]=true:=by rw [HB.out];simp;omega
        have f0:decide ((97:Int)≤(c:Int))=false:=by simp;omega
        have f1:decide ((48:Int)≤(c:Int))=false:=by simp;omega
        have g1:((c:Int) != 46)=false:=by simp;omega
        have HBB:=hid hb
        clear hb h
        go_wp2_with (fail)
        exact ⟨⟨k+1,by omega,by go_num,by rw [HX.out,List.all_append,HAL.out];simp [HBB.out],trivial⟩,by simp [intOf];omega⟩
      · have hb:nameB x[k]=false:=by rw [HB.out];simp;omega
        have f0:decide ((97:Int)≤(c:Int))=false:=by simp;omega
        have f1:decide ((48:Int)≤(c:Int))=false:=by simp;omega
        have g1:((c:Int) != 46)=true:=by simp;omega
        have HN:Hid (nameD x=false):=hid (by rw [HND.out,List.all_eq_false];exact ⟨x[k],HME.out,by rw [hb];decide⟩)
        clear hb h
        go_wp2_with (fail)
        go_ret
        exact ⟨by rw [HN.out];rfl,rfl⟩
    · obtain rfl:k=x.size:=by omega
      have e2:decide ((x.size:Int)<(x.size:Int))=false:=by simp
      have HN:Hid (nameD x=true):=hid (by have h1:=HAL.out;rw [List.take_of_length_le (by simp)] at h1;rw [HND.out];exact h1)
      clear hlt
      go_wp2_with (fail)
      go_ret
      exact ⟨by rw [HN.out];rfl,rfl⟩
end
end Go.Proofs.YtodjilljcjkacaaGreatDoor
