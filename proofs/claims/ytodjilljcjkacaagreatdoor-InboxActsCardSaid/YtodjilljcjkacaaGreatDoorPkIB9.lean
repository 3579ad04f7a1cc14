/- Laid together: ScanR13, Rk0. -/
import Derived.Test.YtodjilljcjkacaaGreatDoorPkIB8

namespace Go.Proofs.YtodjilljcjkacaaGreatDoor
open Lib (hid)
section
open Go.RowKit
def RetSF13 (l:List UInt8) (w:World) (e:Ending) (w':World):Prop:=∃ A c,e=.returned (.slice A l.length c)∧Bs w' A l.length c l∧Below w.heap.size w w'∧∀ a,A=some a→w.heap.size≤a.block
set_option maxRecDepth 100000 in
set_option maxHeartbeats 2000000 in
theorem refPut13F (A:Option Addr) (n c:Nat) (l:List UInt8) (w:World) (hB:Bs w A n c l) (hn:n≤1000000000) :
    Calls Tryz.prog 88 #[.slice A n c] w (RetSF13 (record l) w):=by
  have HB:=hid hB
  have HL:l.length=n:=hB.len
  have hx:n<4294967296:=by omega
  have hw32:IntKind.u32.wrap (n:Int)=(n:Int):=by rw [IntKind.wrap_u32];omega
  have hs:=Crc.sum_lt (s:=0) (be4 n++l) (by omega)
  have HLH:=hid HL
  clear hB HL
  go_enter Tryz.func88,Tryz.ntmps88
  go_wp2_with (fail)
  refine (refFour n w hx).mono ?_
  rintro e w' ⟨p,q,r,s,hbe,rfl,rfl⟩
  have HBE:=hid hbe
  have HB1:Hid (Below w.heap.size w (w.alloc (.cells #[.int .u8 (p.toNat:Int),.int .u8 (q.toNat:Int),.int .u8 (r.toNat:Int),.int .u8 (s.toNat:Int)] 5))):=hid ((Below.refl _ _).alloc (Nat.le_refl _) _)
  have HF1:=hid (Bs.lit w [p,q,r,s] 5 #[.int .u8 (p.toNat:Int),.int .u8 (q.toNat:Int),.int .u8 (r.toNat:Int),.int .u8 (s.toNat:Int)] w.heap.size rfl rfl rfl (by simp [maxLen]))
  rw [show ([p,q,r,s]:List UInt8).length=4 from rfl] at HF1
  clear hbe
  have HBL:=hid (HB.out.below HB1.out)
  obtain ⟨g0,hg0⟩:∃ g0,w.heap.size=g0:=⟨_,rfl⟩
  rw [hg0] at HF1 HB1 ⊢
  have HG0:=hid hg0
  have HZ1:Hid (g0≤(w.alloc (.cells #[.int .u8 (p.toNat:Int),.int .u8 (q.toNat:Int),.int .u8 (r.toNat:Int),.int .u8 (s.toNat:Int)] 5)).heap.size):=hid (by have:=HB1.out.size;rw [hg0] at this;exact this)
  clear hg0
  generalize (w.alloc (.cells #[.int .u8 (p.toNat:Int),.int .u8 (q.toNat:Int),.int .u8 (r.toNat:Int),.int .u8 (s.toNat:Int)] 5))=w1 at *
  have tok1:True:=trivial
  have tok2:True:=trivial
  go_wp2_with (first
    | (at_builtin;have _t:=tok1;go_loud ((refine wpList_app rfl (.tmp 9) (.tmp 10) 40 rfl w1.heap.size 5 Tryz.underlying40 byteInfo _ [] rfl (Own.lit 5 w1 [] (Nat.le_refl _) (by simp [maxLen])) _ 4 4 [p,q,r,s] rfl (HF1.out.alloc _) (by simp) (by simp) ?_;intro v2 w2 hown2 hb2 hg2;have b2:=(((Below.refl _ w1).alloc (Nat.le_refl _) _)).trans hb2;clear tok1 hb2 hg2 _t)))
    | (at_builtin;have _t:=tok2;go_loud ((refine wpList_app rfl (.tmp 11) (.tmp 12) 40 rfl w1.heap.size 5 Tryz.underlying40 byteInfo _ ([]++[p,q,r,s]) rfl hown2 _ n c l rfl (HBL.out.below b2) (by simp;omega) b2.size ?_;intro v3 w3 hown3 hb3 hg3;have b3:=b2.trans hb3;clear tok2 hb3 hg3 _t))))
  have hE:([]++[p,q,r,s]++l:List UInt8)=be4 n++l:=by rw [HBE.out];rfl
  rw [hE] at hown3
  obtain ⟨A3,c3,rfl,hB3,_⟩:=hown3.bs
  have hEL:(be4 n++l).length=n+4:=by simp [be4,HLH.out];try omega
  rw [hEL] at hB3 ⊢
  have HB3:=hid (HB1.out.trans (b3.mono HZ1.out))
  have HF3:=hid (HF1.out.below b3)
  have HZ3:=hid b3.size
  have HBL3:=hid (HBL.out.below b3)
  have HX3:=hid hB3
  have HSL:=hid hEL
  clear hB3 hown3 b3 b2 hown2 hE hEL
  refine (refSum A3 (n+4) c3 (be4 n++l) w3 HX3.out).mono ?_
  rintro e w' ⟨rfl,rfl⟩
  have HREC:Hid (record l=[]++[p,q,r,s]++be4 (Crc.sum 0 (be4 n++l))++l):=hid (by unfold record;rw [HLH.out,HBE.out];rfl)
  generalize Crc.sum 0 (be4 n++l)=x at *
  have tok3:True:=trivial
  have tok4:True:=trivial
  have tok5:True:=trivial
  go_wp2_with (at_builtin;have _t:=tok3;go_loud ((refine wpList_app rfl (.tmp 15) (.tmp 16) 40 rfl w3.heap.size 5 Tryz.underlying40 byteInfo _ [] rfl (Own.lit 5 w3 [] (Nat.le_refl _) (by simp [maxLen])) _ 4 4 [p,q,r,s] rfl (HF3.out.alloc _) (by simp) (by simp) ?_;intro v4 w4 hown4 hb4 hg4;have b4:=(((Below.refl _ w3).alloc (Nat.le_refl _) _)).trans hb4;clear tok3 hb4 hg4 _t)))
  refine (refFour x w4 hs).mono ?_
  rintro e w' ⟨p2,q2,r2,s2,hbe2,rfl,rfl⟩
  have HBE2:=hid hbe2
  have HO5:=hid (hown4.alloc (.cells #[.int .u8 (p2.toNat:Int),.int .u8 (q2.toNat:Int),.int .u8 (r2.toNat:Int),.int .u8 (s2.toNat:Int)] 5))
  have HB4:=hid b4
  have hz4:=b4.size
  clear hbe2 hown4 b4
  go_wp2_with (first
    | (at_builtin;have _t:=tok4;go_loud ((refine wpList_app rfl (.tmp 17) (.tmp 19) 40 rfl w3.heap.size 5 Tryz.underlying40 byteInfo _ ([]++[p,q,r,s]) rfl HO5.out _ 4 4 [p2,q2,r2,s2] rfl (Bs.lit w4 [p2,q2,r2,s2] _ _ _ rfl rfl rfl (by simp [maxLen])) (by simp) (by simp;omega) ?_;intro v5 w5 hown5 hb5 hg5;have b5:=(HB4.out.alloc HB4.out.size _).trans hb5;clear tok4 hb5 hg5 _t)))
    | (at_builtin;have _t:=tok5;go_loud ((refine wpList_app rfl (.tmp 20) (.tmp 21) 40 rfl w3.heap.size 5 Tryz.underlying40 byteInfo _ ([]++[p,q,r,s]++[p2,q2,r2,s2]) rfl hown5 _ n c l rfl (HBL3.out.below b5) (by simp;omega) b5.size ?_;intro v6 w6 hown6 hb6 hg6;have b6:=b5.trans hb6;clear tok5 hb6 hg6 _t))))
  go_ret
  have e:[]++[p,q,r,s]++[p2,q2,r2,s2]++l=record l:=by rw [HREC.out,HBE2.out]
  rw [e] at hown6
  obtain ⟨A7,c7,rfl,hB7,hf7⟩:=hown6.bs
  have h0:=HB3.out.trans (b6.mono (Nat.le_trans HZ1.out HZ3.out))
  exact ⟨A7,c7,rfl,hB7,by rw [HG0.out];exact h0,fun a ha=>by have h1:=hf7 a ha;have h2:=HZ1.out;have h3:=HZ3.out;have h4:=HG0.out;omega⟩
set_option maxHeartbeats 4000000 in
set_option maxRecDepth 100000 in
theorem refScann (A:Option Addr) (n c:Nat) (l:List UInt8) (w:World) (hB:Bs w A n c l) (hN:n≤2000000000) :
    Calls Tryz.prog 45 #[.slice A n c] w (ScanPostn l w):=by
  have hlen:=hid hB.len
  have hmax:=hB.nmax
  have hle:=hB.le
  have hcm:=hB.max
  have HB:=hid hB
  clear hB
  go_enter Tryz.func45,Tryz.ntmps45
  go_wp2_with (fail)
  go_loopw [5,6,7,8,9] (fun v i _ _ _ wr=>∃ (p:Nat) (acc:List (List UInt8)),i=.int .i64 p∧Rw w.heap.size (fun k=>k<w.heap.size) wr v acc∧ScanAt l p acc∧Below w.heap.size w wr) (fun _ i _ _ _ _=>n-(intOf i).toNat)
  case atStart=>exact ⟨0,[],rfl,Rw.nil _ _ _,ScanAt.start l,Below.refl _ _⟩
  case round =>
    obtain ⟨wo,rfl⟩:∃ wo:World,wo=wr:=⟨_,rfl⟩
    obtain ⟨p,acc,rfl,hr,ha,hb⟩:=hrel
    obtain ⟨v,hv⟩:∃ v,v=u5:=⟨_,rfl⟩
    subst hv
    have HR:=hid hr
    have HA:=hid ha
    have HBB:=hid hb
    have hpn:p≤n:=by have:=ha.1;have:=hlen.out;omega
    clear hr ha hb
    by_cases hlt:p<n
    · obtain ⟨b,o,rfl,hbl,_⟩:=HB.out.at_ (by omega)
      have e1:(p:Int)<(n:Int):=by omega
      have e9:¬ c=p:=by omega
      have hpi:(p:Int)≤(n:Int):=by omega
      have hpc:p≤c:=by omega
      have hd:=(HB.out.drop (i:=p) (by omega)).below HBB.out
      rw [if_neg e9,Option.map_some,Addr.add_lit] at hd
      have HD:=hid hd
      have HLT:=hid hlt
      obtain ⟨Av,cv,hv⟩:=HR.out.form
      subst hv
      clear hd hlt hbl
      go_wp2_with (fail)
      refine (refGet13 _ (n-p) (c-p) (l.drop p) wo HD.out (by omega)).mono ?_
      rintro e w1 ⟨A1,c1,rfl,hB1,hfr,hb1⟩
      have HX:=hid hB1
      have HFR:=hid hfr
      have HR1:=hid (HR.out.below hb1)
      have HB1:Hid (Below w.heap.size w w1):=hid (HBB.out.trans (hb1.mono HBB.out.size))
      have HZ1:=hid hb1.size
      clear hB1 hfr hb1
      by_cases he:getErr (l.drop p)=0
      · have HA1:=hid (HA.out.more he)
        have hgl:=getErr_len he
        have hdl:=HD.out.len
        have hkp:getLen (l.drop p)≤n-p:=by omega
        have hk9:9≤getLen (l.drop p):=hgl.1
        have hacc:acc.length≤n:=by have:=HA.out.2.1;omega
        rw [he]
        clear he hgl hdl
        generalize getGet (l.drop p)=x at *
        generalize getLen (l.drop p)=k at *
        have HLT1:Hid (0<x.length→∀ b,A1=some b→¬ (Value.slice Av acc.length cv).ownBlock=some b.block∧¬ b.block<w.heap.size):=hid (fun _ b hb=>by
          have h1:=HFR.out b hb
          obtain ⟨vs,hv⟩:=HR.out
          have h2:=HBB.out.size;exact ⟨fun e=>by have:=(World.ownsRow.lt hv.2.1 _ e).2;omega,by omega⟩)
        have HA2:=hid ((Below.refl w1.heap.size w1).alloc (Nat.le_refl _) (.cells #[.slice A1 x.length c1] 40))
        have HR2:=hid (HR1.out.below HA2.out)
        have HROW:=hid (heap_alloc_new w1 (.cells #[.slice A1 x.length c1] 40))
        have HXA:=hid (HX.out.below HA2.out)
        have HBZ:Hid (w.heap.size≤(w1.alloc (.cells #[.slice A1 x.length c1] 40)).heap.size):=hid (Nat.le_trans HB1.out.size HA2.out.size)
        obtain ⟨Z,hZ⟩:∃ Z,acc++[x]=Z:=⟨_,rfl⟩
        rw [hZ] at HA1
        have HZ:=hid hZ
        clear hZ
        have tok1:Hid True:=hid trivial
        go_wp2_with (at_builtin;have _t:=tok1;go_loud ((refine wpList_rw rfl (.tmp 27) (.tmp 29) rfl w.heap.size (fun k=>k<w.heap.size) (.slice Av acc.length cv) acc x A1 c1 rfl HR2.out HXA.out HLT1.out (by have:=HBZ.out;omega) w1.heap.size rfl HROW.out (by omega) HBZ.out ?_;intro v2 w2 hw2 hgr2 hfr2;rw [HZ.out] at hw2;obtain ⟨A2,c2,rfl⟩:=hw2.form;have HR3:=hid hw2;have HCH:Hid (Below w.heap.size w w2):=hid ((HB1.out.trans (HA2.out.mono HB1.out.size)).trans ((Ch.of_grown (S:=fun k=>(Value.slice Av acc.length cv).ownBlock=some k) hgr2 (fun k hk=>hk)).below (fun k hk=>(by obtain ⟨vs,hv⟩:=HR2.out;exact (World.ownsRow.lt hv.2.1 k hk).1)) HBZ.out));clear tok1 hw2 hgr2 hfr2 _t)))
        exact ⟨⟨p+k,Z,by go_num,HR3.out,HA1.out,HCH.out⟩,by have:=HLT.out;simp [intOf];omega⟩
      · have hst:=HA.out.stop (by rw [hlen.out];exact HLT.out) he
        have hne:(getErr (l.drop p) != 0)=true:=by rw [bne_iff_ne];exact he
        have hge:=get_err (l:=l.drop p) rfl he
        have HST:=hid hst
        rw [hge.1,hge.2]
        clear hst he hge
        generalize getErr (l.drop p)=er at *
        go_wp2_with (fail)
        go_ret3
        refine ⟨.slice Av acc.length cv,?_,?_,HB1.out⟩
        · rw [HST.out];rfl
        · rw [HST.out];exact HR1.out
    · obtain rfl:p=n:=by omega
      have hst:=HA.out.all hlen.out.symm
      obtain ⟨Av,cv,hv⟩:=HR.out.form
      subst hv
      have HST:=hid hst
      clear hst hlt
      go_wp2_with (fail)
      go_ret3
      refine ⟨.slice Av acc.length cv,?_,?_,HBB.out⟩
      · rw [HST.out];rfl
      · rw [HST.out];exact HR.out
end
section
open Go.RowKit Go.MapKept
structure Rk where
  size:Int
  count:Int
  armed:Int
  keep:Int
  fail:Int
abbrev TRD:TypeId:=35
abbrev TRF:TypeId:=124
abbrev TRL:TypeId:=33
abbrev pR (G:Nat):Value:=.pointer (some ⟨G,0,none⟩)
abbrev rkCells (v:Value) (r:Rk):Array Value:=#[v,.int .i64 r.size,.int .i64 r.count,.int .i64 r.armed,.int .i64 r.keep,.int .i64 r.fail]
abbrev rkObj (v:Value) (r:Rk):Obj:=.cells (rkCells v r) TRD
abbrev rfC (e:ByteArray × Fl) (d:Value):List Value:=[.string e.1,d,.int .i64 (e.2.safe:Int)]
def rfsC:Fs→List Value→List Value
  | e :: L,d :: P=>rfC e d++rfsC L P
  | _,_=>[]
theorem rfsC_len:∀ {L:Fs} {P:List Value},P.length=L.length→(rfsC L P).length=L.length*3
  | [],[],_=>rfl
  | e :: L,d :: P,h=>by
    have:=rfsC_len (L:=L) (P:=P) (by simpa using h)
    simp only [rfsC,rfC,List.length_append,List.length_cons,List.length_nil,this]
    omega
theorem rfsC_at:∀ {L:Fs} {P:List Value} {i:Nat} {e:ByteArray × Fl} {d:Value},L[i]?=some e→P[i]?=some d→∀ j,j<3→(rfsC L P)[i*3+j]?=(rfC e d)[j]?
  | [],_,_,_,_,h,_,_,_=>by simp at h
  | _ :: _,[],_,_,_,_,h,_,_=>by simp at h
  | y :: L,q :: P,0,e,d,h,h',j,hj=>by
    simp only [List.getElem?_cons_zero,Option.some.injEq] at h h'
    subst h h'
    simp only [rfsC,Nat.zero_mul,Nat.zero_add]
    rw [List.getElem?_append_left (by simp [rfC];omega)]
  | y :: L,q :: P,i+1,e,d,h,h',j,hj=>by
    simp only [List.getElem?_cons_succ] at h h'
    have:=rfsC_at h h' j hj
    simp only [rfsC]
    rw [List.getElem?_append_right (by simp [rfC];omega),← this]
    congr 1
    simp [rfC]
    omega
theorem rfsC_app:∀ {L:Fs} {P:List Value} (M:Fs) (Q:List Value),P.length=L.length→rfsC (L++M) (P++Q)=rfsC L P++rfsC M Q
  | [],[],M,Q,_=>by simp [rfsC]
  | y :: L,q :: P,M,Q,h=>by
    have:=rfsC_app (L:=L) (P:=P) M Q (by simpa using h)
    simp only [List.cons_append,rfsC,this,List.append_assoc]
theorem frz {w:World} {g j:Nat} {C:Array Value} {t:TypeId} (h:w.heap[g]?=some (.cells C t)):w.frozen? ⟨g,j,none⟩=false:=by
  simp only [World.frozen?,h]
  first | done | simp
def DvX (X:Nat→Prop) (w:World) (v:Value) (l:List UInt8):Prop:=∃ A m c,v=.slice A m c∧Bs w A m c l∧∀ a,A=some a→m=0∨¬ X a.block
section
variable {w w':World} {B G:Nat} {E E' X Y:Nat→Prop} {r r':Rk} {L L':Fs} {v v' d:Value} {P P':List Value}
theorem DvX.ch {l:List UInt8} (h:DvX X w v l) (hc:Ch X w w') (hY:∀ b,b<w.heap.size→Y b→X b):DvX Y w' v l:=by
  obtain ⟨A,m,c,e,hB,hx⟩:=h
  refine ⟨A,m,c,e,⟨hB.1,hB.2.1,hB.2.2.1,fun hn=>?_⟩,fun a ha=>?_⟩
  · obtain ⟨b,o,eA,hlt,hcell⟩:=hB.at_ hn
    refine ⟨b,o,eA,fun i x hi=>?_⟩
    have hne:=(hx _ eA).resolve_left (by omega)
    have hb:=hc.block b hlt hne
    have:=hcell i x hi
    simp only [World.cell?,hb] at this ⊢
    exact this
  · by_cases h0:m=0
    · exact .inl h0
    · obtain ⟨b,o,eA,hlt,_⟩:=hB.at_ (by omega)
      rw [ha] at eA
      injection eA with eA
      subst eA
      exact .inr (fun hy=>(hx _ ha).resolve_left h0 (hY _ hlt hy))
theorem Ch.wide {S S':Nat→Prop} (h:Ch S w w') (hS:∀ k,S k→S' k):Ch S' w w':=⟨h.os,h.tape,h.output,h.size,fun k hk hn=>h.block k hk (fun hs=>hn (hS k hs))⟩
abbrev RF (G:Nat) (v:Value):Nat→Prop:=fun k=>k=G∨v.ownBlock=some k
structure RkAt (w:World) (B G:Nat) (E:Nat→Prop) (r:Rk) (L:Fs) (v:Value) (P:List Value):Prop where
  hG:B≤G
  row:w.heap[G]?=some (rkObj v r)
  len:P.length=L.length
  own:w.ownsRow B TRF 3 v L.length (rfsC L P)
  dat:∀ (i:Nat) (e:ByteArray × Fl) (d:Value),L[i]?=some e→P[i]?=some d→DvX (fun k=>RF G v k∨E k) w d e.2.bs
theorem own3_ty {n:Nat} {e:TypeId} {xs:List Value} {s:Nat} (h:w.ownsRow B e s v n xs) (k:Nat) (hk:v.ownBlock=some k):∃ cur,w.heap[k]?=some (.cells cur e (0,0)):=by
  rcases h.2 with ⟨rfl,_⟩|⟨g,cap,cur,rfl,_,h2,_⟩
  · cases hk
  · simp only [Value.ownBlock,Option.some.injEq] at hk
    subst hk
    exact ⟨cur,h2⟩
theorem own3_ch {n:Nat} {e:TypeId} {xs:List Value} {s:Nat} {S:Nat→Prop} (h:w.ownsRow B e s v n xs) (c:Ch S w w') (hS:∀ k,v.ownBlock=some k→¬ S k):w'.ownsRow B e s v n xs:=by
  refine ⟨h.1,?_⟩
  rcases h.2 with hn|⟨g,cap,cur,q,q1,q2,q3⟩
  · exact .inl hn
  · exact .inr ⟨g,cap,cur,q,q1,c.row q2 (hS g (by rw [q];rfl)),q3⟩
theorem RkAt.lt (h:RkAt w B G E r L v P):G<w.heap.size:=(Array.getElem?_eq_some_iff.1 h.row).1
theorem RkAt.vne (h:RkAt w B G E r L v P) (k:Nat) (hk:v.ownBlock=some k):k≠G:=by
  rintro rfl
  obtain ⟨cur,hc⟩:=own3_ty h.own k hk
  rw [h.row] at hc
  simp only [Option.some.injEq,Obj.cells.injEq] at hc
  exact absurd hc.2.1 (by decide)
theorem RkAt.foot_lt (h:RkAt w B G E r L v P) {k:Nat} (hk:RF G v k):B≤k∧k<w.heap.size:=by
  rcases hk with rfl|hk
  · exact ⟨h.hG,h.lt⟩
  · exact World.ownsRow.lt h.own k hk
theorem RkAt.next {S:Nat→Prop} (h:RkAt w B G E r L v P) (c:Ch S w w') (hS:∀ k,S k→E k) (hG:¬ S G) (hv:∀ k,v.ownBlock=some k→¬ S k) (hE:∀ k,k<w.heap.size→E' k→E k):RkAt w' B G E' r L v P :=
  ⟨h.hG,c.row h.row hG,h.len,own3_ch h.own c hv,fun i e d h1 h2=>(h.dat i e d h1 h2).ch (c.wide (fun k hk=>.inr (hS k hk))) (fun b hb hx=>hx.elim .inl (fun h=>.inr (hE b hb h)))⟩
theorem RkAt.below (h:RkAt w B G E r L v P) (hb:Below w.heap.size w w'):RkAt w' B G E r L v P :=
  h.next (S:=fun _=>False) (Ch.of_below hb) (fun _ h=>h.elim) (fun h=>h) (fun _ _ h=>h) (fun _ _ h=>h)
theorem RkAt.nums (h:RkAt w B G E r L v P) (c:Ch (At1 G) w w') (hr:w'.heap[G]?=some (rkObj v r')):RkAt w' B G E r' L v P :=
  ⟨h.hG,hr,h.len,own3_ch h.own c (fun k hk=>h.vne k hk),fun i e d h1 h2=>(h.dat i e d h1 h2).ch (c.wide (fun _ hk=>.inl (.inl hk))) (fun _ _ h=>h)⟩
theorem RkAt.cell (h:RkAt w B G E r L v P) (j:Nat):w.cell? ⟨G,j,none⟩=(rkCells v r)[j]?:=cell_of_row w G j _ _ _ h.row
theorem RkAt.frozen (h:RkAt w B G E r L v P) (j:Nat):w.frozen? ⟨G,j,none⟩=false:=by
  simp only [World.frozen?,h.row]
  simp
theorem RkAt.form (h:RkAt w B G E r L v P):∃ A c,v=.slice A L.length c∧L.length≤c∧c≤9223372036854775807:=by
  rcases h.own.2 with ⟨rfl,h0⟩|⟨g,cap,cur,rfl,_,_,h3,h4,_⟩
  · exact ⟨none,0,by rw [h0],by omega,by omega⟩
  · exact ⟨_,_,rfl,h3,by simpa only [maxLen] using h4⟩
theorem RkAt.at_ {A:Option Addr} {n c:Nat} (h:RkAt w B G E r L (.slice A n c) P) (hn:0<L.length):∃ g,A=some ⟨g,0,none⟩∧n=L.length∧(∀ i e,L[i]?=some e→∃ d,P[i]?=some d∧w.cell? ⟨g,i*3,none⟩=some (.string e.1)∧w.cell? ⟨g,i*3+1,none⟩=some d∧w.cell? ⟨g,i*3+2,none⟩=some (.int .i64 (e.2.safe:Int))):=by
  rcases h.own.2 with ⟨_,h0⟩|⟨g,cap,cur,hv,_,_,_,_,_⟩
  · omega
  · injection hv with e1 e2 e3
    subst e1 e2 e3
    refine ⟨g,rfl,rfl,fun i e he=>?_⟩
    have hi:i<L.length:=(List.getElem?_eq_some_iff.1 he).1
    have hp:P[i]?=some (P[i]'(by rw [h.len];exact hi)):=List.getElem?_eq_getElem _
    refine ⟨_,hp,?_,?_,?_⟩
    · have:=h.own.cellAt (i*3+0) (by omega)
      rw [rfsC_at he hp 0 (by omega)] at this
      exact this
    · have:=h.own.cellAt (i*3+1) (by omega)
      rw [rfsC_at he hp 1 (by omega)] at this
      exact this
    · have:=h.own.cellAt (i*3+2) (by omega)
      rw [rfsC_at he hp 2 (by omega)] at this
      exact this
end
def fidx:Fs→ByteArray→Int
  | [],_=>-1
  | (m,_) :: r,n=>if m=n then 0 else if fidx r n<0 then -1 else fidx r n+1
theorem fidx_none:∀ {L:Fs} {n:ByteArray},(∀ e ∈ L,e.1≠n)→fidx L n=-1
  | [],_,_=>rfl
  | (m,f) :: r,n,h=>by
    have ih:=fidx_none (L:=r) (n:=n) (fun e he=>h e (List.mem_cons_of_mem _ he))
    rw [fidx,if_neg (h (m,f) (by simp)),ih]
    rfl
theorem fidx_at:∀ {A Q:Fs} {n:ByteArray} {f:Fl},(∀ e ∈ A,e.1≠n)→fidx (A++(n,f) :: Q) n=(A.length:Int)
  | [],Q,n,f,_=>by rw [List.nil_append,fidx,if_pos rfl];rfl
  | (m,g) :: r,Q,n,f,h=>by
    have ih:=fidx_at (A:=r) (Q:=Q) (n:=n) (f:=f) (fun e he=>h e (List.mem_cons_of_mem _ he))
    rw [List.cons_append,fidx,if_neg (h (m,g) (by simp)),ih,if_neg (by omega)]
    simp
theorem fs_split (L:Fs) (n:ByteArray):(fget L n=none∧(∀ e ∈ L,e.1≠n)∧fidx L n=-1)∨∃ A f Q,L=A++(n,f) :: Q∧(∀ e ∈ A,e.1≠n)∧fget L n=some f∧fidx L n=(A.length:Int):=by
  induction L with
  | nil=>exact .inl ⟨rfl,(fun e he=>by cases he),rfl⟩
  | cons p r ih =>
    obtain ⟨m,g⟩:=p
    by_cases hm:m=n
    · subst hm
      refine .inr ⟨[],g,r,rfl,(fun e he=>by cases he),?_,?_⟩
      · simp [fget]
      · rw [fidx,if_pos rfl];rfl
    · have hm':¬ n=m:=fun e=>hm e.symm
      rcases ih with ⟨h1,h2,h3⟩|⟨A,f,Q,h1,h2,h3,h4⟩
      · refine .inl ⟨?_,?_,?_⟩
        · simp [fget,hm',h1]
        · intro e he
          rcases List.mem_cons.1 he with rfl|he
          · exact hm
          · exact h2 e he
        · rw [fidx,if_neg hm,h3];rfl
      · refine .inr ⟨(m,g) :: A,f,Q,by rw [h1];rfl,?_,?_,?_⟩
        · intro e he
          rcases List.mem_cons.1 he with rfl|he
          · exact hm
          · exact h2 e he
        · simp [fget,hm',h3]
        · rw [fidx,if_neg hm,h4,if_neg (by omega)];simp
def sumB (L:Fs):Nat:=(L.map fun e=>e.2.bs.length).sum
theorem sumB_take {L:Fs} {j:Nat} (h:j<L.length):sumB (L.take (j+1))=sumB (L.take j)+L[j].2.bs.length:=by
  unfold sumB
  rw [List.take_succ_eq_append_getElem h]
  simp only [List.map_append,List.map_cons,List.map_nil,List.sum_append,List.sum_cons,List.sum_nil,Nat.add_zero]
theorem sumB_take_le (L:Fs) (j:Nat):sumB (L.take j)≤sumB L:=by
  have:L=L.take j++L.drop j:=(List.take_append_drop j L).symm
  conv=>rhs;rw [this]
  unfold sumB
  simp only [List.map_append,List.sum_append]
  omega
section
variable {w w':World} {B G:Nat} {E:Nat→Prop} {r:Rk} {L:Fs} {v:Value} {P:List Value}
set_option maxHeartbeats 4000000 in
set_option maxRecDepth 100000 in
theorem rkFind (h:RkAt w B G E r L v P) (nm:ByteArray) (hl:L.length≤1000000):Calls Tryz.prog 61 #[pR G,.string nm] w fun e w'=>e=.returned (.int .i64 (fidx L nm))∧w=w':=by
  obtain ⟨A,c,rfl,hc1,hc2⟩:=h.form
  have H:=hid h
  have HL:=hid hl
  have c0:w.cell? ⟨G,0,none⟩=some (.slice A L.length c):=h.cell 0
  obtain ⟨n,hn⟩:∃ n,n=L.length:=⟨_,rfl⟩
  have HN:=hid hn
  rw [← hn] at c0 hc1
  have hcc:(n:Int)≤(c:Int):=by omega
  clear h hl hn hc1
  go_enter Tryz.func61,Tryz.ntmps61
  go_wp2_with (fail)
  go_loopw [5] (fun i wr=>∃ k:Nat,k≤n∧i=.int .i64 k∧(∀ e ∈ L.take k,e.1≠nm)∧wr=w) (fun i _=>n-(intOf i).toNat)
  case atStart=>exact ⟨0,by omega,rfl,(fun e he=>by cases he),rfl⟩
  case round =>
    obtain ⟨k,hk,rfl,hno,hw⟩:=hrel
    obtain rfl:=hw.symm
    have HNO:=hid hno
    clear hno
    by_cases hlt:k<n
    · have hkl:k<L.length:=by have:=HN.out;omega
      obtain ⟨e,he⟩:∃ e,e=L[k]:=⟨_,rfl⟩
      obtain ⟨g,rfl,_,hx⟩:=H.out.at_ (by omega)
      obtain ⟨d,_,x0,_,_⟩:=hx k e (by rw [he];exact List.getElem?_eq_getElem hkl)
      have hw5:IntKind.i64.wrap ((k:Int)+1)=(k:Int)+1:=IntWalk.i64_in _ (by have:=HL.out;omega)
      have HT:Hid (L.take (k+1)=L.take k++[e]):=hid (by rw [he];exact List.take_succ_eq_append_getElem hkl)
      have HD:Hid (L=L.take k++e :: L.drop (k+1)):=hid (by rw [he,List.getElem_cons_drop,List.take_append_drop])
      obtain ⟨m,f⟩:=e
      by_cases hm:m=nm
      · have e1:(m.toList == nm.toList)=true:=by rw [hm];simp
        have HF:Hid (fidx L nm=(k:Int)):=hid (by
          rw [HD.out]
          have e2:(m,f)=(nm,f):=by rw [hm]
          rw [e2,fidx_at HNO.out,List.length_take]
          congr 1
          omega)
        clear hx he hkl hm HT HD
        go_wp2_with (fail)
        go_ret
        exact ⟨by rw [HF.out];rfl,rfl⟩
      · have e1:(m.toList == nm.toList)=false:=by
          rw [beq_eq_false_iff_ne]
          intro e
          apply hm
          apply ByteArray.ext
          apply Array.toList_inj.1
          simpa [Go.ByteArray.toList_eq] using e
        have HNX:Hid (∀ e ∈ L.take (k+1),e.1≠nm):=hid (by
          rw [HT.out]
          intro e he
          rcases List.mem_append.1 he with h|h
          · exact HNO.out e h
          · rw [List.mem_singleton.1 h];exact hm)
        clear hx he hkl hm HT HD
        go_wp2_with (fail)
        exact ⟨⟨k+1,by omega,rfl,HNX.out,trivial⟩,by simp [intOf];omega⟩
    · have HF:Hid (fidx L nm=-1):=hid (fidx_none (fun e he=>HNO.out e (by rw [List.take_of_length_le (by have:=HN.out;omega)];exact he)))
      obtain rfl:k=n:=by omega
      clear hlt
      go_wp2_with (fail)
      go_ret
      exact ⟨by rw [HF.out];rfl,rfl⟩
set_option maxHeartbeats 4000000 in
set_option maxRecDepth 100000 in
theorem rkUsed (h:RkAt w B G E r L v P) (hl:L.length≤1000000) (hs:sumB L≤1099511627776):Calls Tryz.prog 127 #[pR G] w fun e w'=>e=.returned (.int .i64 (sumB L:Int))∧w=w':=by
  obtain ⟨A,c,rfl,hc1,hc2⟩:=h.form
  have H:=hid h
  have HL:=hid hl
  have HS:=hid (fun k=>Nat.le_trans (sumB_take_le L k) hs)
  have c0:w.cell? ⟨G,0,none⟩=some (.slice A L.length c):=h.cell 0
  obtain ⟨n,hn⟩:∃ n,n=L.length:=⟨_,rfl⟩
  have HN:=hid hn
  rw [← hn] at c0 hc1
  have hcc:(n:Int)≤(c:Int):=by omega
  clear h hl hn hc1 hs
  go_enter Tryz.func127,Tryz.ntmps127
  go_wp2_with (fail)
  go_loopw [4,3] (fun i s wr=>∃ k:Nat,k≤n∧i=.int .i64 k∧s=.int .i64 (sumB (L.take k):Nat)∧wr=w) (fun i _ _=>n-(intOf i).toNat)
  case atStart=>exact ⟨0,by omega,rfl,rfl,rfl⟩
  case round =>
    obtain ⟨k,hk,rfl,rfl,hw⟩:=hrel
    obtain rfl:=hw.symm
    by_cases hlt:k<n
    · have hkl:k<L.length:=by have:=HN.out;omega
      have HT:=hid (sumB_take hkl)
      have HSK:=hid (HS.out (k+1))
      obtain ⟨e,he⟩:∃ e,e=L[k]:=⟨_,rfl⟩
      obtain ⟨g,rfl,_,hx⟩:=H.out.at_ (by omega)
      obtain ⟨d,hpd,_,x1,_⟩:=hx k e (by rw [he];exact List.getElem?_eq_getElem hkl)
      obtain ⟨A5,m5,c5,rfl,hB5,_⟩:=H.out.dat k e d (by rw [he];exact List.getElem?_eq_getElem hkl) hpd
      have hm5:e.2.bs.length=m5:=hB5.len
      rw [← he,hm5] at HT
      have hw5:IntKind.i64.wrap ((k:Int)+1)=(k:Int)+1:=IntWalk.i64_in _ (by have:=HL.out;omega)
      have hw6:IntKind.i64.wrap ((sumB (L.take k):Int)+(m5:Int))=((sumB (L.take (k+1)):Nat):Int):=by
        rw [HT.out]
        push_cast
        exact IntWalk.i64_in _ (by have:=HSK.out;have:=HT.out;omega)
      obtain ⟨q,hq⟩:∃ q,q=sumB (L.take k):=⟨_,rfl⟩
      obtain ⟨q',hq'⟩:∃ q',q'=sumB (L.take (k+1)):=⟨_,rfl⟩
      have HQ:=hid hq'
      rw [← hq,← hq'] at hw6
      rw [← hq]
      clear hx he hkl hpd hB5 hq hq' hm5
      go_wp2_with (fail)
      exact ⟨⟨k+1,by omega,rfl,by rw [HQ.out],trivial⟩,by simp [intOf];omega⟩
    · have HT:Hid (L.take k=L):=hid (List.take_of_length_le (by have:=HN.out;omega))
      rw [HT.out]
      obtain rfl:k=n:=by omega
      clear hlt
      go_wp2_with (fail)
      go_ret
      exact ⟨rfl,rfl⟩
def Rk.begin (r:Rk):Rk:={ r with count:=r.count+1,armed:=if r.armed=0 then 0 else r.armed-1 }
set_option maxHeartbeats 4000000 in
theorem rkBegin (h:RkAt w B G E r L v P) (hc:0≤r.count∧r.count≤1152921504606846976) (ha:0≤r.armed∧r.armed≤9223372036854775807):Calls Tryz.prog 77 #[pR G] w fun e w'=>e=.returned (.bool (r.armed == 1))∧RkAt w' B G E r.begin L v P∧Ch (At1 G) w w':=by
  have H:=hid h
  have HA:=hid ha
  have c2:w.cell? ⟨G,2,none⟩=some (.int .i64 r.count):=h.cell 2
  have c3:w.cell? ⟨G,3,none⟩=some (.int .i64 r.armed):=h.cell 3
  have f2:=h.frozen 2
  have f3:=h.frozen 3
  have hw1:IntKind.i64.wrap (r.count+1)=r.count+1:=IntWalk.i64_in _ (by omega)
  have HR1:Hid ((w.setCell ⟨G,2,none⟩ (.int .i64 (r.count+1))).heap[G]?=some (rkObj v { r with count:=r.count+1 })):=hid (heap_set_row h.row _)
  have HC1:Hid (Ch (At1 G) w (w.setCell ⟨G,2,none⟩ (.int .i64 (r.count+1)))):=hid ((Ch.refl _ _).set1 2 _)
  have c3':=cell_of_row _ G 3 _ _ _ HR1.out
  have f3':(w.setCell ⟨G,2,none⟩ (.int .i64 (r.count+1))).frozen? ⟨G,3,none⟩=false:=by
    simp only [World.frozen?,HR1.out]
    simp
  simp only [List.getElem?_toArray,List.getElem?_cons_zero,List.getElem?_cons_succ] at c3'
  clear h hc
  by_cases h0:r.armed=0
  · have e1:(r.armed == 0)=true:=by rw [h0];rfl
    have HB:Hid (r.begin={ r with count:=r.count+1 }):=hid (by unfold Rk.begin;rw [if_pos h0];obtain ⟨a,b,c,d,e⟩:=r;simp only at h0;subst h0;rfl)
    have HE:Hid ((r.armed == 1)=false):=hid (by rw [h0];rfl)
    clear h0 ha
    go_enter Tryz.func77,Tryz.ntmps77
    go_wp2_with (fail)
    go_ret
    exact ⟨by rw [HE.out];rfl,by rw [HB.out];exact H.out.nums HC1.out HR1.out,HC1.out⟩
  · have e1:(r.armed == 0)=false:=by rw [beq_eq_false_iff_ne];exact h0
    have hw2:IntKind.i64.wrap (r.armed-1)=r.armed-1:=IntWalk.i64_in _ (by omega)
    have HR2:Hid (((w.setCell ⟨G,2,none⟩ (.int .i64 (r.count+1))).setCell ⟨G,3,none⟩ (.int .i64 (r.armed-1))).heap[G]?=some (rkObj v { r with count:=r.count+1,armed:=r.armed-1 })):=hid (heap_set_row HR1.out _)
    have HC2:Hid (Ch (At1 G) w ((w.setCell ⟨G,2,none⟩ (.int .i64 (r.count+1))).setCell ⟨G,3,none⟩ (.int .i64 (r.armed-1)))):=hid (HC1.out.set1 3 _)
    have c3'':=cell_of_row _ G 3 _ _ _ HR2.out
    simp only [List.getElem?_toArray,List.getElem?_cons_zero,List.getElem?_cons_succ] at c3''
    have HB:Hid (r.begin={ r with count:=r.count+1,armed:=r.armed-1 }):=hid (by unfold Rk.begin;rw [if_neg h0])
    have HE:Hid ((r.armed-1 == 0)=(r.armed == 1)):=hid (by rw [Bool.eq_iff_iff];simp;omega)
    clear h0 ha
    go_enter Tryz.func77,Tryz.ntmps77
    go_wp2_with (fail)
    go_ret
    exact ⟨by rw [← HE.out];rfl,by rw [HB.out];exact H.out.nums HC2.out HR2.out,HC2.out⟩
end
end
end Go.Proofs.YtodjilljcjkacaaGreatDoor
