/- Laid together: ScanR13, Rk0, Rk1, RefName. -/
import Derived.Test.YtodjilljcjkacaaGreatDoorPkIB6
import Derived.Deep.AppendLies
import Derived.Sort.Walk0
import Derived.BigQuiet

namespace Go.Proofs.YtodjilljcjkacaaGreatDoor
open Lib (hid)
section
open Go.RowKit
def RetSF13 (l:List UInt8) (w:World) (e:Ending) (w':World):Prop:=∃ A c,e=.returned (.slice A l.length c)∧Bs w' A l.length c l∧Below w.heap.size w w'∧∀ a,A=some a→w.heap.size≤a.block
set_option maxRecDepth 100000 in
set_option maxHeartbeats 2000000 in
theorem refPut13F (A:Option Addr) (n c:Nat) (l:List UInt8) (w:World) (hB:Bs w A n c l) (hn:n≤1000000000) :
    Calls Tryz.prog 88 #[.slice A n c] w (RetSF13 (record l) w):=by
  have HB:=hid hB
  have HL:l.length=n:=hB.len
  have hx:n<4294967296:=by omega
  have hw32:IntKind.u32.wrap (n:Int)=(n:Int):=by rw [IntKind.wrap_u32];omega
  have hs:=Crc.sum_lt (s:=0) (be4 n++l) (by omega)
  have HLH:=hid HL
  clear hB HL
  go_enter Tryz.func88,Tryz.ntmps88
  go_wp2_with (fail)
  refine (refFour n w hx).mono ?_
  rintro e w' ⟨p,q,r,s,hbe,rfl,rfl⟩
  have HBE:=hid hbe
  have HB1:Hid (Below w.heap.size w (w.alloc (.cells #[.int .u8 (p.toNat:Int),.int .u8 (q.toNat:Int),.int .u8 (r.toNat:Int),.int .u8 (s.toNat:Int)] 5))):=hid ((Below.refl _ _).alloc (Nat.le_refl _) _)
  have HF1:=hid (Bs.lit w [p,q,r,s] 5 #[.int .u8 (p.toNat:Int),.int .u8 (q.toNat:Int),.int .u8 (r.toNat:Int),.int .u8 (s.toNat:Int)] w.heap.size rfl rfl rfl (by simp [maxLen]))
  rw [show ([p,q,r,s]:List UInt8).length=4 from rfl] at HF1
  clear hbe
  have HBL:=hid (HB.out.below HB1.out)
  obtain ⟨g0,hg0⟩:∃ g0,w.heap.size=g0:=⟨_,rfl⟩
  rw [hg0] at HF1 HB1 ⊢
  have HG0:=hid hg0
  have HZ1:Hid (g0≤(w.alloc (.cells #[.int .u8 (p.toNat:Int),.int .u8 (q.toNat:Int),.int .u8 (r.toNat:Int),.int .u8 (s.toNat:Int)] 5)).heap.size):=hid (by have:=HB1.out.size;rw [hg0] at this;exact this)
  clear hg0
  generalize (w.alloc (.cells #[.int .u8 (p.toNat:Int),.int .u8 (q.toNat:Int),.int .u8 (r.toNat:Int),.int .u8 (s.toNat:Int)] 5))=w1 at *
  have tok1:True:=trivial
  have tok2:True:=trivial
  go_wp2_with (first
    | (at_builtin;have _t:=tok1;go_loud ((refine wpList_app rfl (.tmp 9) (.tmp 10) 40 rfl w1.heap.size 5 Tryz.underlying40 byteInfo _ [] rfl (Own.lit 5 w1 [] (Nat.le_refl _) (by simp [maxLen])) _ 4 4 [p,q,r,s] rfl (HF1.out.alloc _) (by simp) (by simp) ?_;intro v2 w2 hown2 hb2 hg2;have b2:=(((Below.refl _ w1).alloc (Nat.le_refl _) _)).trans hb2;clear tok1 hb2 hg2 _t)))
    | (at_builtin;have _t:=tok2;go_loud ((refine wpList_app rfl (.tmp 11) (.tmp 12) 40 rfl w1.heap.size 5 Tryz.underlying40 byteInfo _ ([]++[p,q,r,s]) rfl hown2 _ n c l rfl (HBL.out.below b2) (by simp;omega) b2.size ?_;intro v3 w3 hown3 hb3 hg3;have b3:=b2.trans hb3;clear tok2 hb3 hg3 _t))))
  have hE:([]++[p,q,r,s]++l:List UInt8)=be4 n++l:=by rw [HBE.out];rfl
  rw [hE] at hown3
  obtain ⟨A3,c3,rfl,hB3,_⟩:=hown3.bs
  have hEL:(be4 n++l).length=n+4:=by simp [be4,HLH.out];try omega
  rw [hEL] at hB3 ⊢
  have HB3:=hid (HB1.out.trans (b3.mono HZ1.out))
  have HF3:=hid (HF1.out.below b3)
  have HZ3:=hid b3.size
  have HBL3:=hid (HBL.out.below b3)
  have HX3:=hid hB3
  have HSL:=hid hEL
  clear hB3 hown3 b3 b2 hown2 hE hEL
  refine (refSum A3 (n+4) c3 (be4 n++l) w3 HX3.out).mono ?_
  rintro e w' ⟨rfl,rfl⟩
  have HREC:Hid (record l=[]++[p,q,r,s]++be4 (Crc.sum 0 (be4 n++l))++l):=hid (by unfold record;rw [HLH.out,HBE.out];rfl)
  generalize Crc.sum 0 (be4 n++l)=x at *
  have tok3:True:=trivial
  have tok4:True:=trivial
  have tok5:True:=trivial
  go_wp2_with (at_builtin;have _t:=tok3;go_loud ((refine wpList_app rfl (.tmp 15) (.tmp 16) 40 rfl w3.heap.size 5 Tryz.underlying40 byteInfo _ [] rfl (Own.lit 5 w3 [] (Nat.le_refl _) (by simp [maxLen])) _ 4 4 [p,q,r,s] rfl (HF3.out.alloc _) (by simp) (by simp) ?_;intro v4 w4 hown4 hb4 hg4;have b4:=(((Below.refl _ w3).alloc (Nat.le_refl _) _)).trans hb4;clear tok3 hb4 hg4 _t)))
  refine (refFour x w4 hs).mono ?_
  rintro e w' ⟨p2,q2,r2,s2,hbe2,rfl,rfl⟩
  have HBE2:=hid hbe2
  have HO5:=hid (hown4.alloc (.cells #[.int .u8 (p2.toNat:Int),.int .u8 (q2.toNat:Int),.int .u8 (r2.toNat:Int),.int .u8 (s2.toNat:Int)] 5))
  have HB4:=hid b4
  have hz4:=b4.size
  clear hbe2 hown4 b4
  go_wp2_with (first
    | (at_builtin;have _t:=tok4;go_loud ((refine wpList_app rfl (.tmp 17) (.tmp 19) 40 rfl w3.heap.size 5 Tryz.underlying40 byteInfo _ ([]++[p,q,r,s]) rfl HO5.out _ 4 4 [p2,q2,r2,s2] rfl (Bs.lit w4 [p2,q2,r2,s2] _ _ _ rfl rfl rfl (by simp [maxLen])) (by simp) (by simp;omega) ?_;intro v5 w5 hown5 hb5 hg5;have b5:=(HB4.out.alloc HB4.out.size _).trans hb5;clear tok4 hb5 hg5 _t)))
    | (at_builtin;have _t:=tok5;go_loud ((refine wpList_app rfl (.tmp 20) (.tmp 21) 40 rfl w3.heap.size 5 Tryz.underlying40 byteInfo _ ([]++[p,q,r,s]++[p2,q2,r2,s2]) rfl hown5 _ n c l rfl (HBL3.out.below b5) (by simp;omega) b5.size ?_;intro v6 w6 hown6 hb6 hg6;have b6:=b5.trans hb6;clear tok5 hb6 hg6 _t))))
  go_ret
  have e:[]++[p,q,r,s]++[p2,q2,r2,s2]++l=record l:=by rw [HREC.out,HBE2.out]
  rw [e] at hown6
  obtain ⟨A7,c7,rfl,hB7,hf7⟩:=hown6.bs
  have h0:=HB3.out.trans (b6.mono (Nat.le_trans HZ1.out HZ3.out))
  exact ⟨A7,c7,rfl,hB7,by rw [HG0.out];exact h0,fun a ha=>by have h1:=hf7 a ha;have h2:=HZ1.out;have h3:=HZ3.out;have h4:=HG0.out;omega⟩
set_option maxHeartbeats 4000000 in
set_option maxRecDepth 100000 in
theorem refScann (A:Option Addr) (n c:Nat) (l:List UInt8) (w:World) (hB:Bs w A n c l) (hN:n≤2000000000) :
    Calls Tryz.prog 45 #[.slice A n c] w (ScanPostn l w):=by
  have hlen:=hid hB.len
  have hmax:=hB.nmax
  have hle:=hB.le
  have hcm:=hB.max
  have HB:=hid hB
  clear hB
  go_enter Tryz.func45,Tryz.ntmps45
  go_wp2_with (fail)
  go_loopw [5,6,7,8,9] (fun v i _ _ _ wr=>∃ (p:Nat) (acc:List (List UInt8)),i=.int .i64 p∧Rw w.heap.size (fun k=>k<w.heap.size) wr v acc∧ScanAt l p acc∧Below w.heap.size w wr) (fun _ i _ _ _ _=>n-(intOf i).toNat)
  case atStart=>exact ⟨0,[],rfl,Rw.nil _ _ _,ScanAt.start l,Below.refl _ _⟩
  case round =>
    obtain ⟨wo,rfl⟩:∃ wo:World,wo=wr:=⟨_,rfl⟩
    obtain ⟨p,acc,rfl,hr,ha,hb⟩:=hrel
    obtain ⟨v,hv⟩:∃ v,v=u5:=⟨_,rfl⟩
    subst hv
    have HR:=hid hr
    have HA:=hid ha
    have HBB:=hid hb
    have hpn:p≤n:=by have:=ha.1;have:=hlen.out;omega
    clear hr ha hb
    by_cases hlt:p<n
    · obtain ⟨b,o,rfl,hbl,_⟩:=HB.out.at_ (by omega)
      have e1:(p:Int)<(n:Int):=by omega
      have e9:¬ c=p:=by omega
      have hpi:(p:Int)≤(n:Int):=by omega
      have hpc:p≤c:=by omega
      have hd:=(HB.out.drop (i:=p) (by omega)).below HBB.out
      rw [if_neg e9,Option.map_some,Addr.add_lit] at hd
      have HD:=hid hd
      have HLT:=hid hlt
      obtain ⟨Av,cv,hv⟩:=HR.out.form
      subst hv
      clear hd hlt hbl
      go_wp2_with (fail)
      refine (refGet13 _ (n-p) (c-p) (l.drop p) wo HD.out (by omega)).mono ?_
      rintro e w1 ⟨A1,c1,rfl,hB1,hfr,hb1⟩
      have HX:=hid hB1
      have HFR:=hid hfr
      have HR1:=hid (HR.out.below hb1)
      have HB1:Hid (Below w.heap.size w w1):=hid (HBB.out.trans (hb1.mono HBB.out.size))
      have HZ1:=hid hb1.size
      clear hB1 hfr hb1
      by_cases he:getErr (l.drop p)=0
      · have HA1:=hid (HA.out.more he)
        have hgl:=getErr_len he
        have hdl:=HD.out.len
        have hkp:getLen (l.drop p)≤n-p:=by omega
        have hk9:9≤getLen (l.drop p):=hgl.1
        have hacc:acc.length≤n:=by have:=HA.out.2.1;omega
        rw [he]
        clear he hgl hdl
        generalize getGet (l.drop p)=x at *
        generalize getLen (l.drop p)=k at *
        have HLT1:Hid (0<x.length→∀ b,A1=some b→¬ (Value.slice Av acc.length cv).ownBlock=some b.block∧¬ b.block<w.heap.size):=hid (fun _ b hb=>by
          have h1:=HFR.out b hb
          obtain ⟨vs,hv⟩:=HR.out
          have h2:=HBB.out.size;exact ⟨fun e=>by have:=(World.ownsRow.lt hv.2.1 _ e).2;omega,by omega⟩)
        have HA2:=hid ((Below.refl w1.heap.size w1).alloc (Nat.le_refl _) (.cells #[.slice A1 x.length c1] 40))
        have HR2:=hid (HR1.out.below HA2.out)
        have HROW:=hid (heap_alloc_new w1 (.cells #[.slice A1 x.length c1] 40))
        have HXA:=hid (HX.out.below HA2.out)
        have HBZ:Hid (w.heap.size≤(w1.alloc (.cells #[.slice A1 x.length c1] 40)).heap.size):=hid (Nat.le_trans HB1.out.size HA2.out.size)
        obtain ⟨Z,hZ⟩:∃ Z,acc++[x]=Z:=⟨_,rfl⟩
        rw [hZ] at HA1
        have HZ:=hid hZ
        clear hZ
        have tok1:Hid True:=hid trivial
        go_wp2_with (at_builtin;have _t:=tok1;go_loud ((refine wpList_rw rfl (.tmp 27) (.tmp 29) rfl w.heap.size (fun k=>k<w.heap.size) (.slice Av acc.length cv) acc x A1 c1 rfl HR2.out HXA.out HLT1.out (by have:=HBZ.out;omega) w1.heap.size rfl HROW.out (by omega) HBZ.out ?_;intro v2 w2 hw2 hgr2 hfr2;rw [HZ.out] at hw2;obtain ⟨A2,c2,rfl⟩:=hw2.form;have HR3:=hid hw2;have HCH:Hid (Below w.heap.size w w2):=hid ((HB1.out.trans (HA2.out.mono HB1.out.size)).trans ((Ch.of_grown (S:=fun k=>(Value.slice Av acc.length cv).ownBlock=some k) hgr2 (fun k hk=>hk)).below (fun k hk=>(by obtain ⟨vs,hv⟩:=HR2.out;exact (World.ownsRow.lt hv.2.1 k hk).1)) HBZ.out));clear tok1 hw2 hgr2 hfr2 _t)))
        exact ⟨⟨p+k,Z,by go_num,HR3.out,HA1.out,HCH.out⟩,by have:=HLT.out;simp [intOf];omega⟩
      · have hst:=HA.out.stop (by rw [hlen.out];exact HLT.out) he
        have hne:(getErr (l.drop p) != 0)=true:=by rw [bne_iff_ne];exact he
        have hge:=get_err (l:=l.drop p) rfl he
        have HST:=hid hst
        rw [hge.1,hge.2]
        clear hst he hge
        generalize getErr (l.drop p)=er at *
        go_wp2_with (fail)
        go_ret3
        refine ⟨.slice Av acc.length cv,?_,?_,HB1.out⟩
        · rw [HST.out];rfl
        · rw [HST.out];exact HR1.out
    · obtain rfl:p=n:=by omega
      have hst:=HA.out.all hlen.out.symm
      obtain ⟨Av,cv,hv⟩:=HR.out.form
      subst hv
      have HST:=hid hst
      clear hst hlt
      go_wp2_with (fail)
      go_ret3
      refine ⟨.slice Av acc.length cv,?_,?_,HBB.out⟩
      · rw [HST.out];rfl
      · rw [HST.out];exact HR.out
end
section
open Go.RowKit Go.MapKept
structure Rk where
  size:Int
  count:Int
  armed:Int
  keep:Int
  fail:Int
abbrev TRD:TypeId:=35
abbrev TRF:TypeId:=124
abbrev TRL:TypeId:=33
abbrev pR (G:Nat):Value:=.pointer (some ⟨G,0,none⟩)
abbrev rkCells (v:Value) (r:Rk):Array Value:=#[v,.int .i64 r.size,.int .i64 r.count,.int .i64 r.armed,.int .i64 r.keep,.int .i64 r.fail]
abbrev rkObj (v:Value) (r:Rk):Obj:=.cells (rkCells v r) TRD
abbrev rfC (e:ByteArray × Fl) (d:Value):List Value:=[.string e.1,d,.int .i64 (e.2.safe:Int)]
def rfsC:Fs→List Value→List Value
  | e :: L,d :: P=>rfC e d++rfsC L P
  | _,_=>[]
theorem rfsC_len:∀ {L:Fs} {P:List Value},P.length=L.length→(rfsC L P).length=L.length*3
  | [],[],_=>rfl
  | e :: L,d :: P,h=>by
    have:=rfsC_len (L:=L) (P:=P) (by simpa using h)
    simp only [rfsC,rfC,List.length_append,List.length_cons,List.length_nil,this]
    omega
theorem rfsC_at:∀ {L:Fs} {P:List Value} {i:Nat} {e:ByteArray × Fl} {d:Value},L[i]?=some e→P[i]?=some d→∀ j,j<3→(rfsC L P)[i*3+j]?=(rfC e d)[j]?
  | [],_,_,_,_,h,_,_,_=>by simp at h
  | _ :: _,[],_,_,_,_,h,_,_=>by simp at h
  | y :: L,q :: P,0,e,d,h,h',j,hj=>by
    simp only [List.getElem?_cons_zero,Option.some.injEq] at h h'
    subst h h'
    simp only [rfsC,Nat.zero_mul,Nat.zero_add]
    rw [List.getElem?_append_left (by simp [rfC];omega)]
  | y :: L,q :: P,i+1,e,d,h,h',j,hj=>by
    simp only [List.getElem?_cons_succ] at h h'
    have:=rfsC_at h h' j hj
    simp only [rfsC]
    rw [List.getElem?_append_right (by simp [rfC];omega),← this]
    congr 1
    simp [rfC]
    omega
theorem rfsC_app:∀ {L:Fs} {P:List Value} (M:Fs) (Q:List Value),P.length=L.length→rfsC (L++M) (P++Q)=rfsC L P++rfsC M Q
  | [],[],M,Q,_=>by simp [rfsC]
  | y :: L,q :: P,M,Q,h=>by
    have:=rfsC_app (L:=L) (P:=P) M Q (by simpa using h)
    simp only [List.cons_append,rfsC,this,List.append_assoc]
theorem frz {w:World} {g j:Nat} {C:Array Value} {t:TypeId} (h:w.heap[g]?=some (.cells C t)):w.frozen? ⟨g,j,none⟩=false:=by
  simp only [World.frozen?,h]
  first | done | simp
def DvX (X:Nat→Prop) (w:World) (v:Value) (l:List UInt8):Prop:=∃ A m c,v=.slice A m c∧Bs w A m c l∧∀ a,A=some a→m=0∨¬ X a.block
section
variable {w w':World} {B G:Nat} {E E' X Y:Nat→Prop} {r r':Rk} {L L':Fs} {v v' d:Value} {P P':List Value}
theorem DvX.ch {l:List UInt8} (h:DvX X w v l) (hc:Ch X w w') (hY:∀ b,b<w.heap.size→Y b→X b):DvX Y w' v l:=by
  obtain ⟨A,m,c,e,hB,hx⟩:=h
  refine ⟨A,m,c,e,⟨hB.1,hB.2.1,hB.2.2.1,fun hn=>?_⟩,fun a ha=>?_⟩
  · obtain ⟨b,o,eA,hlt,hcell⟩:=hB.at_ hn
    refine ⟨b,o,eA,fun i x hi=>?_⟩
    have hne:=(hx _ eA).resolve_left (by omega)
    have hb:=hc.block b hlt hne
    have:=hcell i x hi
    simp only [World.cell?,hb] at this ⊢
    exact this
  · by_cases h0:m=0
    · exact .inl h0
    · obtain ⟨b,o,eA,hlt,_⟩:=hB.at_ (by omega)
      rw [ha] at eA
      injection eA with eA
      subst eA
      exact .inr (fun hy=>(hx _ ha).resolve_left h0 (hY _ hlt hy))
theorem Ch.wide {S S':Nat→Prop} (h:Ch S w w') (hS:∀ k,S k→S' k):Ch S' w w':=⟨h.os,h.tape,h.output,h.size,fun k hk hn=>h.block k hk (fun hs=>hn (hS k hs))⟩
abbrev RF (G:Nat) (v:Value):Nat→Prop:=fun k=>k=G∨v.ownBlock=some k
structure RkAt (w:World) (B G:Nat) (E:Nat→Prop) (r:Rk) (L:Fs) (v:Value) (P:List Value):Prop where
  hG:B≤G
  row:w.heap[G]?=some (rkObj v r)
  len:P.length=L.length
  own:w.ownsRow B TRF 3 v L.length (rfsC L P)
  dat:∀ (i:Nat) (e:ByteArray × Fl) (d:Value),L[i]?=some e→P[i]?=some d→DvX (fun k=>RF G v k∨E k) w d e.2.bs
theorem own3_ty {n:Nat} {e:TypeId} {xs:List Value} {s:Nat} (h:w.ownsRow B e s v n xs) (k:Nat) (hk:v.ownBlock=some k):∃ cur,w.heap[k]?=some (.cells cur e (0,0)):=by
  rcases h.2 with ⟨rfl,_⟩|⟨g,cap,cur,rfl,_,h2,_⟩
  · cases hk
  · simp only [Value.ownBlock,Option.some.injEq] at hk
    subst hk
    exact ⟨cur,h2⟩
theorem own3_ch {n:Nat} {e:TypeId} {xs:List Value} {s:Nat} {S:Nat→Prop} (h:w.ownsRow B e s v n xs) (c:Ch S w w') (hS:∀ k,v.ownBlock=some k→¬ S k):w'.ownsRow B e s v n xs:=by
  refine ⟨h.1,?_⟩
  rcases h.2 with hn|⟨g,cap,cur,q,q1,q2,q3⟩
  · exact .inl hn
  · exact .inr ⟨g,cap,cur,q,q1,c.row q2 (hS g (by rw [q];rfl)),q3⟩
theorem RkAt.lt (h:RkAt w B G E r L v P):G<w.heap.size:=(Array.getElem?_eq_some_iff.1 h.row).1
theorem RkAt.vne (h:RkAt w B G E r L v P) (k:Nat) (hk:v.ownBlock=some k):k≠G:=by
  rintro rfl
  obtain ⟨cur,hc⟩:=own3_ty h.own k hk
  rw [h.row] at hc
  simp only [Option.some.injEq,Obj.cells.injEq] at hc
  exact absurd hc.2.1 (by decide)
theorem RkAt.foot_lt (h:RkAt w B G E r L v P) {k:Nat} (hk:RF G v k):B≤k∧k<w.heap.size:=by
  rcases hk with rfl|hk
  · exact ⟨h.hG,h.lt⟩
  · exact World.ownsRow.lt h.own k hk
theorem RkAt.next {S:Nat→Prop} (h:RkAt w B G E r L v P) (c:Ch S w w') (hS:∀ k,S k→E k) (hG:¬ S G) (hv:∀ k,v.ownBlock=some k→¬ S k) (hE:∀ k,k<w.heap.size→E' k→E k):RkAt w' B G E' r L v P :=
  ⟨h.hG,c.row h.row hG,h.len,own3_ch h.own c hv,fun i e d h1 h2=>(h.dat i e d h1 h2).ch (c.wide (fun k hk=>.inr (hS k hk))) (fun b hb hx=>hx.elim .inl (fun h=>.inr (hE b hb h)))⟩
theorem RkAt.below (h:RkAt w B G E r L v P) (hb:Below w.heap.size w w'):RkAt w' B G E r L v P :=
  h.next (S:=fun _=>False) (Ch.of_below hb) (fun _ h=>h.elim) (fun h=>h) (fun _ _ h=>h) (fun _ _ h=>h)
theorem RkAt.nums (h:RkAt w B G E r L v P) (c:Ch (At1 G) w w') (hr:w'.heap[G]?=some (rkObj v r')):RkAt w' B G E r' L v P :=
  ⟨h.hG,hr,h.len,own3_ch h.own c (fun k hk=>h.vne k hk),fun i e d h1 h2=>(h.dat i e d h1 h2).ch (c.wide (fun _ hk=>.inl (.inl hk))) (fun _ _ h=>h)⟩
theorem RkAt.cell (h:RkAt w B G E r L v P) (j:Nat):w.cell? ⟨G,j,none⟩=(rkCells v r)[j]?:=cell_of_row w G j _ _ _ h.row
theorem RkAt.frozen (h:RkAt w B G E r L v P) (j:Nat):w.frozen? ⟨G,j,none⟩=false:=by
  simp only [World.frozen?,h.row]
  simp
theorem RkAt.form (h:RkAt w B G E r L v P):∃ A c,v=.slice A L.length c∧L.length≤c∧c≤9223372036854775807:=by
  rcases h.own.2 with ⟨rfl,h0⟩|⟨g,cap,cur,rfl,_,_,h3,h4,_⟩
  · exact ⟨none,0,by rw [h0],by omega,by omega⟩
  · exact ⟨_,_,rfl,h3,by simpa only [maxLen] using h4⟩
theorem RkAt.at_ {A:Option Addr} {n c:Nat} (h:RkAt w B G E r L (.slice A n c) P) (hn:0<L.length):∃ g,A=some ⟨g,0,none⟩∧n=L.length∧(∀ i e,L[i]?=some e→∃ d,P[i]?=some d∧w.cell? ⟨g,i*3,none⟩=some (.string e.1)∧w.cell? ⟨g,i*3+1,none⟩=some d∧w.cell? ⟨g,i*3+2,none⟩=some (.int .i64 (e.2.safe:Int))):=by
  rcases h.own.2 with ⟨_,h0⟩|⟨g,cap,cur,hv,_,_,_,_,_⟩
  · omega
  · injection hv with e1 e2 e3
    subst e1 e2 e3
    refine ⟨g,rfl,rfl,fun i e he=>?_⟩
    have hi:i<L.length:=(List.getElem?_eq_some_iff.1 he).1
    have hp:P[i]?=some (P[i]'(by rw [h.len];exact hi)):=List.getElem?_eq_getElem _
    refine ⟨_,hp,?_,?_,?_⟩
    · have:=h.own.cellAt (i*3+0) (by omega)
      rw [rfsC_at he hp 0 (by omega)] at this
      exact this
    · have:=h.own.cellAt (i*3+1) (by omega)
      rw [rfsC_at he hp 1 (by omega)] at this
      exact this
    · have:=h.own.cellAt (i*3+2) (by omega)
      rw [rfsC_at he hp 2 (by omega)] at this
      exact this
end
def fidx:Fs→ByteArray→Int
  | [],_=>-1
  | (m,_) :: r,n=>if m=n then 0 else if fidx r n<0 then -1 else fidx r n+1
theorem fidx_none:∀ {L:Fs} {n:ByteArray},(∀ e ∈ L,e.1≠n)→fidx L n=-1
  | [],_,_=>rfl
  | (m,f) :: r,n,h=>by
    have ih:=fidx_none (L:=r) (n:=n) (fun e he=>h e (List.mem_cons_of_mem _ he))
    rw [fidx,if_neg (h (m,f) (by simp)),ih]
    rfl
theorem fidx_at:∀ {A Q:Fs} {n:ByteArray} {f:Fl},(∀ e ∈ A,e.1≠n)→fidx (A++(n,f) :: Q) n=(A.length:Int)
  | [],Q,n,f,_=>by rw [List.nil_append,fidx,if_pos rfl];rfl
  | (m,g) :: r,Q,n,f,h=>by
    have ih:=fidx_at (A:=r) (Q:=Q) (n:=n) (f:=f) (fun e he=>h e (List.mem_cons_of_mem _ he))
    rw [List.cons_append,fidx,if_neg (h (m,g) (by simp)),ih,if_neg (by omega)]
    simp
theorem fs_split (L:Fs) (n:ByteArray):(fget L n=none∧(∀ e ∈ L,e.1≠n)∧fidx L n=-1)∨∃ A f Q,L=A++(n,f) :: Q∧(∀ e ∈ A,e.1≠n)∧fget L n=some f∧fidx L n=(A.length:Int):=by
  induction L with
  | nil=>exact .inl ⟨rfl,(fun e he=>by cases he),rfl⟩
  | cons p r ih =>
    obtain ⟨m,g⟩:=p
    by_cases hm:m=n
    · subst hm
      refine .inr ⟨[],g,r,rfl,(fun e he=>by cases he),?_,?_⟩
      · simp [fget]
      · rw [fidx,if_pos rfl];rfl
    · have hm':¬ n=m:=fun e=>hm e.symm
      rcases ih with ⟨h1,h2,h3⟩|⟨A,f,Q,h1,h2,h3,h4⟩
      · refine .inl ⟨?_,?_,?_⟩
        · simp [fget,hm',h1]
        · intro e he
          rcases List.mem_cons.1 he with rfl|he
          · exact hm
          · exact h2 e he
        · rw [fidx,if_neg hm,h3];rfl
      · refine .inr ⟨(m,g) :: A,f,Q,by rw [h1];rfl,?_,?_,?_⟩
        · intro e he
          rcases List.mem_cons.1 he with rfl|he
          · exact hm
          · exact h2 e he
        · simp [fget,hm',h3]
        · rw [fidx,if_neg hm,h4,if_neg (by omega)];simp
def sumB (L:Fs):Nat:=(L.map fun e=>e.2.bs.length).sum
theorem sumB_take {L:Fs} {j:Nat} (h:j<L.length):sumB (L.take (j+1))=sumB (L.take j)+L[j].2.bs.length:=by
  unfold sumB
  rw [List.take_succ_eq_append_getElem h]
  simp only [List.map_append,List.map_cons,List.map_nil,List.sum_append,List.sum_cons,List.sum_nil,Nat.add_zero]
theorem sumB_take_le (L:Fs) (j:Nat):sumB (L.take j)≤sumB L:=by
  have:L=L.take j++L.drop j:=(List.take_append_drop j L).symm
  conv=>rhs;rw [this]
  unfold sumB
  simp only [List.map_append,List.sum_append]
  omega
section
variable {w w':World} {B G:Nat} {E:Nat→Prop} {r:Rk} {L:Fs} {v:Value} {P:List Value}
set_option maxHeartbeats 4000000 in
set_option maxRecDepth 100000 in
theorem rkFind (h:RkAt w B G E r L v P) (nm:ByteArray) (hl:L.length≤1000000):Calls Tryz.prog 61 #[pR G,.string nm] w fun e w'=>e=.returned (.int .i64 (fidx L nm))∧w=w':=by
  obtain ⟨A,c,rfl,hc1,hc2⟩:=h.form
  have H:=hid h
  have HL:=hid hl
  have c0:w.cell? ⟨G,0,none⟩=some (.slice A L.length c):=h.cell 0
  obtain ⟨n,hn⟩:∃ n,n=L.length:=⟨_,rfl⟩
  have HN:=hid hn
  rw [← hn] at c0 hc1
  have hcc:(n:Int)≤(c:Int):=by omega
  clear h hl hn hc1
  go_enter Tryz.func61,Tryz.ntmps61
  go_wp2_with (fail)
  go_loopw [5] (fun i wr=>∃ k:Nat,k≤n∧i=.int .i64 k∧(∀ e ∈ L.take k,e.1≠nm)∧wr=w) (fun i _=>n-(intOf i).toNat)
  case atStart=>exact ⟨0,by omega,rfl,(fun e he=>by cases he),rfl⟩
  case round =>
    obtain ⟨k,hk,rfl,hno,hw⟩:=hrel
    obtain rfl:=hw.symm
    have HNO:=hid hno
    clear hno
    by_cases hlt:k<n
    · have hkl:k<L.length:=by have:=HN.out;omega
      obtain ⟨e,he⟩:∃ e,e=L[k]:=⟨_,rfl⟩
      obtain ⟨g,rfl,_,hx⟩:=H.out.at_ (by omega)
      obtain ⟨d,_,x0,_,_⟩:=hx k e (by rw [he];exact List.getElem?_eq_getElem hkl)
      have hw5:IntKind.i64.wrap ((k:Int)+1)=(k:Int)+1:=IntWalk.i64_in _ (by have:=HL.out;omega)
      have HT:Hid (L.take (k+1)=L.take k++[e]):=hid (by rw [he];exact List.take_succ_eq_append_getElem hkl)
      have HD:Hid (L=L.take k++e :: L.drop (k+1)):=hid (by rw [he,List.getElem_cons_drop,List.take_append_drop])
      obtain ⟨m,f⟩:=e
      by_cases hm:m=nm
      · have e1:(m.toList == nm.toList)=true:=by rw [hm];simp
        have HF:Hid (fidx L nm=(k:Int)):=hid (by
          rw [HD.out]
          have e2:(m,f)=(nm,f):=by rw [hm]
          rw [e2,fidx_at HNO.out,List.length_take]
          congr 1
          omega)
        clear hx he hkl hm HT HD
        go_wp2_with (fail)
        go_ret
        exact ⟨by rw [HF.out];rfl,rfl⟩
      · have e1:(m.toList == nm.toList)=false:=by
          rw [beq_eq_false_iff_ne]
          intro e
          apply hm
          apply ByteArray.ext
          apply Array.toList_inj.1
          simpa [Go.ByteArray.toList_eq] using e
        have HNX:Hid (∀ e ∈ L.take (k+1),e.1≠nm):=hid (by
          rw [HT.out]
          intro e he
          rcases List.mem_append.1 he with h|h
          · exact HNO.out e h
          · rw [List.mem_singleton.1 h];exact hm)
        clear hx he hkl hm HT HD
        go_wp2_with (fail)
        exact ⟨⟨k+1,by omega,rfl,HNX.out,trivial⟩,by simp [intOf];omega⟩
    · have HF:Hid (fidx L nm=-1):=hid (fidx_none (fun e he=>HNO.out e (by rw [List.take_of_length_le (by have:=HN.out;omega)];exact he)))
      obtain rfl:k=n:=by omega
      clear hlt
      go_wp2_with (fail)
      go_ret
      exact ⟨by rw [HF.out];rfl,rfl⟩
set_option maxHeartbeats 4000000 in
set_option maxRecDepth 100000 in
theorem rkUsed (h:RkAt w B G E r L v P) (hl:L.length≤1000000) (hs:sumB L≤1099511627776):Calls Tryz.prog 127 #[pR G] w fun e w'=>e=.returned (.int .i64 (sumB L:Int))∧w=w':=by
  obtain ⟨A,c,rfl,hc1,hc2⟩:=h.form
  have H:=hid h
  have HL:=hid hl
  have HS:=hid (fun k=>Nat.le_trans (sumB_take_le L k) hs)
  have c0:w.cell? ⟨G,0,none⟩=some (.slice A L.length c):=h.cell 0
  obtain ⟨n,hn⟩:∃ n,n=L.length:=⟨_,rfl⟩
  have HN:=hid hn
  rw [← hn] at c0 hc1
  have hcc:(n:Int)≤(c:Int):=by omega
  clear h hl hn hc1 hs
  go_enter Tryz.func127,Tryz.ntmps127
  go_wp2_with (fail)
  go_loopw [4,3] (fun i s wr=>∃ k:Nat,k≤n∧i=.int .i64 k∧s=.int .i64 (sumB (L.take k):Nat)∧wr=w) (fun i _ _=>n-(intOf i).toNat)
  case atStart=>exact ⟨0,by omega,rfl,rfl,rfl⟩
  case round =>
    obtain ⟨k,hk,rfl,rfl,hw⟩:=hrel
    obtain rfl:=hw.symm
    by_cases hlt:k<n
    · have hkl:k<L.length:=by have:=HN.out;omega
      have HT:=hid (sumB_take hkl)
      have HSK:=hid (HS.out (k+1))
      obtain ⟨e,he⟩:∃ e,e=L[k]:=⟨_,rfl⟩
      obtain ⟨g,rfl,_,hx⟩:=H.out.at_ (by omega)
      obtain ⟨d,hpd,_,x1,_⟩:=hx k e (by rw [he];exact List.getElem?_eq_getElem hkl)
      obtain ⟨A5,m5,c5,rfl,hB5,_⟩:=H.out.dat k e d (by rw [he];exact List.getElem?_eq_getElem hkl) hpd
      have hm5:e.2.bs.length=m5:=hB5.len
      rw [← he,hm5] at HT
      have hw5:IntKind.i64.wrap ((k:Int)+1)=(k:Int)+1:=IntWalk.i64_in _ (by have:=HL.out;omega)
      have hw6:IntKind.i64.wrap ((sumB (L.take k):Int)+(m5:Int))=((sumB (L.take (k+1)):Nat):Int):=by
        rw [HT.out]
        push_cast
        exact IntWalk.i64_in _ (by have:=HSK.out;have:=HT.out;omega)
      obtain ⟨q,hq⟩:∃ q,q=sumB (L.take k):=⟨_,rfl⟩
      obtain ⟨q',hq'⟩:∃ q',q'=sumB (L.take (k+1)):=⟨_,rfl⟩
      have HQ:=hid hq'
      rw [← hq,← hq'] at hw6
      rw [← hq]
      clear hx he hkl hpd hB5 hq hq' hm5
      go_wp2_with (fail)
      exact ⟨⟨k+1,by omega,rfl,by rw [HQ.out],trivial⟩,by simp [intOf];omega⟩
    · have HT:Hid (L.take k=L):=hid (List.take_of_length_le (by have:=HN.out;omega))
      rw [HT.out]
      obtain rfl:k=n:=by omega
      clear hlt
      go_wp2_with (fail)
      go_ret
      exact ⟨rfl,rfl⟩
def Rk.begin (r:Rk):Rk:={ r with count:=r.count+1,armed:=if r.armed=0 then 0 else r.armed-1 }
set_option maxHeartbeats 4000000 in
theorem rkBegin (h:RkAt w B G E r L v P) (hc:0≤r.count∧r.count≤1152921504606846976) (ha:0≤r.armed∧r.armed≤9223372036854775807):Calls Tryz.prog 77 #[pR G] w fun e w'=>e=.returned (.bool (r.armed == 1))∧RkAt w' B G E r.begin L v P∧Ch (At1 G) w w':=by
  have H:=hid h
  have HA:=hid ha
  have c2:w.cell? ⟨G,2,none⟩=some (.int .i64 r.count):=h.cell 2
  have c3:w.cell? ⟨G,3,none⟩=some (.int .i64 r.armed):=h.cell 3
  have f2:=h.frozen 2
  have f3:=h.frozen 3
  have hw1:IntKind.i64.wrap (r.count+1)=r.count+1:=IntWalk.i64_in _ (by omega)
  have HR1:Hid ((w.setCell ⟨G,2,none⟩ (.int .i64 (r.count+1))).heap[G]?=some (rkObj v { r with count:=r.count+1 })):=hid (heap_set_row h.row _)
  have HC1:Hid (Ch (At1 G) w (w.setCell ⟨G,2,none⟩ (.int .i64 (r.count+1)))):=hid ((Ch.refl _ _).set1 2 _)
  have c3':=cell_of_row _ G 3 _ _ _ HR1.out
  have f3':(w.setCell ⟨G,2,none⟩ (.int .i64 (r.count+1))).frozen? ⟨G,3,none⟩=false:=by
    simp only [World.frozen?,HR1.out]
    simp
  simp only [List.getElem?_toArray,List.getElem?_cons_zero,List.getElem?_cons_succ] at c3'
  clear h hc
  by_cases h0:r.armed=0
  · have e1:(r.armed == 0)=true:=by rw [h0];rfl
    have HB:Hid (r.begin={ r with count:=r.count+1 }):=hid (by unfold Rk.begin;rw [if_pos h0];obtain ⟨a,b,c,d,e⟩:=r;simp only at h0;subst h0;rfl)
    have HE:Hid ((r.armed == 1)=false):=hid (by rw [h0];rfl)
    clear h0 ha
    go_enter Tryz.func77,Tryz.ntmps77
    go_wp2_with (fail)
    go_ret
    exact ⟨by rw [HE.out];rfl,by rw [HB.out];exact H.out.nums HC1.out HR1.out,HC1.out⟩
  · have e1:(r.armed == 0)=false:=by rw [beq_eq_false_iff_ne];exact h0
    have hw2:IntKind.i64.wrap (r.armed-1)=r.armed-1:=IntWalk.i64_in _ (by omega)
    have HR2:Hid (((w.setCell ⟨G,2,none⟩ (.int .i64 (r.count+1))).setCell ⟨G,3,none⟩ (.int .i64 (r.armed-1))).heap[G]?=some (rkObj v { r with count:=r.count+1,armed:=r.armed-1 })):=hid (heap_set_row HR1.out _)
    have HC2:Hid (Ch (At1 G) w ((w.setCell ⟨G,2,none⟩ (.int .i64 (r.count+1))).setCell ⟨G,3,none⟩ (.int .i64 (r.armed-1)))):=hid (HC1.out.set1 3 _)
    have c3'':=cell_of_row _ G 3 _ _ _ HR2.out
    simp only [List.getElem?_toArray,List.getElem?_cons_zero,List.getElem?_cons_succ] at c3''
    have HB:Hid (r.begin={ r with count:=r.count+1,armed:=r.armed-1 }):=hid (by unfold Rk.begin;rw [if_neg h0])
    have HE:Hid ((r.armed-1 == 0)=(r.armed == 1)):=hid (by rw [Bool.eq_iff_iff];simp;omega)
    clear h0 ha
    go_enter Tryz.func77,Tryz.ntmps77
    go_wp2_with (fail)
    go_ret
    exact ⟨by rw [← HE.out];rfl,by rw [HB.out];exact H.out.nums HC2.out HR2.out,HC2.out⟩
end
end
section
open Go.RowKit Go.MapKept
theorem rfInfo:(Tryz.prog.info? TRF).map (fun i=>(i.zero,i.size,i.bytes))=some (some (.agg #[.string ⟨#[]⟩,.slice none 0 0,.int .i64 0]),3,48):=by kernel_rfl
theorem step_appR {ops:Array Oper} {o:Oper} {a:Act} {W:World} {K:Act→World→Prop} {Q:Exit→Act→World→Prop} {E:Prop} (hgd:o.guard=none) (s x:Operand) (t:TypeId)
    (ho:o.op=.call { callee:=.builtin .append,args:=#[s,x],argTypes:=#[t,t] }) (base:Nat) (ht:Tryz.prog.underlying t=some (.slice TRF))
    (v:Value) (n:Nat) (xs:List Value) (hs:a.eval s=v) (hown:W.ownsRow base TRF 3 v n xs) (cs:List Value) (c gx:Nat) (hcell:W.heap[gx]?=some (.cells cs.toArray TRF)) (hx:a.eval x=.slice (some ⟨gx,0,none⟩) 1 c) (hl:cs.length=3) (h1:∀ u ∈ cs,u.oneCell'=true)
    (h63:n+1≤1000000000) (hbase:base≤W.heap.size)
    (h:∀ g cap w',w'.ownsRow base TRF 3 (.slice (some ⟨g,0,none⟩) (n+1) cap) (n+1) (xs++cs)→W.grownBy w' v.ownBlock→(v.ownBlock=some g∨g=W.heap.size)→g<w'.heap.size→K (a.put o.dst (.slice (some ⟨g,0,none⟩) (n+1) cap)) w') :
    if Region.wanted o (yielded ops a.tmps)=true then Oper.wp Tryz.prog o a W K Q else E:=by
  obtain ⟨i,hi,hzz⟩:=Option.map_eq_some_iff.1 rfInfo
  simp only [Prod.mk.injEq] at hzz
  obtain ⟨hz,hsize,hby⟩:=hzz
  have hnews:∀ j u,cs[j]?=some u→W.cell? ((⟨gx,0,none⟩:Addr).add j)=some u:=by
    intro j u hj
    have hadd:(⟨gx,0,none⟩:Addr).add j=⟨gx,j,none⟩:=by unfold Addr.add;split <;> simp_all
    rw [hadd,cell_of_row _ _ _ _ _ _ hcell]
    simpa using hj
  have h2:(n+1)*48≤1000000000*48:=Nat.mul_le_mul_right 48 h63
  exact step_append_lies _ hgd s x t ho base TRF i (.agg #[.string ⟨#[]⟩,.slice none 0 0,.int .i64 0]) 3 48 ht hi hz hsize hby rfl (by decide) v n xs hs hown ⟨gx,0,none⟩ 1 c cs hx (by omega) hnews h1 (by decide) (by simp only [maxLen];omega) (by omega) hbase W.heap.size rfl h
theorem Ch.trim {S:Nat→Prop} {w w':World} (h:Ch (fun k=>S k∨w.heap.size≤k) w w'):Ch S w w':=⟨h.os,h.tape,h.output,h.size,fun k hk hn=>h.block k hk (fun hs=>hs.elim hn (fun h=>by omega))⟩
theorem set_two {α:Type} (A C:List α) (a0 a1 a2 b0 b1 b2:α) {m:Nat} (h:A.length=m) :
    ((((((A++(a0 :: a1 :: a2 :: b0 :: b1 :: b2 :: C)).set (m+3) a0).set (m+3+1) a1).set (m+3+2) a2).set m b0).set (m+1) b1).set (m+2) b2=A++(b0 :: b1 :: b2 :: a0 :: a1 :: a2 :: C):=by
  subst h
  have key:∀ (D:List α) (k:Nat) (x:α),(A++D).set (A.length+k) x=A++D.set k x:=by
    intro D k x
    rw [List.set_append,if_neg (by omega),Nat.add_sub_cancel_left]
  rw [key,show A.length+3+1=A.length+4 from rfl,key,show A.length+3+2=A.length+5 from rfl,key]
  have k0:=key (((((a0 :: a1 :: a2 :: b0 :: b1 :: b2 :: C).set 3 a0).set 4 a1).set 5 a2)) 0 b0
  rw [Nat.add_zero] at k0
  rw [k0,key,key]
  rfl
abbrev bl (a b:ByteArray):Bool:=Op.bytesLess a.toList b.toList
abbrev rfV (e:ByteArray × Fl) (d:Value):Value:=.agg #[.string e.1,d,.int .i64 (e.2.safe:Int)]
def PutsTo (L:Fs) (e:ByteArray × Fl) (L':Fs):Prop:=∃ Pl Ql,L=Pl++Ql∧L'=Pl++e :: Ql∧(∀ q ∈ Ql,bl e.1 q.1=true)∧(∀ y,Pl.getLast?=some y→bl e.1 y.1=false)
set_option maxHeartbeats 16000000 in
set_option maxRecDepth 100000 in
theorem rkPut {w:World} {B G:Nat} {E:Nat→Prop} {r:Rk} {L:Fs} {v:Value} {P:List Value} (h:RkAt w B G E r L v P) (e:ByteArray × Fl) (A5:Option Addr) (m5 c5:Nat) (hd:DvX (fun k=>RF G v k∨E k) w (.slice A5 m5 c5) e.2.bs) (hl:L.length≤1000000) (hBw:B≤w.heap.size) :
    Calls Tryz.prog 126 #[pR G,rfV e (.slice A5 m5 c5)] w fun x w'=>x=.returned (.tuple #[])∧∃ L' v' P',PutsTo L e L'∧RkAt w' B G E r L' v' P'∧Ch (RF G v) w w'∧(∀ k,v'.ownBlock=some k→v.ownBlock=some k∨w.heap.size≤k):=by
  obtain ⟨A,c,rfl,hc1,hc2⟩:=h.form
  have H:=hid h
  have HD:=hid hd
  have HL:=hid hl
  obtain ⟨wb,hwb⟩:∃ wb,wb=w.alloc (.cells #[.string e.1,.slice A5 m5 c5,.int .i64 (e.2.safe:Int)] TRF):=⟨_,rfl⟩
  have hbb:Below w.heap.size w (w.alloc (.cells #[.string e.1,.slice A5 m5 c5,.int .i64 (e.2.safe:Int)] TRF)):=(Below.refl _ w).alloc (Nat.le_refl _) _
  have HBB:=hid hbb
  have HZ:Hid ((w.alloc (.cells #[.string e.1,.slice A5 m5 c5,.int .i64 (e.2.safe:Int)] TRF)).heap[w.heap.size]?=some (.cells #[.string e.1,.slice A5 m5 c5,.int .i64 (e.2.safe:Int)] TRF)):=hid (heap_alloc_new w _)
  have HW:=hid (h.below hbb)
  clear h hd hl hbb hwb
  go_enter Tryz.func126,Tryz.ntmps126
  go_wp2_with (fail)
  obtain ⟨X,hX⟩:∃ X,X=w.heap.size:=⟨_,rfl⟩
  have HX:=hid hX
  rw [← hX] at HZ ⊢
  clear hX
  generalize w.alloc (.cells #[.string e.1,.slice A5 m5 c5,.int .i64 (e.2.safe:Int)] TRF)=wb at *
  obtain ⟨n,hn⟩:∃ n,n=L.length:=⟨_,rfl⟩
  have HN:=hid hn
  have c0:wb.cell? ⟨G,0,none⟩=some (.slice A L.length c):=HW.out.cell 0
  have z0:=cell_of_row _ X 0 _ _ _ HZ.out
  have z1:=cell_of_row _ X 1 _ _ _ HZ.out
  have z2:=cell_of_row _ X 2 _ _ _ HZ.out
  simp only [List.getElem?_toArray,List.getElem?_cons_zero,List.getElem?_cons_succ] at z0 z1 z2
  have HBA:Hid (Below wb.heap.size wb (wb.alloc (.cells #[.string e.1,.slice A5 m5 c5,.int .i64 (e.2.safe:Int)] TRF)).drew):=hid ((Below.refl _ _).alloc (Nat.le_refl _) _).drew
  have HWA:=hid (HW.out.below HBA.out)
  have HC:Hid ((wb.alloc (.cells #[.string e.1,.slice A5 m5 c5,.int .i64 (e.2.safe:Int)] TRF)).heap[wb.heap.size]?=some (.cells [.string e.1,.slice A5 m5 c5,.int .i64 (e.2.safe:Int)].toArray TRF)):=hid (heap_alloc_new wb _)
  have HOWN:=hid HWA.out.own
  have HSZ:Hid (B≤(wb.alloc (.cells #[.string e.1,.slice A5 m5 c5,.int .i64 (e.2.safe:Int)] TRF)).drew.heap.size):=hid (by have h1:=HBB.out.size;have h2:=HBA.out.size;omega)
  have HN1:Hid (n≤1000000):=hid (by rw [hn];exact HL.out)
  have HVN:Hid (∀ k,(Value.slice A n c).ownBlock=some k→k≠G):=hid (by rw [hn];exact fun k hk=>H.out.vne k hk)
  have HROW:Hid ((wb.alloc (.cells #[.string e.1,.slice A5 m5 c5,.int .i64 (e.2.safe:Int)] TRF)).drew.heap[G]?=some (rkObj (.slice A n c) r)):=hid (by rw [hn];exact HWA.out.row)
  have c0':(wb.alloc (.cells #[.string e.1,.slice A5 m5 c5,.int .i64 (e.2.safe:Int)] TRF)).cell? ⟨G,0,none⟩=some (.slice A n c):=cell_of_row _ G 0 _ _ _ HROW.out
  rw [← hn] at c0 HOWN
  have tok1:Hid True:=hid trivial
  clear hn
  go_region_law (first | (have _t:=tok1;refine step_appR rfl (.tmp 10) (.tmp 12) TRL rfl B Tryz.underlying33 (.slice A n c) n (rfsC L P) rfl HOWN.out [.string e.1,.slice A5 m5 c5,.int .i64 (e.2.safe:Int)] _ wb.heap.size HC.out rfl rfl (by intro u hu;simp only [List.mem_cons,List.not_mem_nil,or_false] at hu;rcases hu with rfl | rfl | rfl <;> rfl) (by have:=HN1.out;omega) HSZ.out ?_;intro gO cO w5 ho5 hg5 hat5 hlt5;have HO5:=hid ho5;have HG5:=hid hg5;have HW5:Hid (w5.heap[G]?=some (rkObj (.slice A n c) r)):=hid ((Ch.of_grown (S:=fun k=>k≠G) hg5 (fun k hk=>HVN.out k hk)).row HROW.out (fun h=>h rfl));have s4:w5.cell? ⟨G,0,none⟩=some (.slice A n c):=cell_of_row _ G 0 _ _ _ HW5.out;have t4:w5.frozen? ⟨G,0,none⟩=false:=frz HW5.out;have HAT:=hid hat5;clear tok1 _t ho5 hg5 hat5))
  all_goals
    obtain ⟨v1,hv1⟩:∃ v1:Value,v1=.slice (some ⟨gO,0,none⟩) (n+1) cO:=⟨_,rfl⟩
    have HV1:=hid hv1
    have HR6:Hid ((w5.setCell ⟨G,0,none⟩ (.slice (some ⟨gO,0,none⟩) (n+1) cO)).heap[G]?=some (rkObj (.slice (some ⟨gO,0,none⟩) (n+1) cO) r)):=hid (heap_set_row HW5.out _)
    have HGO:Hid (gO≠G):=hid (by
      rintro rfl
      obtain ⟨cur,hcur⟩:=own3_ty HO5.out gO rfl
      rw [HW5.out] at hcur
      simp only [Option.some.injEq,Obj.cells.injEq] at hcur
      exact absurd hcur.2.1 (by decide))
    have HO6:Hid ((w5.setCell ⟨G,0,none⟩ (.slice (some ⟨gO,0,none⟩) (n+1) cO)).ownsRow B TRF 3 (.slice (some ⟨gO,0,none⟩) (n+1) cO) (n+1) (rfsC (L++[e]) (P++[.slice A5 m5 c5]))):=hid (by
      rw [rfsC_app _ _ H.out.len]
      refine own3_ch (S:=At1 G) (by simpa [rfsC] using HO5.out) ((Ch.refl _ _).set1 0 _) (fun k hk=>?_)
      simp only [Value.ownBlock,Option.some.injEq] at hk
      subst hk
      exact HGO.out)
    have HS6:Hid (Ch (fun k=>RF G (.slice A n c) k∨w.heap.size≤k) w (w5.setCell ⟨G,0,none⟩ (.slice (some ⟨gO,0,none⟩) (n+1) cO))):=hid (by
      have h1:Ch (fun k=>RF G (.slice A n c) k∨w.heap.size≤k) w (wb.alloc (.cells #[.string e.1,.slice A5 m5 c5,.int .i64 (e.2.safe:Int)] TRF)).drew:=Ch.of_below (HBB.out.trans (HBA.out.mono HBB.out.size))
      have h2:=h1.trans (Ch.of_grown (S:=fun k=>(Value.slice A n c).ownBlock=some k) HG5.out (fun k hk=>hk)) (fun k _ hk=>.inl (.inr hk))
      exact h2.set (a:=⟨G,0,none⟩) (.inl (.inl rfl)) _)
    have HGF:Hid ((Value.slice A n c).ownBlock=some gO∨w.heap.size≤gO):=hid (HAT.out.imp id (fun h=>Nat.le_trans (Nat.le_trans HBB.out.size HBA.out.size) (Nat.le_of_eq h.symm)))
    have HCO:Hid (n+1≤cO∧cO≤maxLen):=hid (by
      rcases HO5.out.2 with ⟨h0,_⟩|⟨g',cap',cur',hv',_,_,h3,h4,_⟩
      · cases h0
      · injection hv' with _ _ e3
        subst e3
        exact ⟨h3,h4⟩)
    clear c0 c0' z0 z1 z2 s4 t4 hv1
    generalize w5.setCell ⟨G,0,none⟩ (.slice (some ⟨gO,0,none⟩) (n+1) cO)=w6 at *
    have c0:w6.cell? ⟨G,0,none⟩=some (.slice (some ⟨gO,0,none⟩) (n+1) cO):=cell_of_row _ G 0 _ _ _ HR6.out
    have hwn:IntKind.i64.wrap (n:Int)=(n:Int):=IntWalk.i64_in _ (by have:=HN1.out;omega)
    go_wp2_with (fail)
    clear c0 hwn
    go_loopw [4,5] (fun i _ wr=>∃ (Pl Ql:Fs) (P1 P2:List Value),L=Pl++Ql∧P=P1++P2∧P1.length=Pl.length∧i=.int .i64 (Pl.length:Int)∧(∀ q ∈ Ql,bl e.1 q.1=true)∧wr.heap[G]?=some (rkObj (.slice (some ⟨gO,0,none⟩) (n+1) cO) r)∧wr.ownsRow B TRF 3 (.slice (some ⟨gO,0,none⟩) (n+1) cO) (n+1) (rfsC (Pl++e :: Ql) (P1++.slice A5 m5 c5 :: P2))∧Ch (fun k=>RF G (.slice A n c) k∨w.heap.size≤k) w wr) (fun i _ _=>(intOf i).toNat)
    case atStart=>exact ⟨L,[],P,[],by simp,by simp,H.out.len,by rw [HN.out],(fun q hq=>by cases hq),HR6.out,HO6.out,HS6.out⟩
    case round =>
      obtain ⟨wo,rfl⟩:∃ wo:World,wo=wr:=⟨_,rfl⟩
      obtain ⟨Pl,Ql,P1,P2,hL1,hP1,hlp,rfl,hq,hr6,ho6,hs6⟩:=hrel
      have HL1:=hid hL1
      have HP1:=hid hP1
      have HLP:=hid hlp
      have HQ:=hid hq
      have HR7:=hid hr6
      have HO7:=hid ho6
      have HS7:=hid hs6
      have c0:wo.cell? ⟨G,0,none⟩=some (.slice (some ⟨gO,0,none⟩) (n+1) cO):=cell_of_row _ G 0 _ _ _ hr6
      have HLQ:Hid (Pl.length+Ql.length=n):=hid (by rw [HN.out,hL1,List.length_append])
      have hcn:(n:Int)+1≤(cO:Int):=by have:=HCO.out.1;omega
      have hcm:cO≤9223372036854775807:=by have:=HCO.out.2;simpa only [maxLen] using this
      have HFIN:Hid ((∀ y,Pl.getLast?=some y→bl e.1 y.1=false)→∀ W,Below wo.heap.size wo W→∃ L' v' P',PutsTo L e L'∧RkAt W B G E r L' v' P'∧Ch (RF G (.slice A n c)) w W∧(∀ k,v'.ownBlock=some k→(Value.slice A n c).ownBlock=some k∨w.heap.size≤k)):=hid (fun hlast W hWb=>by
        refine ⟨Pl++e :: Ql,.slice (some ⟨gO,0,none⟩) (n+1) cO,P1++.slice A5 m5 c5 :: P2,⟨Pl,Ql,HL1.out,rfl,HQ.out,hlast⟩,RkAt.below ?_ hWb,HS7.out.trim.trans (Ch.of_below (S:=fun _=>False) hWb) (fun _ _ h=>h.elim),?_⟩
        · have hll:(Pl++e :: Ql).length=n+1:=by have:=HLQ.out;simp;omega
          refine ⟨H.out.hG,HR7.out,?_,by rw [hll];exact HO7.out,?_⟩
          · have:=H.out.len
            rw [HL1.out,HP1.out] at this
            have h1:=HLP.out
            simp only [List.length_append,List.length_cons] at this ⊢
            omega
          · have hY:∀ b,b<w.heap.size→(RF G (.slice (some ⟨gO,0,none⟩) (n+1) cO) b∨E b)→(RF G (.slice A n c) b∨E b):=by
              rintro b hb ((rfl|h)|h)
              · exact .inl (.inl rfl)
              · simp only [Value.ownBlock,Option.some.injEq] at h
                subst h
                rcases HGF.out with h|h
                · exact .inl (.inr h)
                · omega
              · exact .inr h
            intro i x d hx hd
            have hold:∀ j,L[j]?=some x→P[j]?=some d→DvX (fun k=>RF G (.slice (some ⟨gO,0,none⟩) (n+1) cO) k∨E k) wo d x.2.bs:=fun j h1 h2=>by
              have:=H.out.dat j x d h1 h2
              rw [← HN.out] at this
              exact this.ch (HS7.out.trim.wide (fun k hk=>.inl hk)) hY
            by_cases hi:i<Pl.length
            · rw [List.getElem?_append_left hi] at hx
              rw [List.getElem?_append_left (by rw [HLP.out];exact hi)] at hd
              exact hold i (by rw [HL1.out,List.getElem?_append_left hi];exact hx) (by rw [HP1.out,List.getElem?_append_left (by rw [HLP.out];exact hi)];exact hd)
            · rw [List.getElem?_append_right (by omega)] at hx
              rw [List.getElem?_append_right (by rw [HLP.out];omega),HLP.out] at hd
              by_cases h0:i-Pl.length=0
              · rw [h0] at hx hd
                simp only [List.getElem?_cons_zero,Option.some.injEq] at hx hd
                subst hx hd
                have:=HD.out
                rw [← HN.out] at this
                exact this.ch (HS7.out.trim.wide (fun k hk=>.inl hk)) hY
              · obtain ⟨k,hk⟩:∃ k,i-Pl.length=k+1:=⟨i-Pl.length-1,by omega⟩
                rw [hk,List.getElem?_cons_succ] at hx hd
                exact hold (Pl.length+k) (by rw [HL1.out,List.getElem?_append_right (by omega),Nat.add_sub_cancel_left];exact hx) (by rw [HP1.out,List.getElem?_append_right (by rw [HLP.out];omega),HLP.out,Nat.add_sub_cancel_left];exact hd)
        · intro k hk
          simp only [Value.ownBlock,Option.some.injEq] at hk
          subst hk
          exact HGF.out)
      clear hL1 hP1 hlp hq hr6 ho6 hs6
      rcases List.eq_nil_or_concat Pl with rfl|⟨Pl',y,hpl⟩
      · clear HLQ
        simp only [List.length_nil]
        go_wp2_with (fail)
        go_quiet (fail)
        go_wp2_with (fail)
        go_end0
        rw [← HN.out]
        exact ⟨rfl,HFIN.out (fun y hy=>by cases hy) _ (drawN_below (Below.refl _ _) nq)⟩
      · have hpl:Pl=Pl'++[y]:=by rw [hpl,List.concat_eq_append]
        subst hpl
        obtain ⟨j,hj⟩:∃ j,j=Pl'.length:=⟨_,rfl⟩
        have hlen1:(Pl'++[y]).length=j+1:=by simp [hj]
        have HJ:=hid hj
        have hjn:j+1≤n:=by have:=HLQ.out;rw [hlen1] at this;omega
        obtain ⟨P1',dy,hp1,hpl1⟩:∃ P1' dy,P1=P1'++[dy]∧P1'.length=j:=by
          have h1:=HLP.out
          rw [hlen1] at h1
          rcases List.eq_nil_or_concat P1 with rfl|⟨Q,d,hq⟩
          · simp at h1
          · exact ⟨Q,d,by rw [hq,List.concat_eq_append],by rw [hq] at h1;simp at h1;omega⟩
        subst hp1
        obtain ⟨A7,m7,c7,rfl,_,_⟩:=H.out.dat j y dy (by rw [HL1.out,List.getElem?_append_left (by rw [hlen1];omega),List.getElem?_append_right (by omega),hj];simp) (by rw [HP1.out,List.getElem?_append_left (by simp;omega),List.getElem?_append_right (by omega),hpl1];simp)
        have HROWS:Hid (rfsC (Pl'++[y]++e :: Ql) (P1'++[.slice A7 m7 c7]++.slice A5 m5 c5 :: P2)=rfsC Pl' P1'++(.string y.1 :: .slice A7 m7 c7 :: .int .i64 (y.2.safe:Int) :: .string e.1 :: .slice A5 m5 c5 :: .int .i64 (e.2.safe:Int) :: rfsC Ql P2)):=hid (by
          rw [show Pl'++[y]++e :: Ql=Pl'++(y :: e :: Ql) from by simp,show P1'++[.slice A7 m7 c7]++Value.slice A5 m5 c5 :: P2=P1'++(Value.slice A7 m7 c7 :: Value.slice A5 m5 c5 :: P2) from by simp,rfsC_app _ _ (by rw [hpl1,hj])]
          rfl)
        have HROWN:Hid (rfsC (Pl'++e :: y :: Ql) (P1'++.slice A5 m5 c5 :: .slice A7 m7 c7 :: P2)=rfsC Pl' P1'++(.string e.1 :: .slice A5 m5 c5 :: .int .i64 (e.2.safe:Int) :: .string y.1 :: .slice A7 m7 c7 :: .int .i64 (y.2.safe:Int) :: rfsC Ql P2)):=hid (by
          rw [rfsC_app _ _ (by rw [hpl1,hj])]
          rfl)
        have hl3:(rfsC Pl' P1').length=j*3:=by rw [rfsC_len (by rw [hpl1,hj]),hj]
        have HL3:=hid hl3
        have hcell:∀ (W:World),W.ownsRow B TRF 3 (.slice (some ⟨gO,0,none⟩) (n+1) cO) (n+1) (rfsC Pl' P1'++(.string y.1 :: .slice A7 m7 c7 :: .int .i64 (y.2.safe:Int) :: .string e.1 :: .slice A5 m5 c5 :: .int .i64 (e.2.safe:Int) :: rfsC Ql P2))→∀ i,i<6→W.cell? ⟨gO,j*3+i,none⟩=(Value.string y.1 :: .slice A7 m7 c7 :: .int .i64 (y.2.safe:Int) :: .string e.1 :: .slice A5 m5 c5 :: .int .i64 (e.2.safe:Int) :: rfsC Ql P2)[i]?:=fun W hW i hi=>by
          rw [hW.cellAt (j*3+i) (by omega),List.getElem?_append_right (by omega),hl3,Nat.add_sub_cancel_left]
        have ho7:=HO7.out
        rw [HROWS.out] at ho7
        have HO8:=hid ho7
        have x0:=hcell wo ho7 0 (by omega)
        have x1:=hcell wo ho7 1 (by omega)
        have x2:=hcell wo ho7 2 (by omega)
        have x3:=hcell wo ho7 3 (by omega)
        have x4:=hcell wo ho7 4 (by omega)
        have x5:=hcell wo ho7 5 (by omega)
        simp only [List.getElem?_cons_zero,List.getElem?_cons_succ,Nat.add_zero] at x0 x1 x2 x3 x4 x5
        rw [hlen1]
        have hwj:IntKind.i64.wrap (j:Int)=(j:Int):=IntWalk.i64_in _ (by have:=HN1.out;omega)
        have hj1:(j:Int)+1<(n:Int)+1:=by omega
        have hj0:(j:Int)<(n:Int)+1:=by omega
        have hjp:(0:Int)<(j:Int)+1:=by omega
        have e3:(j+1)*3=j*3+3:=by omega
        have HCELL:=hid hcell
        have HPL1:Hid (P1'.length=Pl'.length):=hid (by rw [hpl1,hj])
        clear hcell ho7 hj hpl1 hl3
        by_cases hle:bl e.1 y.1=true
        · have hle':Op.bytesLess e.1.toList y.1.toList=true:=hle
          have HLEY:=hid hle
          clear hle
          go_wp2_with (fail)
          go_quiet (fail)
          have HBQ:Hid (Below wo.heap.size wo (wo.drewN nq)):=hid (drawN_below (Below.refl _ _) nq)
          have HR9:=hid ((HBQ.out.block _ (Array.getElem?_eq_some_iff.1 HR7.out).1).trans HR7.out)
          have HO9:=hid (own3_ch (S:=fun _=>False) HO8.out (Ch.of_below HBQ.out) (fun _ _ h=>h))
          have HS9:=hid (HS7.out.trans (Ch.of_below (S:=fun _=>False) HBQ.out) (fun _ _ h=>h.elim))
          clear x0 x1 x2 x3 x4 x5 c0 hle'
          generalize wo.drewN nq=wq at *
          have c0:wq.cell? ⟨G,0,none⟩=some (.slice (some ⟨gO,0,none⟩) (n+1) cO):=cell_of_row _ G 0 _ _ _ HR9.out
          have x3:=HCELL.out wq HO9.out 3 (by omega)
          have x4:=HCELL.out wq HO9.out 4 (by omega)
          have x5:=HCELL.out wq HO9.out 5 (by omega)
          simp only [List.getElem?_cons_zero,List.getElem?_cons_succ] at x3 x4 x5
          go_wp2_with (fail)
          have HBX:=hid ((Below.refl wq.heap.size wq).alloc (Nat.le_refl _) (.cells #[.string e.1,.slice A5 m5 c5,.int .i64 (e.2.safe:Int)] TRF))
          have HRX:=hid ((HBX.out.block _ (Array.getElem?_eq_some_iff.1 HR9.out).1).trans HR9.out)
          have HOX:=hid (own3_ch (S:=fun _=>False) HO9.out (Ch.of_below HBX.out) (fun _ _ h=>h))
          have HSX:=hid (HS9.out.trans (Ch.of_below (S:=fun _=>False) HBX.out) (fun _ _ h=>h.elim))
          have HZX:=hid (heap_alloc_new wq (.cells #[.string e.1,.slice A5 m5 c5,.int .i64 (e.2.safe:Int)] TRF))
          have HGX:Hid (gO≠wq.heap.size):=hid (by have:=(World.ownsRow.lt HO9.out gO rfl).2;omega)
          obtain ⟨X2,hX2⟩:∃ X2,X2=wq.heap.size:=⟨_,rfl⟩
          rw [← hX2] at HZX HGX ⊢
          clear c0 x3 x4 x5 hX2
          generalize wq.alloc (.cells #[.string e.1,.slice A5 m5 c5,.int .i64 (e.2.safe:Int)] TRF)=wx at *
          have c0:wx.cell? ⟨G,0,none⟩=some (.slice (some ⟨gO,0,none⟩) (n+1) cO):=cell_of_row _ G 0 _ _ _ HRX.out
          have x0:=HCELL.out wx HOX.out 0 (by omega)
          have x1:=HCELL.out wx HOX.out 1 (by omega)
          have x2:=HCELL.out wx HOX.out 2 (by omega)
          have x3:=HCELL.out wx HOX.out 3 (by omega)
          have x4:=HCELL.out wx HOX.out 4 (by omega)
          have x5:=HCELL.out wx HOX.out 5 (by omega)
          simp only [List.getElem?_cons_zero,List.getElem?_cons_succ,Nat.add_zero] at x0 x1 x2 x3 x4 x5
          have f3:=HOX.out.frozenAt (j*3+3)
          have f4:=HOX.out.frozenAt (j*3+3+1)
          have f5:=HOX.out.frozenAt (j*3+3+2)
          go_region
          all_goals
            have HOY:=hid (World.ownsRow.stored (World.ownsRow.stored (World.ownsRow.stored HOX.out (j*3+3) (.string y.1)).1 (j*3+3+1) (.slice A7 m7 c7)).1 (j*3+3+2) (.int .i64 (y.2.safe:Int))).1
            have HCY:Hid (Ch (At1 gO) wx (((wx.setCell ⟨gO,j*3+3,none⟩ (.string y.1)).setCell ⟨gO,j*3+3+1,none⟩ (.slice A7 m7 c7)).setCell ⟨gO,j*3+3+2,none⟩ (.int .i64 (y.2.safe:Int)))):=hid ((((Ch.refl _ _).set1 _ _).set1 _ _).set1 _ _)
            have HRY:=hid (HCY.out.row HRX.out (fun h=>HGO.out h.symm))
            have HZY:=hid (HCY.out.row HZX.out (fun h=>HGX.out h.symm))
            clear c0 x0 x1 x2 x3 x4 x5 f3 f4 f5
            replace HOY:=hid (own3_ch (S:=fun _=>False) HOY.out (Ch.refl _ _).drew (fun _ _ h=>h))
            replace HRY:=hid ((show ((((wx.setCell ⟨gO,j*3+3,none⟩ (.string y.1)).setCell ⟨gO,j*3+3+1,none⟩ (.slice A7 m7 c7)).setCell ⟨gO,j*3+3+2,none⟩ (.int .i64 (y.2.safe:Int))).drew).heap[G]?=_ from HRY.out))
            replace HZY:=hid ((show ((((wx.setCell ⟨gO,j*3+3,none⟩ (.string y.1)).setCell ⟨gO,j*3+3+1,none⟩ (.slice A7 m7 c7)).setCell ⟨gO,j*3+3+2,none⟩ (.int .i64 (y.2.safe:Int))).drew).heap[X2]?=_ from HZY.out))
            replace HCY:=hid (HCY.out.drew)
            generalize (((wx.setCell ⟨gO,j*3+3,none⟩ (.string y.1)).setCell ⟨gO,j*3+3+1,none⟩ (.slice A7 m7 c7)).setCell ⟨gO,j*3+3+2,none⟩ (.int .i64 (y.2.safe:Int))).drew=wy at *
            have c0:wy.cell? ⟨G,0,none⟩=some (.slice (some ⟨gO,0,none⟩) (n+1) cO):=cell_of_row _ G 0 _ _ _ HRY.out
            have z0:=cell_of_row _ X2 0 _ _ _ HZY.out
            have z1:=cell_of_row _ X2 1 _ _ _ HZY.out
            have z2:=cell_of_row _ X2 2 _ _ _ HZY.out
            simp only [List.getElem?_toArray,List.getElem?_cons_zero,List.getElem?_cons_succ] at z0 z1 z2
            have x0:=HOY.out.cellAt (j*3) (by omega)
            have x1:=HOY.out.cellAt (j*3+1) (by omega)
            have x2:=HOY.out.cellAt (j*3+2) (by omega)
            rw [List.getElem?_set_ne (by omega),List.getElem?_set_ne (by omega),List.getElem?_set_ne (by omega),List.getElem?_append_right (by have:=HL3.out;omega),HL3.out] at x0 x1 x2
            simp only [Nat.sub_self,Nat.add_sub_cancel_left,List.getElem?_cons_zero,List.getElem?_cons_succ] at x0 x1 x2
            have f0:=HOY.out.frozenAt (j*3)
            have f1:=HOY.out.frozenAt (j*3+1)
            have f2:=HOY.out.frozenAt (j*3+2)
            have HOZ:=hid (World.ownsRow.stored (World.ownsRow.stored (World.ownsRow.stored HOY.out (j*3) (.string e.1)).1 (j*3+1) (.slice A5 m5 c5)).1 (j*3+2) (.int .i64 (e.2.safe:Int))).1
            rw [set_two _ _ _ _ _ _ _ _ HL3.out] at HOZ
            have HCZ:Hid (Ch (At1 gO) wx (((wy.setCell ⟨gO,j*3,none⟩ (.string e.1)).setCell ⟨gO,j*3+1,none⟩ (.slice A5 m5 c5)).setCell ⟨gO,j*3+2,none⟩ (.int .i64 (e.2.safe:Int)))):=hid (((HCY.out.set1 _ _).set1 _ _).set1 _ _)
            have HRZ:=hid (HCZ.out.row HRX.out (fun h=>HGO.out h.symm))
            go_wp2_with (fail)
            go_region
            all_goals
              go_wp2_with (fail)
              rw [← HROWN.out] at HOZ
              have HSZ:Hid (Ch (fun k=>RF G (.slice A n c) k∨w.heap.size≤k) w (((wy.setCell ⟨gO,j*3,none⟩ (.string e.1)).setCell ⟨gO,j*3+1,none⟩ (.slice A5 m5 c5)).setCell ⟨gO,j*3+2,none⟩ (.int .i64 (e.2.safe:Int)))):=hid (HSX.out.trans HCZ.out (fun k _ hk=>by
                subst hk
                rcases HGF.out with h|h
                · exact .inl (.inr h)
                · exact .inr h))
              have HQY:Hid (∀ q ∈ y :: Ql,bl e.1 q.1=true):=hid (fun q hq=>by
                rcases List.mem_cons.1 hq with rfl|hq
                · exact HLEY.out
                · exact HQ.out q hq)
              exact ⟨⟨Pl',y :: Ql,P1',.slice A7 m7 c7 :: P2,by rw [HL1.out];simp,by rw [HP1.out];simp,HPL1.out,by rw [HJ.out],HQY.out,HRZ.out,HOZ.out,HSZ.out.drew⟩,by simp [intOf]⟩
        · have hle':Op.bytesLess e.1.toList y.1.toList=false:=by simpa using hle
          have HLE:=hid hle
          clear hle
          go_wp2_with (fail)
          go_quiet (fail)
          go_wp2_with (fail)
          go_end0
          rw [← HN.out]
          exact ⟨rfl,HFIN.out (fun z hz=>by simp at hz;subst hz;simpa using HLE.out) _ (drawN_below (Below.refl _ _) nq)⟩
end
section
open Go.RowKit Go.MapKept
set_option maxHeartbeats 4000000 in
set_option maxRecDepth 100000 in
theorem refName (x:ByteArray) (w:World) (hx:x.size≤140737488355328):Calls Tryz.prog 44 #[.string x] w fun e w'=>e=.returned (.bool (nameD x))∧w=w':=by
  go_enter Tryz.func44,Tryz.ntmps44
  by_cases h1:x.size<1
  · have d1:decide ((x.size:Int)<1)=true:=by simp;omega
    have HN:Hid (nameD x=false):=hid (by unfold nameD;simp;omega)
    clear h1
    go_wp2
    go_ret
    exact ⟨by rw [HN.out];rfl,rfl⟩
  have d1:decide ((x.size:Int)<1)=false:=by simp;omega
  by_cases h2:32<x.size
  · have d2:decide ((32:Int)<(x.size:Int))=true:=by simp;omega
    have HN:Hid (nameD x=false):=hid (by unfold nameD;simp;omega)
    clear h1 h2
    go_wp2
    go_ret
    exact ⟨by rw [HN.out];rfl,rfl⟩
  have d2:decide ((32:Int)<(x.size:Int))=false:=by simp;omega
  have HND:Hid (nameD x=x.data.toList.all nameB):=hid (by
    unfold nameD
    rw [decide_eq_true (show 1≤x.size by omega),decide_eq_true (show x.size≤32 by omega)]
    simp)
  have H32:Hid (x.size≤32):=hid (by omega)
  clear h1 h2
  go_wp2_with (fail)
  go_loopw [3] (fun i wr=>∃ k:Nat,k≤x.size∧i=.int .i64 k∧(x.data.toList.take k).all nameB=true∧wr=w) (fun i _=>x.size-(intOf i).toNat)
  case atStart=>exact ⟨0,Nat.zero_le _,rfl,rfl,rfl⟩
  case round =>
    obtain ⟨k,hk,rfl,hal,rfl⟩:=hrel
    have HAL:=hid hal
    clear hal
    by_cases hlt:k<x.size
    · have e1:(k:Int)<(x.size:Int):=by omega
      have e2:decide ((k:Int)<(x.size:Int))=true:=by simpa using e1
      have HX:Hid (x.data.toList.take (k+1)=x.data.toList.take k++[x[k]]):=hid (by rw [List.take_succ_eq_append_getElem (by simpa using hlt)];rfl)
      have HME:Hid (x[k] ∈ x.data.toList):=hid (List.getElem_mem (l:=x.data.toList) (n:=k) (by simpa using hlt))
      have HV:Hid (nameB x[k]=((decide (97≤x[k].toNat) && decide (x[k].toNat≤122)) || (decide (48≤x[k].toNat) && decide (x[k].toNat≤57)) || x[k].toNat == 46)):=hid rfl
      have HC:Hid (∀ c:Nat,x[k].toNat=c→nameB x[k]=((decide (97≤c) && decide (c≤122)) || (decide (48≤c) && decide (c≤57)) || c == 46)):=hid (fun c hc=>by rw [HV.out,hc])
      obtain ⟨c,hc⟩:∃ c,x[k].toNat=c:=⟨_,rfl⟩
      have HB:Hid (nameB x[k]=((decide (97≤c) && decide (c≤122)) || (decide (48≤c) && decide (c≤57)) || c == 46)):=hid (HC.out c hc)
      have HIX:Hid (∀ W:World,(Instr.index 9 (.string x) (.int .i64 (k:Int))).run Tryz.prog W=.ok (.int .u8 (c:Int)) W):=hid (fun W=>by rw [← hc];simp [Instr.index,asIntOf,run_underlying Tryz.underlying9,go_sem,hlt])
      have hix:=HIX.out
      clear HV HC
      have hcase:(97≤c∧c≤122)∨(97≤c∧122<c)∨(c<97∧48≤c∧c≤57)∨(c<97∧48≤c∧57<c)∨(c<48∧c=46)∨(c<48∧c≠46):=by omega
      clear hc
      rcases hcase with h|h|h|h|h|h
      · have hb:nameB x[k]=true:=by rw [HB.out];simp;omega
        have f0:decide ((97:Int)≤(c:Int))=true:=by simp;omega
        have f1:decide ((c:Int)≤122)=true:=by simp;omega
        have HBB:=hid hb
        clear hb h
        go_wp2_with (fail)
        exact ⟨⟨k+1,by omega,by go_num,by rw [HX.out,List.all_append,HAL.out];simp [HBB.out],trivial⟩,by simp [intOf];omega⟩
      · have hb:nameB x[k]=false:=by rw [HB.out];simp;omega
        have f0:decide ((97:Int)≤(c:Int))=true:=by simp;omega
        have f1:decide ((c:Int)≤122)=false:=by simp;omega
        have f2:decide ((48:Int)≤(c:Int))=true:=by simp;omega
        have f3:decide ((c:Int)≤57)=false:=by simp;omega
        have g1:((c:Int) != 46)=true:=by simp;omega
        have HN:Hid (nameD x=false):=hid (by rw [HND.out,List.all_eq_false];exact ⟨x[k],HME.out,by rw [hb];decide⟩)
        clear hb h
        go_wp2_with (fail)
        go_ret
        exact ⟨by rw [HN.out];rfl,rfl⟩
      · have hb:nameB x[k]=true:=by rw [HB.out];simp;omega
        have f0:decide ((97:Int)≤(c:Int))=false:=by simp;omega
        have f1:decide ((48:Int)≤(c:Int))=true:=by simp;omega
        have f2:decide ((c:Int)≤57)=true:=by simp;omega
        have HBB:=hid hb
        clear hb h
        go_wp2_with (fail)
        exact ⟨⟨k+1,by omega,by go_num,by rw [HX.out,List.all_append,HAL.out];simp [HBB.out],trivial⟩,by simp [intOf];omega⟩
      · have hb:nameB x[k]=false:=by rw [HB.out];simp;omega
        have f0:decide ((97:Int)≤(c:Int))=false:=by simp;omega
        have f1:decide ((48:Int)≤(c:Int))=true:=by simp;omega
        have f2:decide ((c:Int)≤57)=false:=by simp;omega
        have g1:((c:Int) != 46)=true:=by simp;omega
        have HN:Hid (nameD x=false):=hid (by rw [HND.out,List.all_eq_false];exact ⟨x[k],HME.out,by rw [hb];decide⟩)
        clear hb h
        go_wp2_with (fail)
        go_ret
        exact ⟨by rw [HN.out];rfl,rfl⟩
      · have hb:nameB x[k]=true:=by rw [HB.out];simp;omega
        have f0:decide ((97:Int)≤(c:Int))=false:=by simp;omega
        have f1:decide ((48:Int)≤(c:Int))=false:=by simp;omega
        have g1:((c:Int) != 46)=false:=by simp;omega
        have HBB:=hid hb
        clear hb h
        go_wp2_with (fail)
        exact ⟨⟨k+1,by omega,by go_num,by rw [HX.out,List.all_append,HAL.out];simp [HBB.out],trivial⟩,by simp [intOf];omega⟩
      · have hb:nameB x[k]=false:=by rw [HB.out];simp;omega
        have f0:decide ((97:Int)≤(c:Int))=false:=by simp;omega
        have f1:decide ((48:Int)≤(c:Int))=false:=by simp;omega
        have g1:((c:Int) != 46)=true:=by simp;omega
        have HN:Hid (nameD x=false):=hid (by rw [HND.out,List.all_eq_false];exact ⟨x[k],HME.out,by rw [hb];decide⟩)
        clear hb h
        go_wp2_with (fail)
        go_ret
        exact ⟨by rw [HN.out];rfl,rfl⟩
    · obtain rfl:k=x.size:=by omega
      have e2:decide ((x.size:Int)<(x.size:Int))=false:=by simp
      have HN:Hid (nameD x=true):=hid (by have h1:=HAL.out;rw [List.take_of_length_le (by simp)] at h1;rw [HND.out];exact h1)
      clear hlt
      go_wp2_with (fail)
      go_ret
      exact ⟨by rw [HN.out];rfl,rfl⟩
end
end Go.Proofs.YtodjilljcjkacaaGreatDoor
