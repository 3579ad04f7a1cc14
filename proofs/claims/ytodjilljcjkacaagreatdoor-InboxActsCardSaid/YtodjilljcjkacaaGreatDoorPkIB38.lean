/- Laid together: RI2. -/
import Derived.Test.YtodjilljcjkacaaGreatDoorPkIB37

namespace Go.Proofs.YtodjilljcjkacaaGreatDoor
open Lib (hid)
section
open Go.RowKit Go.MapKept
def fAct17 (Y:Nat) (A:Option Addr) (n c:Nat) (t5 u15 u16 u17 u18 u19 u20 u21 u22 u23 u24 u25 u26 u27 u28 u29 u30 u31 u32 u33 u34:Value):Act:={ tmps:=#[pY Y,.slice A n c,undef,undef,.bool false,t5,undef,undef,undef,undef,undef,undef,undef,undef,undef,u15,u16,u17,u18,u19,u20,u21,u22,u23,u24,u25,u26,u27,u28,u29,u30,u31,u32,u33,u34,undef,undef,undef,undef,undef,undef,undef,undef,undef,undef,undef,undef,undef,undef,undef,undef,undef,undef,undef,undef,undef,undef,undef,undef,undef,undef,undef,undef,undef,undef,undef,undef,undef,undef,undef,undef,undef,undef,undef,undef,undef,undef,undef,undef,undef,undef,undef,undef,undef,undef,undef,undef,undef,undef,undef,undef,undef,undef,undef,undef,undef,undef,undef,undef,undef,undef,undef,undef,undef,undef,undef,undef,undef,undef,undef],defers:=[] }
theorem RowsB.low {B B':Nat} {S:Nat→Prop} {w:World} {v:Value} {L:List (List UInt8)} (h:RowsB B S w v L) (hB:B'≤B):RowsB B' (fun k=>k<B') w v L:=by
  obtain ⟨vs,h1,h2,h3,h4⟩:=h
  refine ⟨vs,h1,own_base h2 hB,h3,fun i u x hu hx=>?_⟩
  obtain ⟨p,q⟩:=h4 i u x hu hx
  refine ⟨own_base p hB,fun k hk hlt=>?_⟩
  have:=(Own.lt p k hk).1
  omega
theorem RowsB.get {B:Nat} {S:Nat→Prop} {w:World} {v:Value} {L:List (List UInt8)} (h:RowsB B S w v L) {i:Nat} (hi:i<L.length):∃ b cv A c,v=.slice (some ⟨b,0,none⟩) L.length cv∧B≤b∧b<w.heap.size∧w.cell? ⟨b,i,none⟩=some (.slice A L[i].length c)∧Own 5 w B (.slice A L[i].length c) L[i]:=by
  obtain ⟨vs,hl,ho,_,hg⟩:=h
  rcases ho.2 with ⟨rfl,h0⟩|⟨g,cap,cur,rfl,h1,h2,h3,h4,h5,h6⟩
  · rw [h0] at hi;exact absurd hi (Nat.not_lt_zero _)
  · have hgl:i<vs.length:=by rw [hl];exact hi
    obtain ⟨hown,_⟩:=hg i vs[i] L[i] (List.getElem?_eq_getElem hgl) (List.getElem?_eq_getElem hi)
    obtain ⟨A,c,e,_,_⟩:=hown.bs
    rw [e] at hown
    refine ⟨g,cap,A,c,rfl,h1,(Array.getElem?_eq_some_iff.1 h2).1,?_,hown⟩
    rw [cell_of_row w g i cur _ _ h2]
    have e2:(cur.toList.take (L.length*1))[i]?=vs[i]?:=by rw [h6]
    rw [Nat.mul_one,List.getElem?_take,if_pos hi,List.getElem?_eq_getElem hgl,e] at e2
    simpa using e2
theorem RowsB.chLow {B:Nat} {S:Nat→Prop} {w w':World} {v:Value} {L:List (List UInt8)} (h:RowsB B (fun k=>k<B) w v L) (c:Ch S w w') (hS:∀ k,S k→k<B):RowsB B (fun k=>k<B) w' v L:=by
  have hv:∀ k,v.ownBlock=some k→B≤k:=fun k hk=>by
    obtain ⟨vs,_,ho,_⟩:=h
    exact (World.ownsRow.lt ho k hk).1
  exact h.ch c (fun k hk hs=>by have:=hv k hk;have:=hS k hs;omega) (fun k cur _ hn hs=>hn (hS k hs)) (fun _ _ h=>h)
theorem addD_lenI (d:Dk) (fs:Fs) (nm:ByteArray) (g:Nat) (b:List UInt8):(addD d fs nm g b).2.2.length≤fs.length+3:=by
  unfold addD
  split
  · have h1:=app_len d fs nm (record b)
    generalize appO d fs nm (record b)=o at h1
    obtain ⟨⟨n,x|op⟩,d2,fs2⟩:=o
    · show (if n<((record b).length:Int) then undo_ 4 (opTrunc d2 fs2 nm (g:Int)) else addS nm g (opSync d2 fs2 nm)).2.2.length≤_
      simp only at h1
      have hu:∀ (d3:Dk) (fs3:Fs) (x:Int),fs3.length≤fs.length+2→(undo_ x (opTrunc d3 fs3 nm (g:Int))).2.2.length≤fs.length+3:=fun d3 fs3 x hl=>by
        have h2:=trunc_len d3 fs3 nm (g:Int)
        generalize opTrunc d3 fs3 nm (g:Int)=o at h2
        obtain ⟨x|op,s⟩:=o
        · show s.2.length≤_;simp only at h2;omega
        · show s.2.length≤_;simp only at h2;omega
      split
      · exact hu _ _ _ (by omega)
      · have h2:=sync_len d2 fs2 nm
        generalize opSync d2 fs2 nm=o at h2
        obtain ⟨x|op,d3,fs3⟩:=o
        · show (if x=0 then ((.inl 0,(d3,fs3)):Out) else undo_ 5 (opTrunc d3 fs3 nm (g:Int))).2.2.length≤_
          simp only at h2
          split
          · show fs3.length≤_;omega
          · exact hu _ _ _ (by omega)
        · show fs3.length≤_;simp only at h2;omega
    · show fs2.length≤_;simp only at h1;omega
  · show fs.length≤_;omega
theorem keepD_lenI (d:Dk) (fs:Fs) (g:Nat) (b:List UInt8):(keepD d fs g b).2.2.length≤fs.length+3:=by
  unfold keepD
  split
  · exact addD_lenI d fs nmI g b
  · show fs.length≤_;omega
def doneW (Y:Nat) (w:World):Nat:=match w.cell? ⟨Y,3,none⟩ with
  | some (.int .i64 n)=>n.toNat
  | _=>0
theorem DI.done {O:Nat→Prop} {w:World} {B G H Y most g dn sn kp:Nat} {r:Rk} {Lf:Fs} {vr vh vb vo:Value} {P:List Value} {T an:List (List UInt8)} {bs:List UInt8} (h:DI O w B G H Y r Lf vr P T g vh most bs vb dn an vo sn kp):doneW Y w=dn:=by
  unfold doneW
  rw [h.cell 3]
  simp
theorem verdict_codes (l:List UInt8):(verdictD l).2.1=cB 0∨(verdictD l).2.1=cB 1∨(verdictD l).2.1=cB 2∨(verdictD l).2.1=⟨#[]⟩:=by
  unfold verdictD
  split
  · split
    · exact .inr (.inr (.inr rfl))
    · show codeOf _=_∨codeOf _=_∨codeOf _=_∨codeOf _=_
      unfold codeOf
      split
      · exact .inl rfl
      · split
        · exact .inr (.inl rfl)
        · exact .inr (.inr (.inl rfl))
  · exact .inr (.inr (.inr rfl))
def FLi (O:Nat→Prop) (B G H Y most:Nat) (bl:List UInt8) (vb:Value) (dn:Nat) (an:List (List UInt8)) (sn:Nat) (d:Dk) (g0 T0 kp0 L0:Nat) (D0:Nat→Prop) (W:World) (R:InR) (Ms:List (List UInt8)) (k:Nat) (wr:World):Prop :=
  ∃ d' fs' T' g' kp' La' r' Lf' vr' P' vh' vo',k≤Ms.length∧R=feedM d' fs' T' g' kp' La' (Ms.drop k)∧Sim d' fs' r' Lf'∧FsOk d' fs'∧d'.ops≤d.ops+3*k∧g'≤g0+29008*k∧T'.length≤T0+k∧kp'≤kp0+k∧La'.length≤k∧Lf'.length≤L0+3*k ∧
    DI O wr B G H Y r' Lf' vr' P' T' g' vh' most bl vb (dn+k) (an++La') vo' (sn+La'.length) kp'∧ICh D0 (DF17 G H Y vr' vh' vb vo') W wr
section
variable {O O' S:Nat→Prop} {w w':World} {B G H Y most g dn sn kp:Nat} {r:Rk} {Lf:Fs} {vr vh vb vo:Value} {P:List Value} {T an:List (List UInt8)} {bs:List UInt8} {d:Dk} {fs:Fs}
def RFeed (O:Nat→Prop) (w:World) (B G H Y:Nat) (vr vh vb vo:Value) (most:Nat) (bs:List UInt8) (an:List (List UInt8)) (sn N:Nat) (R:InR) (e:Ending) (w':World):Prop :=
  ∃ r' Lf' vr' P' vh' vb' vo' dn',e=.returned (.bool (decide (R.r≠.inl 0)))∧Sim R.d R.fs r' Lf'∧DI O w' B G H Y r' Lf' vr' P' R.T R.g vh' most bs vb' dn' (an++R.La) vo' (sn+R.La.length) R.kp∧(R.r=.inl 0→dn'=N) ∧
    ICh (DF17 G H Y vr vh vb vo) (DF17 G H Y vr' vh' vb' vo') w w'
set_option maxRecDepth 100000 in
set_option maxHeartbeats 8000000 in
theorem refFeed17 (h:DI O w B G H Y r Lf vr P T g vh most bs vb dn an vo sn kp) (hs:Sim d fs r Lf) (ok:FsOk d fs) (hm:most≤29000) (A:Option Addr) (n c:Nat) (l:List UInt8) (hl:Bs w A n c l) (hoff:0<n→∀ b,A=some b→¬ DF17 G H Y vr vh vb vo b.block)
    (hn:bs.length+n≤1000000) (hdn:dn=(feedD most newS bs).2.length) (ho:d.ops+3*(bs.length+n)+8≤1152921504606846976) (hg:g+29008*(bs.length+n)≤1099511000000) (hT:T.length+(bs.length+n)≤1099511627770) (hkp:kp+(bs.length+n)≤1099511627770) (hsn:sn+(bs.length+n)≤1099511627770) (han:an.length+(bs.length+n)≤1099511627770) (hLf:Lf.length+3*n≤10000) (hBw:B≤w.heap.size) :
    Calls Tryz.prog 17 #[pY Y,.slice A n c] w (RFeed O w B G H Y vr vh vb vo most (bs++l) an sn (feedD most newS (bs++l)).2.length (feedM d fs T g kp [] (feedD most (feedD most newS bs).1 l).2)):=by
  obtain ⟨Ab,cb,rfl,hbb,_⟩:=h.bs.bs
  have hw0:Below w.heap.size w (w.alloc (.cells #[] 5)):=(Below.refl _ _).alloc (Nat.le_refl _) _
  have c2:=(h.below hw0).cell 2
  simp only [List.getElem?_toArray,List.getElem?_cons_zero,List.getElem?_cons_succ] at c2
  have HI:=hid h
  have HL:=hid hl
  have HBB:=hid hbb
  have HLN:=hid hl.len
  have hmx:=hl.nmax
  obtain ⟨Nb,hNb⟩:∃ Nb,Nb=bs.length:=⟨_,rfl⟩
  rw [← hNb] at c2 HBB
  have HNB:=hid hNb
  have HN:Hid (Nb+n≤1000000):=hid (by rw [hNb];exact hn)
  have HY:Hid (Y<w.heap.size):=hid h.lt
  have HBW:=hid hBw
  clear h hl hbb hNb
  have HO16:Hid (Own 5 (w.alloc (.cells #[] 5)) w.heap.size (.slice (some ⟨w.heap.size,0,none⟩) 0 0) []):=hid (Own.lit 5 w [] (Nat.le_refl _) (by simp [maxLen]))
  have HW0:=hid hw0
  have HBB0:=hid (HBB.out.below hw0)
  have HL0:=hid (HL.out.below hw0)
  have tok1:Hid True:=hid trivial
  have tok2:Hid True:=hid trivial
  clear hw0
  go_enter Tryz.func17,Tryz.ntmps17
  go_wp2_with (first
    | (at_builtin;have _t:=tok1;go_loud ((refine wpList_appL rfl (.tmp 16) (.tmp 20) rfl w.heap.size (.slice (some ⟨w.heap.size,0,none⟩) 0 0) [] rfl HO16.out Ab Nb cb bs rfl HBB0.out (by have:=HN.out;simp;omega) HW0.out.size ?_;intro v1 w1 ho1 hg1 hf1;have HO1:=hid ho1;have HG1:=hid hg1;have HB1:=hid (HW0.out.trans ((Ch.of_grown (S:=fun k=>k=w.heap.size) hg1 (fun k hk=>by simp only [Value.ownBlock,Option.some.injEq] at hk;exact hk.symm)).below (B:=w.heap.size) (fun k hk=>Nat.le_of_eq (show k=w.heap.size from hk).symm) HW0.out.size));clear tok1 ho1 hg1 hf1 _t)))
    | (at_builtin;have _t:=tok2;go_loud ((refine wpList_appL rfl (.tmp 21) (.tmp 22) rfl w.heap.size v1 ([]++bs) rfl HO1.out A n c l rfl (HL0.out.ch (Ch.of_grown (S:=fun k=>k=w.heap.size) HG1.out (fun k hk=>by simp only [Value.ownBlock,Option.some.injEq] at hk;exact hk.symm)) (fun h0 b hb hk=>by obtain ⟨b',o',e',hlt,_⟩:=HL.out.at_ h0;rw [hb] at e';injection e' with e';subst e';have hk':b'=w.heap.size:=hk;omega)) (by have:=HN.out;have:=HNB.out;simp;omega) (Nat.le_trans HW0.out.size HG1.out.size) ?_;intro v2 w2 ho2 hg2 hf2;have HB2:=hid (HB1.out.trans ((Ch.of_grown (S:=fun k=>v1.ownBlock=some k) hg2 (fun k hk=>hk)).below (B:=w.heap.size) (fun k hk=>(Own.lt HO1.out k hk).1) HB1.out.size));have HO2:=hid ho2;obtain ⟨A2,c2',rfl,hbs2,_⟩:=ho2.bs;have f2:=(HI.out.below HB2.out).frozen 2;have c2w:=(HI.out.below HB2.out).cell 2;simp only [List.getElem?_toArray,List.getElem?_cons_zero,List.getElem?_cons_succ] at c2w;clear tok2 ho2 hg2 hf2 hbs2 _t))))
  obtain ⟨N2,hN2⟩:∃ N2,N2=([]++bs++l).length:=⟨_,rfl⟩
  have hBo:Own 5 w2 w.heap.size (.slice A2 N2 c2') (bs++l):=by
    have:=HO2.out
    rw [← hN2] at this
    simpa using this
  have eN2:bs.length+l.length=N2:=by rw [hN2];simp
  simp only [eN2]
  have hd3:DI O (w2.setCell ⟨Y,2,none⟩ (.slice A2 N2 c2')) B G H Y r Lf vr P T g vh most (bs++l) (.slice A2 N2 c2') dn an vo sn kp:=HI.out.newB ((Ch.of_below HB2.out).set1 2 _) (heap_set_row (HI.out.below HB2.out).row _) (own_base (hBo.ch (S:=At1 Y) ((Ch.refl _ _).set1 2 _) (fun k hk hs=>by have:=(Own.lt hBo k hk).1;have h1:=HY.out;rw [show k=Y from hs] at this;omega)) HBW.out) (fun k hk=>(Own.lt hBo k hk).1)
  have hc3:ICh (DF17 G H Y vr vh (.slice Ab bs.length cb) vo) (DF17 G H Y vr vh (.slice A2 N2 c2') vo) w (w2.setCell ⟨Y,2,none⟩ (.slice A2 N2 c2')):=⟨(Ch.refl (DF17 G H Y vr vh (.slice Ab bs.length cb) vo) w).trans ((Ch.of_below HB2.out).set1 2 _) (fun k _ hk=>.inr (.inr (.inl hk))),fun k hk=>by
    rcases hk with hk|hk|hk|hk|hk
    · exact .inl (.inl hk)
    · exact .inl (.inr (.inl hk))
    · exact .inl (.inr (.inr (.inl hk)))
    · exact .inr (Own.lt hBo k hk).1
    · exact .inl (.inr (.inr (.inr (.inr hk))))⟩
  have HN2:Hid (N2≤1000000):=hid (by have h1:=HN.out;have h2:=HNB.out;have h3:=HLN.out;rw [← eN2];omega)
  have HI3:=hid hd3
  have HC3:=hid hc3
  have HBW3:Hid (B≤(w2.setCell ⟨Y,2,none⟩ (.slice A2 N2 c2')).heap.size):=hid (Nat.le_trans HBW.out hc3.ch.size)
  clear hd3 hc3 hBo eN2 hN2 HO2 HO1 HG1 HB1 HB2 HBB0 HL0 HW0 HO16 f2 c2 c2w
  generalize w2.setCell ⟨Y,2,none⟩ (.slice A2 N2 c2')=w3 at *
  obtain ⟨S,hSd⟩:∃ S:World→Prop,∀ W,S W ↔ (W.cell? ⟨Y,2,none⟩=some (.slice A2 N2 c2')∧W.cell? ⟨Y,1,none⟩=some (.int .i64 (most:Int))):=⟨_,fun _=>Iff.rfl⟩
  have s0:∀ q:Meets S,q.u.cell? ⟨Y,2,none⟩=some (.slice A2 N2 c2'):=fun q=>((hSd _).1 q.h).1
  have s1:∀ q:Meets S,q.u.cell? ⟨Y,1,none⟩=some (.int .i64 (most:Int)):=fun q=>((hSd _).1 q.h).2
  have HS:=hid hSd
  have HSW:Hid (∀ W,Below w3.heap.size w3 W→S W):=hid (fun W hb=>(hSd _).2 ⟨(HI3.out.below hb).cell 2,(HI3.out.below hb).cell 1⟩)
  clear hSd
  have hne:Nonempty (Meets S):=⟨⟨_,HSW.out _ (Below.refl _ w3)⟩⟩
  refine wp_region_held_drew (S:=S) (by kernel_rfl) (HSW.out _ (Below.refl _ w3).drew) (fun _=>?_)
  refine takes (P:=Tryz.prog) (by kernel_rfl) (fun _ _ _ _ _ h=>h) [0,1,2,3,4,5,6,7] 3 _ _ _ (by kernel_rfl) (HSW.out _ (Below.refl _ w3).drew) ?_
  simp only [pick,List.getElem?_cons_zero,List.getElem?_cons_succ]
  repeat (first | go_big_quiet_step (fail))
  refine wpQuiet_nil ?_
  generalize hQ:Exit.then _ _=Q
  have key:∀ (Tb:Nat) (Af:Option Addr) (cf:Nat) (W:World) (u15 u16 u17 u18 u19 u20 u21 u22 u23 u24 u25 u26 u27 u28 u29 u30 u31 u32 u33 u34:Value),Below w3.heap.size w3 W→w3.heap.size≤Tb→W.heap[Tb]?=some (.cells (told (.slice Af (feedD most newS (bs++l)).2.length cf) (heldD (feedD most newS (bs++l)).1) (feedD most newS (bs++l)).1.junk (feedD most newS (bs++l)).1.over (feedD most newS (bs++l)).1.broken) 106) →
      RowsB w3.heap.size (fun k=>k<w3.heap.size) W (.slice Af (feedD most newS (bs++l)).2.length cf) (feedD most newS (bs++l)).2→Q .normal (fAct17 Y A n c (.pointer (some ⟨Tb,0,none⟩)) u15 u16 u17 u18 u19 u20 u21 u22 u23 u24 u25 u26 u27 u28 u29 u30 u31 u32 u33 u34) W:=by
    intro Tb Af cf W u15 u16 u17 u18 u19 u20 u21 u22 u23 u24 u25 u26 u27 u28 u29 u30 u31 u32 u33 u34 hbW hTb hTr hRB
    rw [← hQ]
    clear hQ
    obtain ⟨Ms,hMs⟩:∃ Ms,Ms=(feedD most (feedD most newS bs).1 l).2:=⟨_,rfl⟩
    obtain ⟨FR,hFR⟩:∃ FR,FR=(feedD most newS (bs++l)).2:=⟨_,rfl⟩
    obtain ⟨R,hR⟩:∃ R,R=feedM d fs T g kp [] Ms:=⟨_,rfl⟩
    have hFM:FR=(feedD most newS bs).2++Ms:=by rw [hFR,hMs,feedD_append]
    have hFl:FR.length=dn+Ms.length:=by rw [hFM,List.length_append,← hdn]
    rw [← hFR] at hTr hRB
    have hup:St.Up most bs.length (feedD most newS bs).1:=by
      have:=feed_up (new_up most) bs bs.length (Nat.le_refl _)
      rw [List.take_length,Nat.zero_add] at this
      exact this
    have HSH:Hid (∀ x ∈ Ms,x.length≤29000):=hid (fun x hx=>by
      have:=feed_short hup l l.length (Nat.le_refl _) x (by rw [List.take_length,← hMs];exact hx)
      omega)
    have HML:Hid (Ms.length≤n):=hid (by
      have:=feed_len most (feedD most newS bs).1 l l.length (Nat.le_refl _)
      rw [List.take_length,← hMs,HLN.out] at this
      exact this)
    have HDL:Hid (dn≤bs.length):=hid (by
      have:=feed_len most newS bs bs.length (Nat.le_refl _)
      rw [List.take_length,← hdn] at this
      exact this)
    obtain ⟨vb3,hvb3⟩:∃ vb3,vb3=Value.slice A2 N2 c2':=⟨_,rfl⟩
    obtain ⟨bl,hbl⟩:∃ bl,bl=bs++l:=⟨_,rfl⟩
    rw [← hvb3,← hbl] at HI3
    rw [← hbl] at hTr
    obtain ⟨NF,hNF⟩:∃ NF,NF=FR.length:=⟨_,rfl⟩
    rw [← hNF] at hTr hRB hFl
    have HNF:=hid hNF
    have hlow:∀ k,DF17 G H Y vr vh vb3 vo k→k<w3.heap.size:=fun k hk=>(HI3.out.foot_lt hk).2
    have HLOW:=hid hlow
    have HMS:=hid hMs
    have HRE:=hid hR
    have HFRE:Hid (FR=(feedD most newS bl).2):=hid (by rw [hbl];exact hFR)
    have HBL:=hid hbl
    have HICW:Hid (ICh (DF17 G H Y vr vh (.slice Ab bs.length cb) vo) (DF17 G H Y vr vh vb3 vo) w W):=hid (by rw [hvb3];exact HC3.out.trans (.of_below hbW))
    have H0:Hid (FLi O B G H Y most bl vb3 dn an sn d g T.length kp Lf.length (DF17 G H Y vr vh vb3 vo) W R Ms 0 W):=hid
      ⟨d,fs,T,g,kp,[],r,Lf,vr,P,vh,vo,Nat.zero_le _,hR,hs,ok,by omega,by omega,by omega,by omega,Nat.le_refl _,by omega,by rw [List.append_nil];exact HI3.out.below hbW,.of_below (Below.refl _ _)⟩
    have HTR:=hid hTr
    have HTB:=hid hTb
    have HRB:=hid hRB
    have HBW2:=hid hbW
    have HFM:=hid hFM
    have HFL:=hid hFl
    have HDN:=hid hdn
    have HO:=hid ho
    have HGG:=hid hg
    have HTT:=hid hT
    have HKP:=hid hkp
    have HSN:=hid hsn
    have HAN:=hid han
    have HLL:=hid hLf
    have HVB:=hid hvb3
    have HC3':=HC3
    clear hFR hMs hR hFM hFl hup hlow hTr hTb hRB hbW hs ok ho hg hT hkp hsn han hLf hdn hvb3 hbl hn hNF HI hoff s0 s1 hne HSW HS
    unfold fAct17
    go_wp2_with (fail)
    go_loopw [4,6,7,8,9,10,11,12,13,14,35,36,37,38,39,40,41,42,43,44,45,46,47,48,49,50,51,52,53,54,55,56,57,58,59,60,61,62,63,64,65,66,67,68,69,70,71,72,73,74,75,76,77,78,79,80,81,82,83,84,85,86,87,88,89,90,91,92,93,94,95,96,97,98,99,100,101,102,103,104,105,106,107,108,109] (fun _ _ _ _ _ _ _ _ _ _ _ _ _ _ _ _ _ _ _ _ _ _ _ _ _ _ _ _ _ _ _ _ _ _ _ _ _ _ _ _ _ _ _ _ _ _ _ _ _ _ _ _ _ _ _ _ _ _ _ _ _ _ _ _ _ _ _ _ _ _ _ _ _ _ _ _ _ _ _ _ _ _ _ _ _ wr=>∃ k:Nat,FLi O B G H Y most bl vb3 dn an sn d g T.length kp Lf.length (DF17 G H Y vr vh vb3 vo) W R Ms k wr) (fun _ _ _ _ _ _ _ _ _ _ _ _ _ _ _ _ _ _ _ _ _ _ _ _ _ _ _ _ _ _ _ _ _ _ _ _ _ _ _ _ _ _ _ _ _ _ _ _ _ _ _ _ _ _ _ _ _ _ _ _ _ _ _ _ _ _ _ _ _ _ _ _ _ _ _ _ _ _ _ _ _ _ _ _ _ wr=>dn+Ms.length-doneW Y wr)
    case atStart=>exact ⟨0,H0.out⟩
    case round =>
      obtain ⟨wo,rfl⟩:∃ wo:World,wo=wr:=⟨_,rfl⟩
      obtain ⟨k,d',fs',T',g',kp',La',r',Lf',vr',P',vh',vo',hk,hRR,hs,hok,hops,hgg,htt,hkk,hla,hlf,hdi,hic⟩:=hrel
      have hTw:wo.heap[Tb]?=some (.cells (told (.slice Af NF cf) (heldD (feedD most newS bl).1) (feedD most newS bl).1.junk (feedD most newS bl).1.over (feedD most newS bl).1.broken) 106):=hic.ch.row HTR.out (fun hs=>by have:=HLOW.out _ hs;have:=HTB.out;omega)
      have hTc:=cell_of_row wo Tb 0 _ _ _ hTw
      have hYc:=hdi.cell 3
      simp only [List.getElem?_toArray,List.getElem?_cons_zero,List.getElem?_cons_succ] at hTc hYc
      obtain ⟨q,hq⟩:∃ q,q=dn+k:=⟨_,rfl⟩
      rw [← hq] at hYc
      have HQ:=hid hq
      obtain ⟨S,hSd⟩:∃ S:World→Prop,∀ W,S W ↔ Below wo.heap.size wo W:=⟨_,fun _=>Iff.rfl⟩
      have hYl:=hdi.lt
      have hTl:Tb<wo.heap.size:=(Array.getElem?_eq_some_iff.1 hTw).1
      have s0:∀ n:Meets S,n.u.cell? ⟨Y,3,none⟩=some (.int .i64 (q:Int)):=fun n=>(((hSd _).1 n.h).cell (p:=⟨Y,3,none⟩) hYl).trans hYc
      have s1:∀ n:Meets S,n.u.cell? ⟨Tb,0,none⟩=some (.slice Af NF cf):=fun n=>(((hSd _).1 n.h).cell (p:=⟨Tb,0,none⟩) hTl).trans hTc
      have hne:Nonempty (Meets S):=⟨⟨wo,(hSd _).2 (Below.refl _ _)⟩⟩
      have HSD:=hid hSd
      clear hSd
      have HDI:=hid hdi
      have HDW0:Hid (doneW Y wo=q):=hid (by rw [hdi.done,hq])
      have HIC:=hid hic
      have HRR:=hid hRR
      have HS:=hid hs
      have HOK:=hid hok
      have HOPS:=hid hops
      have HG2:=hid hgg
      have HT2:=hid htt
      have HK2:=hid hkk
      have HLA:=hid hla
      have HLF:=hid hlf
      have HK:=hid hk
      have HTW:=hid hTw
      clear hRR hs hok hops hgg htt hkk hla hlf hdi hic H0 hTc hYc hTw
      by_cases hlt:k<Ms.length
      · have hkm:k<Ms.length:=hlt
        obtain ⟨m,hm⟩:∃ m,m=Ms[k]:=⟨_,rfl⟩
        have hfr:FR.getD q []=m:=by
          rw [hq,HFM.out,List.getD_eq_getElem?_getD,HDN.out,List.getElem?_append_right (by omega),show (feedD most newS bs).2.length+k-(feedD most newS bs).2.length=k by omega,List.getElem?_eq_getElem hkm,hm]
          rfl
        have hqf:q<FR.length:=by have:=HFL.out;have:=HNF.out;omega
        have hfq:FR[q]=m:=by rw [← hfr,List.getD_eq_getElem?_getD,List.getElem?_eq_getElem hqf];rfl
        obtain ⟨b,cv,Am,cm,hAf,hb1,hb2,hcell,hown⟩:=RowsB.get (by rw [HNF.out] at HRB;exact HRB.out) hqf
        rw [hfq] at hcell hown
        obtain ⟨A',c',e',hbmW,_⟩:=hown.bs
        injection e' with e1' e2' e3'
        subst e1' e3'
        have hob:=fun k hk=>Own.lt hown k hk
        have HMB:Hid (∀ (w':World) (D':Nat→Prop),ICh (DF17 G H Y vr vh vb3 vo) D' W w'→Bs w' Am m.length cm m∧(0<m.length→∀ b,Am=some b→¬ D' b.block)):=hid (fun w' D' hc=>⟨hbmW.ch hc.ch (fun h0 b hb hs=>by
          have h1:=HLOW.out _ hs
          have h2:=hob b.block (by rw [hb];rfl)
          omega),fun h0 b hb hs=>by
          have h2:=hob b.block (by rw [hb];rfl)
          rcases hc.foot _ hs with h3|h3
          · have:=HLOW.out _ h3;omega
          · omega⟩)
        have hml:=HSH.out m (by rw [hm];exact List.getElem_mem hkm)
        have hdr:Ms.drop k=m :: Ms.drop (k+1):=by rw [List.drop_eq_getElem_cons hkm,hm]
        rw [← HNF.out] at hAf
        injection hAf with hA1 hA2 hA3
        subst hA1 hA3
        have hcw:wo.cell? ⟨b,q,none⟩=some (.slice Am m.length cm):=(World.cell?_of_block (w:=W) (a:=⟨b,q,none⟩) (HIC.out.ch.block b hb2 (fun hs=>by have:=HLOW.out _ hs;omega))).trans hcell
        have hbw:b<wo.heap.size:=Nat.lt_of_lt_of_le hb2 HIC.out.ch.size
        have s2:∀ n:Meets S,n.u.cell? ⟨b,q,none⟩=some (.slice Am m.length cm):=fun n=>(((HSD.out _).1 n.h).cell (p:=⟨b,q,none⟩) hbw).trans hcw
        have e1:(q:Int)<(NF:Int):=by have:=HFL.out;omega
        obtain ⟨ml,hmle⟩:∃ ml,ml=m.length:=⟨_,rfl⟩
        rw [← hmle] at s2 HMB hml
        have HMLE:=hid hmle
        have HMLN:=hid hml
        have HDR:=hid hdr
        clear hm hfr hfq hqf hb1 hb2 hcell hcw hbw hob hown hbmW hA2 e2' hml hdr hkm hmle hq
        go_wp2_with (fail)
        refine region_plan S [] [0,1,2,3,4,5,6,7] (by kernel_rfl) (by kernel_rfl) (fun _ _ _ _ _ h=>h) ((HSD.out _).2 (Below.refl _ wo).drew) (fun hne=>?_)
        simp only [wpPlan,pick,List.getElem?_cons_zero,List.getElem?_cons_succ]
        repeat (go_big_quiet_step (fail))
        refine wpQuiet_nil ?_
        go_wp2_with (fail)
        refine region_plan S [] [0,1,2,3,4,5,6,7,8] (by kernel_rfl) (by kernel_rfl) (fun _ _ _ _ _ h=>h) ((HSD.out _).2 (Below.refl _ wo).drew.drew) (fun hne=>?_)
        simp only [wpPlan,pick,List.getElem?_cons_zero,List.getElem?_cons_succ]
        repeat (go_big_quiet_step (fail))
        refine wpQuiet_nil ?_
        have HB0:Hid (Below wo.heap.size wo wo.drew.drew):=hid (Below.refl _ wo).drew.drew
        clear s0 s1 s2
        generalize wo.drew.drew=w4 at *
        have c3:=(HDI.out.below HB0.out).cell 3
        have f3:=(HDI.out.below HB0.out).frozen 3
        simp only [List.getElem?_toArray,List.getElem?_cons_zero,List.getElem?_cons_succ] at c3
        rw [← HQ.out] at c3
        go_wp2_with (fail)
        have ew:wrap64 ((q:Int)+1)=((q+1:Nat):Int):=by have h1:=HFL.out;have h2:=HDL.out;have h3:=HML.out;have h4:=HN.out;have h5:=HNB.out;unfold wrap64;omega
        rw [ew]
        have hc5:Ch (At1 Y) w4 (w4.setCell ⟨Y,3,none⟩ (.int .i64 ((q+1:Nat):Int))):=(Ch.refl _ _).set1 3 _
        have hd5:DI O (w4.setCell ⟨Y,3,none⟩ (.int .i64 ((q+1:Nat):Int))) B G H Y r' Lf' vr' P' T' g' vh' most bl vb3 (q+1) (an++La') vo' (sn+La'.length) kp':=(HDI.out.below HB0.out).nums hc5 (heap_set_row (HDI.out.below HB0.out).row _)
        have HI5:Hid (ICh (DF17 G H Y vr vh vb3 vo) (DF17 G H Y vr' vh' vb3 vo') W (w4.setCell ⟨Y,3,none⟩ (.int .i64 ((q+1:Nat):Int)))):=hid ((HIC.out.trans (.of_below HB0.out)).trans (.wide hc5 (R':=fun _=>False) (fun _ h=>h.elim) (fun k hk=>.inr (.inr (.inl hk))) (fun k hk=>.inl hk)))
        have HD5:=hid hd5
        have hbm5:=(HMB.out _ _ HI5.out).1
        clear hc5 hd5 ew c3 f3 HDI HIC HB0 HTW
        generalize w4.setCell ⟨Y,3,none⟩ (.int .i64 ((q+1:Nat):Int))=w5 at *
        refine (refVerdict11 Am ml cm m w5 hbm5 (by have:=HMLN.out;omega)).mono ?_
        rintro e w6 ⟨rfl,hb6⟩
        have HD6:=hid (HD5.out.below hb6)
        have HI6:=hid (HI5.out.trans (.of_below hb6))
        clear hbm5 hb6 HD5 HI5
        obtain ⟨vd,hvd⟩:∃ vd,vd=verdictD m:=⟨_,rfl⟩
        rw [← hvd]
        have HVD:=hid hvd
        clear hvd
        obtain ⟨hd,cd,er⟩:=vd
        have HDW:Hid (doneW Y wo=q):=HDW0
        have HK1:Hid (k+1≤Ms.length):=hid hlt
        have hrr:=HRR.out
        rw [HDR.out] at hrr
        by_cases hcd:cd=⟨#[65,65]⟩
        · subst hcd
          have hkd:keepD d' fs' g' m=addD d' fs' nmI g' m:=by
            unfold keepD
            rw [← HVD.out]
            exact if_pos rfl
          have hw7:Below w6.heap.size w6 (w6.alloc (.cells hd.cells TH)):=(Below.refl _ _).alloc (Nat.le_refl _) _
          obtain ⟨w7,hw7e⟩:∃ w7,w7=w6.alloc (.cells hd.cells TH):=⟨_,rfl⟩
          rw [← hw7e] at hw7
          have HD7:=hid (HD6.out.below hw7)
          have HI7:=hid (HI6.out.trans (.of_below hw7))
          have c0:=(HD6.out.below (hw7e ▸ hw7)).cell 0
          simp only [List.getElem?_toArray,List.getElem?_cons_zero] at c0
          have HKD:=hid hkd
          have HRR2:=hid hrr
          clear hw7 hkd hrr HD6 HI6 HRR
          go_wp2_with (fail)
          change Calls _ _ _ (w6.alloc (.cells hd.cells TH)) _
          rw [← hw7e]
          clear hw7e c0
          have hadd:Calls Tryz.prog 57 #[pH H,.slice Am ml cm] w7 (RAdd (fun k=>O k∨YF Y vb3 vo' k) w7 B H G nmI T' g' vr' vh' m (addD d' fs' nmI g' m)):=by
            rw [HMLE.out]
            exact refAdd14 (O:=fun k=>O k∨YF Y vb3 vo' k) (w:=w7) HD7.out.rl HD7.out.rk HS.out HOK.out (by have h1:=HOPS.out;have h2:=HO.out;have h3:=HML.out;have h4:=HNB.out;omega) (by have:=HLF.out;have:=HLL.out;have:=HML.out;omega) (fun k hk=>hk.elim (fun h=>(HD7.out.od k h).1) (fun h=>(HD7.out.foot_lt (.inr (.inr h))).2)) (Nat.le_trans HD7.out.yb (Nat.le_of_lt HD7.out.lt)) (by decide) Am cm m (by rw [← HMLE.out];exact (HMB.out _ _ HI7.out).1) (fun h0 b hb=>⟨fun hk=>(HMB.out _ _ HI7.out).2 (by rw [HMLE.out];exact h0) b hb (.inl hk),fun hk=>(HMB.out _ _ HI7.out).2 (by rw [HMLE.out];exact h0) b hb (.inr (.inl hk))⟩) (by have:=HG2.out;have:=HGG.out;have:=HML.out;omega) (by have:=HT2.out;have:=HTT.out;have:=HML.out;omega)
          refine hadd.mono ?_
          clear hadd
          rintro e w8 ⟨e2,gn,r2,L2,vr2,P2,vh2,rfl,hag,hs2,hr2,hl2,hc2,ho2⟩
          have HAL:=hid (addD_lenI d' fs' nmI g' m)
          have HAK:=hid (addD_ok HOK.out (by have h1:=HOPS.out;have h2:=HO.out;have h3:=HML.out;have h4:=HNB.out;omega) nmI g' m)
          rw [← HKD.out] at hag hs2 hl2 HAL HAK
          have hd8:=HD7.out.add hr2 hl2 hc2 ho2
          have hi8:=HI7.out.trans (show ICh (DF17 G H Y vr' vh' vb3 vo') (DF17 G H Y vr2 vh2 vb3 vo') _ w8 from .wide hc2 ho2 (fun k hk=>hk.elim .inl (fun h=>.inr (.inl h))) (fun k hk=>by
            rcases hk with hk|hk|hk
            · exact .inr (.inl hk)
            · exact .inr (.inr hk)
            · exact .inl (.inr (.inr hk))))
          have hstep:∀ x,(keepD d' fs' g' m).1=.inl x→R=feedM (keepD d' fs' g' m).2.1 (keepD d' fs' g' m).2.2 (if x=0 then T'++[m] else T') (if x=0 then g'+(record m).length else g') (if x=0 then kp'+1 else kp') (La'++ansD m (.inl x)) (Ms.drop (k+1)):=fun x hx=>by rw [HRR2.out,feedM_step hx]
          have hgone:∀ op,(keepD d' fs' g' m).1=.inr op→R=⟨.inr op,(keepD d' fs' g' m).2.1,(keepD d' fs' g' m).2.2,T',g',kp',La'⟩:=fun op hx=>by
            rw [HRR2.out]
            unfold feedM
            rw [hx]
          clear hr2 hl2 hc2 ho2 HD7 HI7 HKD HRR2
          generalize keepD d' fs' g' m=oo at *
          obtain ⟨x|op,d2,fs2⟩:=oo
          · obtain ⟨rfl,rfl⟩:e2=x∧gn=false:=by
              rcases hag with ⟨y,h1,h2,h3⟩|⟨_,h1,_⟩
              · injection h1 with h1
                exact ⟨by rw [h2,h1],h3⟩
              · cases h1
            by_cases hx:e2=0
            · skip
              have HKB:Hid (kp'≤1099511627770):=hid (by have h1:=HK2.out;have h2:=HKP.out;have h3:=HML.out;have h4:=HK1.out;omega)
              have HOK2:Hid (FsOk d2 fs2):=hid HAK.out.1
              have HOPS2:Hid (d2.ops≤d.ops+3*((k+1:Nat):Int)):=hid (by have h1:d2.ops≤d'.ops+3:=HAK.out.2;have h2:=HOPS.out;omega)
              have HS2:=hid hs2
              have HLB2:Hid (L2.length≤Lf.length+3*(k+1)):=hid (by
                have h1:=hs2.perm.length_eq
                have h2:fs2.length≤fs'.length+3:=HAL.out
                have h3:=HS.out.perm.length_eq
                have h4:=HLF.out
                simp only at h1
                omega)
              subst hx
              have hrs:=hstep 0 rfl
              rw [if_pos rfl] at hd8 hrs
              rw [if_pos rfl] at hd8 hrs
              rw [if_pos rfl] at hrs
              obtain ⟨T2,hT2⟩:∃ T2,T2=T'++[m]:=⟨_,rfl⟩
              obtain ⟨g2,hg2⟩:∃ g2,g2=g'+(record m).length:=⟨_,rfl⟩
              rw [← hT2,← hg2] at hd8 hrs
              have HR2:Hid (R=feedM d2 fs2 T2 g2 (kp'+1) (La'++(if (replyD m true).2=true then [(replyD m true).1] else [])) (Ms.drop (k+1))):=hid hrs
              have HGB2:Hid (g2≤g+29008*(k+1)):=hid (by rw [hg2,record_length];have:=HG2.out;have:=HMLN.out;have:=HMLE.out;omega)
              have HTB2:Hid (T2.length≤T.length+(k+1)):=hid (by rw [hT2,List.length_append,List.length_singleton];have:=HT2.out;omega)
              have HKB2:Hid (kp'+1≤kp+(k+1)):=hid (by have:=HK2.out;omega)
              have HDx:=hid hd8
              have HIx:=hid hi8
              clear hd8 hi8 hstep hgone hag hs2 hrs hT2 hg2
              generalize hwx:w8=wx at *
              clear hwx
              have c6:=HDx.out.cell 6
              have f6:=HDx.out.frozen 6
              simp only [List.getElem?_toArray,List.getElem?_cons_zero,List.getElem?_cons_succ] at c6
              go_wp2_with (fail)
              have ew6:wrap64 ((kp':Int)+1)=((kp'+1:Nat):Int):=by have:=HKB.out;unfold wrap64;omega
              rw [ew6]
              have hc6:Ch (At1 Y) wx (wx.setCell ⟨Y,6,none⟩ (.int .i64 ((kp'+1:Nat):Int))):=(Ch.refl _ _).set1 6 _
              have hd6:DI O (wx.setCell ⟨Y,6,none⟩ (.int .i64 ((kp'+1:Nat):Int))) B G H Y r2 L2 vr2 P2 T2 g2 vh2 most bl vb3 (q+1) (an++La') vo' (sn+La'.length) (kp'+1):=HDx.out.nums hc6 (heap_set_row HDx.out.row _)
              have HDy:=hid hd6
              have HIy:Hid (ICh (DF17 G H Y vr vh vb3 vo) (DF17 G H Y vr2 vh2 vb3 vo') W (wx.setCell ⟨Y,6,none⟩ (.int .i64 ((kp'+1:Nat):Int)))):=hid (HIx.out.trans (.wide hc6 (R':=fun _=>False) (fun _ h=>h.elim) (fun k hk=>.inr (.inr (.inl hk))) (fun k hk=>.inl hk)))
              clear c6 f6 hc6 hd6 ew6 HDx HIx
              generalize wx.setCell ⟨Y,6,none⟩ (.int .i64 ((kp'+1:Nat):Int))=wy at *
              refine (refReply11 Am ml cm m true wy (HMLE.out ▸ (HMB.out _ _ HIy.out).1) (by have:=HMLN.out;omega)).mono ?_
              rintro e wz ⟨Ar,mr,cr,rfl,hbr,hbz,hfr⟩
              have HDz:=hid (HDy.out.below hbz)
              have HIz:=hid (HIy.out.trans (.of_below hbz))
              have hYlt:=HDy.out.lt
              have HFRz:Hid (∀ b,Ar=some b→¬ DF17 G H Y vr2 vh2 vb3 vo' b.block∧¬ O b.block):=hid (fun b hb=>by
                have h1:=hfr b hb
                exact ⟨fun h2=>by have:=(HDy.out.foot_lt h2).2;omega,fun h2=>by have:=(HDy.out.od _ h2).1;omega⟩)
              have HBR:=hid hbr
              have HBRL:=hid hbr.len
              have HBz:Hid (B≤wz.heap.size):=hid (Nat.le_trans (Nat.le_trans HDy.out.yb (Nat.le_of_lt hYlt)) hbz.size)
              have hdz:=HDz.out.done
              clear hbr hbz hfr HDy HIy hYlt
              obtain ⟨rp,hrp⟩:∃ rp,rp=replyD m true:=⟨_,rfl⟩
              rw [← hrp] at HBR HBRL HR2 ⊢
              clear hrp
              obtain ⟨ra,okk⟩:=rp
              cases okk
              · rw [show (if (ra,false).2=true then [(ra,false).1] else ([]:List (List UInt8)))=[] from rfl] at HR2
                go_wp2_with (fail)
                refine ⟨⟨k+1,d2,fs2,T2,g2,(kp'+1),La'++[],r2,L2,vr2,P2,vh2,vo',HK1.out,HR2.out,HS2.out,HOK2.out,HOPS2.out,HGB2.out,HTB2.out,HKB2.out,?_,HLB2.out,?_,HIz.out⟩,?_⟩
                · rw [List.append_nil];have:=HLA.out;omega
                · rw [List.append_nil]
                  have:=HDz.out
                  rw [HQ.out] at this
                  exact this
                · rw [hdz,HDW.out];have:=HQ.out;have:=HK1.out;omega
              · rw [show (if (ra,true).2=true then [(ra,true).1] else ([]:List (List UInt8)))=[ra] from rfl] at HR2
                have hbrl:ra.length=mr:=HBRL.out
                have hbr:Bs wz Ar mr cr ra:=HBR.out
                subst hbrl
                clear HBR HBRL
                obtain ⟨SL,hSL⟩:∃ SL,SL=sn+La'.length:=⟨_,rfl⟩
                have HSL:=hid hSL
                have hdz':=HDz.out
                rw [← hSL] at hdz'
                have HDz':=hid hdz'
                have hSLb:SL≤1099511627770:=by rw [hSL];have h1:=HSN.out;have h2:=HLA.out;have h3:=HK1.out;have h4:=HML.out;omega
                have ewS:(SL:Int)+1=((SL+1:Nat):Int):=by omega
                have hcS:Ch (At1 Y) wz (wz.setCell ⟨Y,5,none⟩ (.int .i64 ((SL:Int)+1))):=(Ch.refl _ _).set1 5 _
                have hdS:DI O (wz.setCell ⟨Y,5,none⟩ (.int .i64 ((SL:Int)+1))) B G H Y r2 L2 vr2 P2 T2 g2 vh2 most bl vb3 (q+1) (an++La') vo' (SL+1) (kp'+1):=hdz'.nums hcS (by
                  have:=heap_set_row (j:=5) hdz'.row (.int .i64 ((SL:Int)+1))
                  rw [ewS] at this ⊢
                  exact this)
                have hiS:ICh (DF17 G H Y vr vh vb3 vo) (DF17 G H Y vr2 vh2 vb3 vo') W (wz.setCell ⟨Y,5,none⟩ (.int .i64 ((SL:Int)+1))):=HIz.out.trans (.wide hcS (R':=fun _=>False) (fun _ h=>h.elim) (fun k hk=>.inr (.inr (.inl hk))) (fun k hk=>.inl hk))
                have hbS:Bs (wz.setCell ⟨Y,5,none⟩ (.int .i64 ((SL:Int)+1))) Ar ra.length cr ra:=hbr.ch hcS (fun _ b hb hs=>(HFRz.out b hb).1 (.inr (.inr (.inl hs))))
                have hba:Below (wz.setCell ⟨Y,5,none⟩ (.int .i64 ((SL:Int)+1))).heap.size (wz.setCell ⟨Y,5,none⟩ (.int .i64 ((SL:Int)+1))) ((wz.setCell ⟨Y,5,none⟩ (.int .i64 ((SL:Int)+1))).alloc (.cells #[.slice Ar ra.length cr] 40)):=(Below.refl _ _).alloc (Nat.le_refl _) _
                have HDA:=hid (hdS.below hba)
                have HIA:=hid (hiS.trans (.of_below hba))
                have HXA:=hid (hbS.below hba)
                have hszS:(wz.setCell ⟨Y,5,none⟩ (.int .i64 ((SL:Int)+1))).heap.size=wz.heap.size:=by simp [World.setCell]
                have HROW:Hid (((wz.setCell ⟨Y,5,none⟩ (.int .i64 ((SL:Int)+1))).alloc (.cells #[.slice Ar ra.length cr] 40)).heap[wz.heap.size]?=some (.cells #[.slice Ar ra.length cr] 40)):=hid (by
                  have:=heap_alloc_new (wz.setCell ⟨Y,5,none⟩ (.int .i64 ((SL:Int)+1))) (.cells #[.slice Ar ra.length cr] 40)
                  rw [hszS] at this
                  exact this)
                have HLT:Hid (0<ra.length→∀ b,Ar=some b→¬ vo'.ownBlock=some b.block∧¬ (O b.block∨b.block=Y∨vb3.ownBlock=some b.block∨RF G vr2 b.block∨RL H vh2 b.block)):=hid (fun _ b hb=>⟨fun e=>(HFRz.out b hb).1 (.inr (.inr (.inr (.inr e)))),fun e=>by
                  rcases e with e|e|e|e|e
                  · exact (HFRz.out b hb).2 e
                  · exact (HFRz.out b hb).1 (.inr (.inr (.inl e)))
                  · exact (HFRz.out b hb).1 (.inr (.inr (.inr (.inl e))))
                  · exact (HFRz.out b hb).1 (.inl e)
                  · exact (HFRz.out b hb).1 (.inr (.inl e))⟩)
                have HTN:Hid (¬ (fun k=>O k∨k=Y∨vb3.ownBlock=some k∨RF G vr2 k∨RL H vh2 k) ((wz.setCell ⟨Y,5,none⟩ (.int .i64 ((SL:Int)+1))).alloc (.cells #[.slice Ar ra.length cr] 40)).heap.size):=hid (fun e=>by
                  rcases e with e|e|e|e|e
                  · have:=(HDA.out.od _ e).1;omega
                  · have:=HDA.out.lt;omega
                  · have:=(HDA.out.foot_lt (.inr (.inr (.inr (.inl e))))).2;omega
                  · have:=(HDA.out.foot_lt (.inl e)).2;omega
                  · have:=(HDA.out.foot_lt (.inr (.inl e))).2;omega)
                have HLN2:Hid ((an++La').length+1≤1099511627776):=hid (by rw [List.length_append];have h1:=HAN.out;have h2:=HLA.out;have h3:=HK1.out;have h4:=HML.out;omega)
                have HBA:Hid (B≤((wz.setCell ⟨Y,5,none⟩ (.int .i64 ((SL:Int)+1))).alloc (.cells #[.slice Ar ra.length cr] 40)).heap.size):=hid (Nat.le_trans (Nat.le_trans HBz.out hcS.size) hba.size)
                have HEW:=hid ewS
                have c5:=hdz'.cell 5
                have f5:=hdz'.frozen 5
                have c4:=hdS.cell 4
                simp only [List.getElem?_toArray,List.getElem?_cons_zero,List.getElem?_cons_succ] at c5 c4
                have tok1:Hid True:=hid trivial
                clear hszS hcS hdS hiS hbS hba ewS hSL hdz' hbr
                go_wp2_with (at_builtin;have _t:=tok1;go_loud ((refine wpList_rw rfl (.tmp 104) (.tmp 106) rfl B (fun k=>O k∨k=Y∨vb3.ownBlock=some k∨RF G vr2 k∨RL H vh2 k) vo' (an++La') ra Ar cr rfl HDA.out.an HXA.out HLT.out HTN.out wz.heap.size rfl HROW.out HLN2.out HBA.out ?_;intro v9 w9 hw9 hgr9 hfr9;obtain ⟨A9,c9,rfl⟩:=hw9.form;obtain ⟨N9,hN9⟩:∃ N9,N9=(an++La'++[ra]).length:=⟨_,rfl⟩;rw [← hN9] at hw9 hfr9 ⊢;have hch9:=Ch.of_grown (S:=fun k=>vo'.ownBlock=some k) hgr9 (fun k hk=>hk);have HY9:=hid (hch9.row HDA.out.row (fun hk=>Rw.offT HDA.out.an hk (.inr (.inl rfl))));have c49:=cell_of_row w9 Y 4 _ _ _ HY9.out;have f49:w9.frozen? ⟨Y,4,none⟩=false:=(by simp [World.frozen?,HY9.out]);simp only [List.getElem?_toArray,List.getElem?_cons_zero,List.getElem?_cons_succ] at c49;have HW9:=hid hw9;have HC9:=hid hch9;have HF9:=hid hfr9;clear tok1 hw9 hgr9 hfr9 hch9 hN9 _t)))
                have hE:Ch (At1 Y) w9 (w9.setCell ⟨Y,4,none⟩ (.slice A9 N9 c9)):=(Ch.refl _ _).set1 4 _
                have hcE:Ch (fun k=>k=Y∨vo'.ownBlock=some k) ((wz.setCell ⟨Y,5,none⟩ (.int .i64 ((SL:Int)+1))).alloc (.cells #[.slice Ar ra.length cr] 40)) (w9.setCell ⟨Y,4,none⟩ (.slice A9 N9 c9)):=((Ch.refl _ _).trans HC9.out (fun k _ hk=>.inr hk)).trans hE (fun k _ hk=>.inl hk)
                have hf9:∀ k,(Value.slice A9 N9 c9).ownBlock=some k→vo'.ownBlock=some k∨((wz.setCell ⟨Y,5,none⟩ (.int .i64 ((SL:Int)+1))).alloc (.cells #[.slice Ar ra.length cr] 40)).heap.size≤k:=fun k hk=>by
                  rcases HF9.out with e|e
                  · exact .inl (by rw [← e];exact hk)
                  · rw [e] at hk;injection hk with hk;exact .inr (Nat.le_of_eq hk)
                have hdE:DI O (w9.setCell ⟨Y,4,none⟩ (.slice A9 N9 c9)) B G H Y r2 L2 vr2 P2 T2 g2 vh2 most bl vb3 (q+1) (an++La'++[ra]) (.slice A9 N9 c9) (SL+1) (kp'+1):=HDA.out.newO hcE (heap_set_row HY9.out _) (HW9.out.ch hE (fun k _ hk=>.inr (.inl hk)) (fun _ _ h=>h)) hf9
                have hiE:ICh (DF17 G H Y vr vh vb3 vo) (DF17 G H Y vr2 vh2 vb3 (.slice A9 N9 c9)) W (w9.setCell ⟨Y,4,none⟩ (.slice A9 N9 c9)):=HIA.out.trans (.wide hcE (R':=fun k=>(Value.slice A9 N9 c9).ownBlock=some k) (fun k hk=>(hf9 k hk).imp .inr id) (fun k hk=>hk.elim (fun e=>.inr (.inr (.inl e))) (fun e=>.inr (.inr (.inr (.inr e))))) (fun k hk=>by
                  rcases hk with hk|hk|hk|hk|hk
                  · exact .inl (.inl hk)
                  · exact .inl (.inr (.inl hk))
                  · exact .inl (.inr (.inr (.inl hk)))
                  · exact .inl (.inr (.inr (.inr (.inl hk))))
                  · exact .inr hk))
                have hdn9:=hdE.done
                refine ⟨⟨k+1,d2,fs2,T2,g2,(kp'+1),La'++[ra],r2,L2,vr2,P2,vh2,.slice A9 N9 c9,HK1.out,HR2.out,HS2.out,HOK2.out,HOPS2.out,HGB2.out,HTB2.out,HKB2.out,?_,HLB2.out,?_,hiE⟩,?_⟩
                · rw [List.length_append];have:=HLA.out;simp;omega
                · rw [← List.append_assoc,List.length_append,List.length_singleton,← Nat.add_assoc sn,← HSL.out,← Nat.add_assoc dn,← HQ.out]
                  exact hdE
                · rw [hdn9,HDW.out];have:=HQ.out;have:=HK1.out;omega
            · skip
              have HKB:Hid (kp'≤1099511627770):=hid (by have h1:=HK2.out;have h2:=HKP.out;have h3:=HML.out;have h4:=HK1.out;omega)
              have HOK2:Hid (FsOk d2 fs2):=hid HAK.out.1
              have HOPS2:Hid (d2.ops≤d.ops+3*((k+1:Nat):Int)):=hid (by have h1:d2.ops≤d'.ops+3:=HAK.out.2;have h2:=HOPS.out;omega)
              have HS2:=hid hs2
              have HLB2:Hid (L2.length≤Lf.length+3*(k+1)):=hid (by
                have h1:=hs2.perm.length_eq
                have h2:fs2.length≤fs'.length+3:=HAL.out
                have h3:=HS.out.perm.length_eq
                have h4:=HLF.out
                simp only at h1
                omega)
              have hrs:=hstep e2 rfl
              rw [if_neg (fun h=>hx (by injection h))] at hd8
              rw [if_neg (fun h=>hx (by injection h))] at hd8
              rw [if_neg hx,if_neg hx,if_neg hx] at hrs
              obtain ⟨T2,hT2⟩:∃ T2,T2=T':=⟨_,rfl⟩
              obtain ⟨g2,hg2⟩:∃ g2,g2=g':=⟨_,rfl⟩
              rw [← hT2,← hg2] at hd8 hrs
              have hde:decide (e2=0)=false:=by simpa using hx
              have HR2:Hid (R=feedM d2 fs2 T2 g2 kp' (La'++(if (replyD m false).2=true then [(replyD m false).1] else [])) (Ms.drop (k+1))):=hid (by
                have h:ansD m (.inl e2)=if (replyD m (decide (e2=0))).2=true then [(replyD m (decide (e2=0))).1] else []:=rfl
                rw [hde] at h
                rw [← h]
                exact hrs)
              have HGB2:Hid (g2≤g+29008*(k+1)):=hid (by rw [hg2];have:=HG2.out;omega)
              have HTB2:Hid (T2.length≤T.length+(k+1)):=hid (by rw [hT2];have:=HT2.out;omega)
              have HKB2:Hid (kp'≤kp+(k+1)):=hid (by have:=HK2.out;omega)
              have HDx:=hid hd8
              have HIx:=hid hi8
              clear hd8 hi8 hstep hgone hag hs2 hrs hT2 hg2 hde
              generalize hwx:w8=wx at *
              clear hwx
              go_wp2_with (fail)
              have HDy:=HDx
              have HIy:=HIx
              clear HDx HIx
              refine (refReply11 Am ml cm m false wx (HMLE.out ▸ (HMB.out _ _ HIy.out).1) (by have:=HMLN.out;omega)).mono ?_
              rintro e wz ⟨Ar,mr,cr,rfl,hbr,hbz,hfr⟩
              have HDz:=hid (HDy.out.below hbz)
              have HIz:=hid (HIy.out.trans (.of_below hbz))
              have hYlt:=HDy.out.lt
              have HFRz:Hid (∀ b,Ar=some b→¬ DF17 G H Y vr2 vh2 vb3 vo' b.block∧¬ O b.block):=hid (fun b hb=>by
                have h1:=hfr b hb
                exact ⟨fun h2=>by have:=(HDy.out.foot_lt h2).2;omega,fun h2=>by have:=(HDy.out.od _ h2).1;omega⟩)
              have HBR:=hid hbr
              have HBRL:=hid hbr.len
              have HBz:Hid (B≤wz.heap.size):=hid (Nat.le_trans (Nat.le_trans HDy.out.yb (Nat.le_of_lt hYlt)) hbz.size)
              have hdz:=HDz.out.done
              clear hbr hbz hfr HDy HIy hYlt
              obtain ⟨rp,hrp⟩:∃ rp,rp=replyD m false:=⟨_,rfl⟩
              rw [← hrp] at HBR HBRL HR2 ⊢
              clear hrp
              obtain ⟨ra,okk⟩:=rp
              cases okk
              · rw [show (if (ra,false).2=true then [(ra,false).1] else ([]:List (List UInt8)))=[] from rfl] at HR2
                go_wp2_with (fail)
                refine ⟨⟨k+1,d2,fs2,T2,g2,kp',La'++[],r2,L2,vr2,P2,vh2,vo',HK1.out,HR2.out,HS2.out,HOK2.out,HOPS2.out,HGB2.out,HTB2.out,HKB2.out,?_,HLB2.out,?_,HIz.out⟩,?_⟩
                · rw [List.append_nil];have:=HLA.out;omega
                · rw [List.append_nil]
                  have:=HDz.out
                  rw [HQ.out] at this
                  exact this
                · rw [hdz,HDW.out];have:=HQ.out;have:=HK1.out;omega
              · rw [show (if (ra,true).2=true then [(ra,true).1] else ([]:List (List UInt8)))=[ra] from rfl] at HR2
                have hbrl:ra.length=mr:=HBRL.out
                have hbr:Bs wz Ar mr cr ra:=HBR.out
                subst hbrl
                clear HBR HBRL
                obtain ⟨SL,hSL⟩:∃ SL,SL=sn+La'.length:=⟨_,rfl⟩
                have HSL:=hid hSL
                have hdz':=HDz.out
                rw [← hSL] at hdz'
                have HDz':=hid hdz'
                have hSLb:SL≤1099511627770:=by rw [hSL];have h1:=HSN.out;have h2:=HLA.out;have h3:=HK1.out;have h4:=HML.out;omega
                have ewS:(SL:Int)+1=((SL+1:Nat):Int):=by omega
                have hcS:Ch (At1 Y) wz (wz.setCell ⟨Y,5,none⟩ (.int .i64 ((SL:Int)+1))):=(Ch.refl _ _).set1 5 _
                have hdS:DI O (wz.setCell ⟨Y,5,none⟩ (.int .i64 ((SL:Int)+1))) B G H Y r2 L2 vr2 P2 T2 g2 vh2 most bl vb3 (q+1) (an++La') vo' (SL+1) kp':=hdz'.nums hcS (by
                  have:=heap_set_row (j:=5) hdz'.row (.int .i64 ((SL:Int)+1))
                  rw [ewS] at this ⊢
                  exact this)
                have hiS:ICh (DF17 G H Y vr vh vb3 vo) (DF17 G H Y vr2 vh2 vb3 vo') W (wz.setCell ⟨Y,5,none⟩ (.int .i64 ((SL:Int)+1))):=HIz.out.trans (.wide hcS (R':=fun _=>False) (fun _ h=>h.elim) (fun k hk=>.inr (.inr (.inl hk))) (fun k hk=>.inl hk))
                have hbS:Bs (wz.setCell ⟨Y,5,none⟩ (.int .i64 ((SL:Int)+1))) Ar ra.length cr ra:=hbr.ch hcS (fun _ b hb hs=>(HFRz.out b hb).1 (.inr (.inr (.inl hs))))
                have hba:Below (wz.setCell ⟨Y,5,none⟩ (.int .i64 ((SL:Int)+1))).heap.size (wz.setCell ⟨Y,5,none⟩ (.int .i64 ((SL:Int)+1))) ((wz.setCell ⟨Y,5,none⟩ (.int .i64 ((SL:Int)+1))).alloc (.cells #[.slice Ar ra.length cr] 40)):=(Below.refl _ _).alloc (Nat.le_refl _) _
                have HDA:=hid (hdS.below hba)
                have HIA:=hid (hiS.trans (.of_below hba))
                have HXA:=hid (hbS.below hba)
                have hszS:(wz.setCell ⟨Y,5,none⟩ (.int .i64 ((SL:Int)+1))).heap.size=wz.heap.size:=by simp [World.setCell]
                have HROW:Hid (((wz.setCell ⟨Y,5,none⟩ (.int .i64 ((SL:Int)+1))).alloc (.cells #[.slice Ar ra.length cr] 40)).heap[wz.heap.size]?=some (.cells #[.slice Ar ra.length cr] 40)):=hid (by
                  have:=heap_alloc_new (wz.setCell ⟨Y,5,none⟩ (.int .i64 ((SL:Int)+1))) (.cells #[.slice Ar ra.length cr] 40)
                  rw [hszS] at this
                  exact this)
                have HLT:Hid (0<ra.length→∀ b,Ar=some b→¬ vo'.ownBlock=some b.block∧¬ (O b.block∨b.block=Y∨vb3.ownBlock=some b.block∨RF G vr2 b.block∨RL H vh2 b.block)):=hid (fun _ b hb=>⟨fun e=>(HFRz.out b hb).1 (.inr (.inr (.inr (.inr e)))),fun e=>by
                  rcases e with e|e|e|e|e
                  · exact (HFRz.out b hb).2 e
                  · exact (HFRz.out b hb).1 (.inr (.inr (.inl e)))
                  · exact (HFRz.out b hb).1 (.inr (.inr (.inr (.inl e))))
                  · exact (HFRz.out b hb).1 (.inl e)
                  · exact (HFRz.out b hb).1 (.inr (.inl e))⟩)
                have HTN:Hid (¬ (fun k=>O k∨k=Y∨vb3.ownBlock=some k∨RF G vr2 k∨RL H vh2 k) ((wz.setCell ⟨Y,5,none⟩ (.int .i64 ((SL:Int)+1))).alloc (.cells #[.slice Ar ra.length cr] 40)).heap.size):=hid (fun e=>by
                  rcases e with e|e|e|e|e
                  · have:=(HDA.out.od _ e).1;omega
                  · have:=HDA.out.lt;omega
                  · have:=(HDA.out.foot_lt (.inr (.inr (.inr (.inl e))))).2;omega
                  · have:=(HDA.out.foot_lt (.inl e)).2;omega
                  · have:=(HDA.out.foot_lt (.inr (.inl e))).2;omega)
                have HLN2:Hid ((an++La').length+1≤1099511627776):=hid (by rw [List.length_append];have h1:=HAN.out;have h2:=HLA.out;have h3:=HK1.out;have h4:=HML.out;omega)
                have HBA:Hid (B≤((wz.setCell ⟨Y,5,none⟩ (.int .i64 ((SL:Int)+1))).alloc (.cells #[.slice Ar ra.length cr] 40)).heap.size):=hid (Nat.le_trans (Nat.le_trans HBz.out hcS.size) hba.size)
                have HEW:=hid ewS
                have c5:=hdz'.cell 5
                have f5:=hdz'.frozen 5
                have c4:=hdS.cell 4
                simp only [List.getElem?_toArray,List.getElem?_cons_zero,List.getElem?_cons_succ] at c5 c4
                have tok1:Hid True:=hid trivial
                clear hszS hcS hdS hiS hbS hba ewS hSL hdz' hbr
                go_wp2_with (at_builtin;have _t:=tok1;go_loud ((refine wpList_rw rfl (.tmp 104) (.tmp 106) rfl B (fun k=>O k∨k=Y∨vb3.ownBlock=some k∨RF G vr2 k∨RL H vh2 k) vo' (an++La') ra Ar cr rfl HDA.out.an HXA.out HLT.out HTN.out wz.heap.size rfl HROW.out HLN2.out HBA.out ?_;intro v9 w9 hw9 hgr9 hfr9;obtain ⟨A9,c9,rfl⟩:=hw9.form;obtain ⟨N9,hN9⟩:∃ N9,N9=(an++La'++[ra]).length:=⟨_,rfl⟩;rw [← hN9] at hw9 hfr9 ⊢;have hch9:=Ch.of_grown (S:=fun k=>vo'.ownBlock=some k) hgr9 (fun k hk=>hk);have HY9:=hid (hch9.row HDA.out.row (fun hk=>Rw.offT HDA.out.an hk (.inr (.inl rfl))));have c49:=cell_of_row w9 Y 4 _ _ _ HY9.out;have f49:w9.frozen? ⟨Y,4,none⟩=false:=(by simp [World.frozen?,HY9.out]);simp only [List.getElem?_toArray,List.getElem?_cons_zero,List.getElem?_cons_succ] at c49;have HW9:=hid hw9;have HC9:=hid hch9;have HF9:=hid hfr9;clear tok1 hw9 hgr9 hfr9 hch9 hN9 _t)))
                have hE:Ch (At1 Y) w9 (w9.setCell ⟨Y,4,none⟩ (.slice A9 N9 c9)):=(Ch.refl _ _).set1 4 _
                have hcE:Ch (fun k=>k=Y∨vo'.ownBlock=some k) ((wz.setCell ⟨Y,5,none⟩ (.int .i64 ((SL:Int)+1))).alloc (.cells #[.slice Ar ra.length cr] 40)) (w9.setCell ⟨Y,4,none⟩ (.slice A9 N9 c9)):=((Ch.refl _ _).trans HC9.out (fun k _ hk=>.inr hk)).trans hE (fun k _ hk=>.inl hk)
                have hf9:∀ k,(Value.slice A9 N9 c9).ownBlock=some k→vo'.ownBlock=some k∨((wz.setCell ⟨Y,5,none⟩ (.int .i64 ((SL:Int)+1))).alloc (.cells #[.slice Ar ra.length cr] 40)).heap.size≤k:=fun k hk=>by
                  rcases HF9.out with e|e
                  · exact .inl (by rw [← e];exact hk)
                  · rw [e] at hk;injection hk with hk;exact .inr (Nat.le_of_eq hk)
                have hdE:DI O (w9.setCell ⟨Y,4,none⟩ (.slice A9 N9 c9)) B G H Y r2 L2 vr2 P2 T2 g2 vh2 most bl vb3 (q+1) (an++La'++[ra]) (.slice A9 N9 c9) (SL+1) kp':=HDA.out.newO hcE (heap_set_row HY9.out _) (HW9.out.ch hE (fun k _ hk=>.inr (.inl hk)) (fun _ _ h=>h)) hf9
                have hiE:ICh (DF17 G H Y vr vh vb3 vo) (DF17 G H Y vr2 vh2 vb3 (.slice A9 N9 c9)) W (w9.setCell ⟨Y,4,none⟩ (.slice A9 N9 c9)):=HIA.out.trans (.wide hcE (R':=fun k=>(Value.slice A9 N9 c9).ownBlock=some k) (fun k hk=>(hf9 k hk).imp .inr id) (fun k hk=>hk.elim (fun e=>.inr (.inr (.inl e))) (fun e=>.inr (.inr (.inr (.inr e))))) (fun k hk=>by
                  rcases hk with hk|hk|hk|hk|hk
                  · exact .inl (.inl hk)
                  · exact .inl (.inr (.inl hk))
                  · exact .inl (.inr (.inr (.inl hk)))
                  · exact .inl (.inr (.inr (.inr (.inl hk))))
                  · exact .inr hk))
                have hdn9:=hdE.done
                refine ⟨⟨k+1,d2,fs2,T2,g2,kp',La'++[ra],r2,L2,vr2,P2,vh2,.slice A9 N9 c9,HK1.out,HR2.out,HS2.out,HOK2.out,HOPS2.out,HGB2.out,HTB2.out,HKB2.out,?_,HLB2.out,?_,hiE⟩,?_⟩
                · rw [List.length_append];have:=HLA.out;simp;omega
                · rw [← List.append_assoc,List.length_append,List.length_singleton,← Nat.add_assoc sn,← HSL.out,← Nat.add_assoc dn,← HQ.out]
                  exact hdE
                · rw [hdn9,HDW.out];have:=HQ.out;have:=HK1.out;omega
          · obtain rfl:gn=true:=by
              rcases hag with ⟨_,h1,_⟩|⟨_,_,_,h3⟩
              · cases h1
              · exact h3
            have HGO:=hid (hgone op rfl)
            have HS2:=hid hs2
            rw [if_neg (fun h=>by cases h),if_neg (fun h=>by cases h)] at hd8
            have HD8:=hid hd8
            have HI8:=hid hi8
            clear hd8 hi8 hstep hgone hag hs2
            go_wp2_with (fail)
            go_ret
            rw [← HMS.out,← HRE.out,HGO.out]
            refine ⟨r2,L2,vr2,P2,vh2,vb3,vo',q+1,by simp,HS2.out,?_,(fun h=>by cases h),HICW.out.trans HI8.out⟩
            rw [← HBL.out]
            exact HD8.out
        · skip
          have hkd:keepD d' fs' g' m=(.inl 1,d',fs'):=by
            unfold keepD
            rw [← HVD.out]
            exact if_neg hcd
          have hrs:R=feedM d' fs' T' g' kp' (La'++ansD m (.inl 1)) (Ms.drop (k+1)):=by
            rw [hrr,feedM_step (x:=1) (by rw [hkd]),hkd]
            rfl
          have HR2:Hid (R=feedM d' fs' T' g' kp' (La'++(if (replyD m false).2=true then [(replyD m false).1] else [])) (Ms.drop (k+1))):=hid hrs
          have hw7:Below w6.heap.size w6 (w6.alloc (.cells hd.cells TH)):=(Below.refl _ _).alloc (Nat.le_refl _) _
          have HDx:=hid (HD6.out.below hw7)
          have HIx:=hid (HI6.out.trans (.of_below hw7))
          have HKB:Hid (kp'≤1099511627770):=hid (by have h1:=HK2.out;have h2:=HKP.out;have h3:=HML.out;have h4:=HK1.out;omega)
          have HOPS2:Hid (d'.ops≤d.ops+3*((k+1:Nat):Int)):=hid (by have h2:=HOPS.out;omega)
          have HLB2:Hid (Lf'.length≤Lf.length+3*(k+1)):=hid (by have h4:=HLF.out;omega)
          have HGB2:Hid (g'≤g+29008*(k+1)):=hid (by have:=HG2.out;omega)
          have HTB2:Hid (T'.length≤T.length+(k+1)):=hid (by have:=HT2.out;omega)
          have HKB2:Hid (kp'≤kp+(k+1)):=hid (by have:=HK2.out;omega)
          have HOK2:=HOK
          have HS2:=HS
          have hcs:=verdict_codes m
          rw [← HVD.out] at hcs
          have hcd2:(cd.toList == [65,65])=false:=by
            rcases hcs with h|h|h|h
            · exact absurd h hcd
            · rw [show cd=cB 1 from h,Go.ByteArray.toList_eq];rfl
            · rw [show cd=cB 2 from h,Go.ByteArray.toList_eq];rfl
            · rw [show cd=⟨#[]⟩ from h,Go.ByteArray.toList_eq];rfl
          clear hcs
          clear hw7 hkd hrr hrs HD6 HI6 HRR
          go_wp2_with (fail)
          have HDy:=HDx
          have HIy:=HIx
          clear HDx HIx
          refine (refReply11 Am ml cm m false (w6.alloc (.cells hd.cells TH)) (HMLE.out ▸ (HMB.out _ _ HIy.out).1) (by have:=HMLN.out;omega)).mono ?_
          rintro e wz ⟨Ar,mr,cr,rfl,hbr,hbz,hfr⟩
          have HDz:=hid (HDy.out.below hbz)
          have HIz:=hid (HIy.out.trans (.of_below hbz))
          have hYlt:=HDy.out.lt
          have HFRz:Hid (∀ b,Ar=some b→¬ DF17 G H Y vr' vh' vb3 vo' b.block∧¬ O b.block):=hid (fun b hb=>by
            have h1:=hfr b hb
            exact ⟨fun h2=>by have:=(HDy.out.foot_lt h2).2;omega,fun h2=>by have:=(HDy.out.od _ h2).1;omega⟩)
          have HBR:=hid hbr
          have HBRL:=hid hbr.len
          have HBz:Hid (B≤wz.heap.size):=hid (Nat.le_trans (Nat.le_trans HDy.out.yb (Nat.le_of_lt hYlt)) hbz.size)
          have hdz:=HDz.out.done
          clear hbr hbz hfr HDy HIy hYlt
          obtain ⟨rp,hrp⟩:∃ rp,rp=replyD m false:=⟨_,rfl⟩
          rw [← hrp] at HBR HBRL HR2 ⊢
          clear hrp
          obtain ⟨ra,okk⟩:=rp
          cases okk
          · rw [show (if (ra,false).2=true then [(ra,false).1] else ([]:List (List UInt8)))=[] from rfl] at HR2
            go_wp2_with (fail)
            refine ⟨⟨k+1,d',fs',T',g',kp',La'++[],r',Lf',vr',P',vh',vo',HK1.out,HR2.out,HS2.out,HOK2.out,HOPS2.out,HGB2.out,HTB2.out,HKB2.out,?_,HLB2.out,?_,HIz.out⟩,?_⟩
            · rw [List.append_nil];have:=HLA.out;omega
            · rw [List.append_nil]
              have:=HDz.out
              rw [HQ.out] at this
              exact this
            · rw [hdz,HDW.out];have:=HQ.out;have:=HK1.out;omega
          · rw [show (if (ra,true).2=true then [(ra,true).1] else ([]:List (List UInt8)))=[ra] from rfl] at HR2
            have hbrl:ra.length=mr:=HBRL.out
            have hbr:Bs wz Ar mr cr ra:=HBR.out
            subst hbrl
            clear HBR HBRL
            obtain ⟨SL,hSL⟩:∃ SL,SL=sn+La'.length:=⟨_,rfl⟩
            have HSL:=hid hSL
            have hdz':=HDz.out
            rw [← hSL] at hdz'
            have HDz':=hid hdz'
            have hSLb:SL≤1099511627770:=by rw [hSL];have h1:=HSN.out;have h2:=HLA.out;have h3:=HK1.out;have h4:=HML.out;omega
            have ewS:(SL:Int)+1=((SL+1:Nat):Int):=by omega
            have hcS:Ch (At1 Y) wz (wz.setCell ⟨Y,5,none⟩ (.int .i64 ((SL:Int)+1))):=(Ch.refl _ _).set1 5 _
            have hdS:DI O (wz.setCell ⟨Y,5,none⟩ (.int .i64 ((SL:Int)+1))) B G H Y r' Lf' vr' P' T' g' vh' most bl vb3 (q+1) (an++La') vo' (SL+1) kp':=hdz'.nums hcS (by
              have:=heap_set_row (j:=5) hdz'.row (.int .i64 ((SL:Int)+1))
              rw [ewS] at this ⊢
              exact this)
            have hiS:ICh (DF17 G H Y vr vh vb3 vo) (DF17 G H Y vr' vh' vb3 vo') W (wz.setCell ⟨Y,5,none⟩ (.int .i64 ((SL:Int)+1))):=HIz.out.trans (.wide hcS (R':=fun _=>False) (fun _ h=>h.elim) (fun k hk=>.inr (.inr (.inl hk))) (fun k hk=>.inl hk))
            have hbS:Bs (wz.setCell ⟨Y,5,none⟩ (.int .i64 ((SL:Int)+1))) Ar ra.length cr ra:=hbr.ch hcS (fun _ b hb hs=>(HFRz.out b hb).1 (.inr (.inr (.inl hs))))
            have hba:Below (wz.setCell ⟨Y,5,none⟩ (.int .i64 ((SL:Int)+1))).heap.size (wz.setCell ⟨Y,5,none⟩ (.int .i64 ((SL:Int)+1))) ((wz.setCell ⟨Y,5,none⟩ (.int .i64 ((SL:Int)+1))).alloc (.cells #[.slice Ar ra.length cr] 40)):=(Below.refl _ _).alloc (Nat.le_refl _) _
            have HDA:=hid (hdS.below hba)
            have HIA:=hid (hiS.trans (.of_below hba))
            have HXA:=hid (hbS.below hba)
            have hszS:(wz.setCell ⟨Y,5,none⟩ (.int .i64 ((SL:Int)+1))).heap.size=wz.heap.size:=by simp [World.setCell]
            have HROW:Hid (((wz.setCell ⟨Y,5,none⟩ (.int .i64 ((SL:Int)+1))).alloc (.cells #[.slice Ar ra.length cr] 40)).heap[wz.heap.size]?=some (.cells #[.slice Ar ra.length cr] 40)):=hid (by
              have:=heap_alloc_new (wz.setCell ⟨Y,5,none⟩ (.int .i64 ((SL:Int)+1))) (.cells #[.slice Ar ra.length cr] 40)
              rw [hszS] at this
              exact this)
            have HLT:Hid (0<ra.length→∀ b,Ar=some b→¬ vo'.ownBlock=some b.block∧¬ (O b.block∨b.block=Y∨vb3.ownBlock=some b.block∨RF G vr' b.block∨RL H vh' b.block)):=hid (fun _ b hb=>⟨fun e=>(HFRz.out b hb).1 (.inr (.inr (.inr (.inr e)))),fun e=>by
              rcases e with e|e|e|e|e
              · exact (HFRz.out b hb).2 e
              · exact (HFRz.out b hb).1 (.inr (.inr (.inl e)))
              · exact (HFRz.out b hb).1 (.inr (.inr (.inr (.inl e))))
              · exact (HFRz.out b hb).1 (.inl e)
              · exact (HFRz.out b hb).1 (.inr (.inl e))⟩)
            have HTN:Hid (¬ (fun k=>O k∨k=Y∨vb3.ownBlock=some k∨RF G vr' k∨RL H vh' k) ((wz.setCell ⟨Y,5,none⟩ (.int .i64 ((SL:Int)+1))).alloc (.cells #[.slice Ar ra.length cr] 40)).heap.size):=hid (fun e=>by
              rcases e with e|e|e|e|e
              · have:=(HDA.out.od _ e).1;omega
              · have:=HDA.out.lt;omega
              · have:=(HDA.out.foot_lt (.inr (.inr (.inr (.inl e))))).2;omega
              · have:=(HDA.out.foot_lt (.inl e)).2;omega
              · have:=(HDA.out.foot_lt (.inr (.inl e))).2;omega)
            have HLN2:Hid ((an++La').length+1≤1099511627776):=hid (by rw [List.length_append];have h1:=HAN.out;have h2:=HLA.out;have h3:=HK1.out;have h4:=HML.out;omega)
            have HBA:Hid (B≤((wz.setCell ⟨Y,5,none⟩ (.int .i64 ((SL:Int)+1))).alloc (.cells #[.slice Ar ra.length cr] 40)).heap.size):=hid (Nat.le_trans (Nat.le_trans HBz.out hcS.size) hba.size)
            have HEW:=hid ewS
            have c5:=hdz'.cell 5
            have f5:=hdz'.frozen 5
            have c4:=hdS.cell 4
            simp only [List.getElem?_toArray,List.getElem?_cons_zero,List.getElem?_cons_succ] at c5 c4
            have tok1:Hid True:=hid trivial
            clear hszS hcS hdS hiS hbS hba ewS hSL hdz' hbr
            go_wp2_with (at_builtin;have _t:=tok1;go_loud ((refine wpList_rw rfl (.tmp 104) (.tmp 106) rfl B (fun k=>O k∨k=Y∨vb3.ownBlock=some k∨RF G vr' k∨RL H vh' k) vo' (an++La') ra Ar cr rfl HDA.out.an HXA.out HLT.out HTN.out wz.heap.size rfl HROW.out HLN2.out HBA.out ?_;intro v9 w9 hw9 hgr9 hfr9;obtain ⟨A9,c9,rfl⟩:=hw9.form;obtain ⟨N9,hN9⟩:∃ N9,N9=(an++La'++[ra]).length:=⟨_,rfl⟩;rw [← hN9] at hw9 hfr9 ⊢;have hch9:=Ch.of_grown (S:=fun k=>vo'.ownBlock=some k) hgr9 (fun k hk=>hk);have HY9:=hid (hch9.row HDA.out.row (fun hk=>Rw.offT HDA.out.an hk (.inr (.inl rfl))));have c49:=cell_of_row w9 Y 4 _ _ _ HY9.out;have f49:w9.frozen? ⟨Y,4,none⟩=false:=(by simp [World.frozen?,HY9.out]);simp only [List.getElem?_toArray,List.getElem?_cons_zero,List.getElem?_cons_succ] at c49;have HW9:=hid hw9;have HC9:=hid hch9;have HF9:=hid hfr9;clear tok1 hw9 hgr9 hfr9 hch9 hN9 _t)))
            have hE:Ch (At1 Y) w9 (w9.setCell ⟨Y,4,none⟩ (.slice A9 N9 c9)):=(Ch.refl _ _).set1 4 _
            have hcE:Ch (fun k=>k=Y∨vo'.ownBlock=some k) ((wz.setCell ⟨Y,5,none⟩ (.int .i64 ((SL:Int)+1))).alloc (.cells #[.slice Ar ra.length cr] 40)) (w9.setCell ⟨Y,4,none⟩ (.slice A9 N9 c9)):=((Ch.refl _ _).trans HC9.out (fun k _ hk=>.inr hk)).trans hE (fun k _ hk=>.inl hk)
            have hf9:∀ k,(Value.slice A9 N9 c9).ownBlock=some k→vo'.ownBlock=some k∨((wz.setCell ⟨Y,5,none⟩ (.int .i64 ((SL:Int)+1))).alloc (.cells #[.slice Ar ra.length cr] 40)).heap.size≤k:=fun k hk=>by
              rcases HF9.out with e|e
              · exact .inl (by rw [← e];exact hk)
              · rw [e] at hk;injection hk with hk;exact .inr (Nat.le_of_eq hk)
            have hdE:DI O (w9.setCell ⟨Y,4,none⟩ (.slice A9 N9 c9)) B G H Y r' Lf' vr' P' T' g' vh' most bl vb3 (q+1) (an++La'++[ra]) (.slice A9 N9 c9) (SL+1) kp':=HDA.out.newO hcE (heap_set_row HY9.out _) (HW9.out.ch hE (fun k _ hk=>.inr (.inl hk)) (fun _ _ h=>h)) hf9
            have hiE:ICh (DF17 G H Y vr vh vb3 vo) (DF17 G H Y vr' vh' vb3 (.slice A9 N9 c9)) W (w9.setCell ⟨Y,4,none⟩ (.slice A9 N9 c9)):=HIA.out.trans (.wide hcE (R':=fun k=>(Value.slice A9 N9 c9).ownBlock=some k) (fun k hk=>(hf9 k hk).imp .inr id) (fun k hk=>hk.elim (fun e=>.inr (.inr (.inl e))) (fun e=>.inr (.inr (.inr (.inr e))))) (fun k hk=>by
              rcases hk with hk|hk|hk|hk|hk
              · exact .inl (.inl hk)
              · exact .inl (.inr (.inl hk))
              · exact .inl (.inr (.inr (.inl hk)))
              · exact .inl (.inr (.inr (.inr (.inl hk))))
              · exact .inr hk))
            have hdn9:=hdE.done
            refine ⟨⟨k+1,d',fs',T',g',kp',La'++[ra],r',Lf',vr',P',vh',.slice A9 N9 c9,HK1.out,HR2.out,HS2.out,HOK2.out,HOPS2.out,HGB2.out,HTB2.out,HKB2.out,?_,HLB2.out,?_,hiE⟩,?_⟩
            · rw [List.length_append];have:=HLA.out;simp;omega
            · rw [← List.append_assoc,List.length_append,List.length_singleton,← Nat.add_assoc sn,← HSL.out,← Nat.add_assoc dn,← HQ.out]
              exact hdE
            · rw [hdn9,HDW.out];have:=HQ.out;have:=HK1.out;omega
      · obtain rfl:k=Ms.length:=by have:=HK.out;omega
        have e1:¬ (q:Int)<(NF:Int):=by have:=HFL.out;omega
        have HRF:Hid (R=⟨.inl 0,d',fs',T',g',kp',La'⟩):=hid (by
          have h:=HRR.out
          rw [List.drop_length] at h
          exact h)
        clear hlt HRR
        go_wp2_with (fail)
        refine region_plan S [] [0,1,2,3,4,5,6,7] (by kernel_rfl) (by kernel_rfl) (fun _ _ _ _ _ h=>h) ((HSD.out _).2 (Below.refl _ wo).drew) (fun hne=>?_)
        simp only [wpPlan,pick,List.getElem?_cons_zero,List.getElem?_cons_succ]
        repeat (go_big_quiet_step (fail))
        refine wpQuiet_nil ?_
        have HB0:Hid (Below wo.heap.size wo wo.drew):=hid (Below.refl _ wo).drew
        go_wp2_with (fail)
        go_ret
        rw [← HMS.out,← HRE.out,HRF.out]
        refine ⟨r',Lf',vr',P',vh',vb3,vo',dn+Ms.length,by simp,HS.out,?_,(fun _=>by rw [← HBL.out,← HFRE.out];have:=HFL.out;have:=HNF.out;omega),HICW.out.trans (HIC.out.trans (.of_below HB0.out))⟩
        rw [← HBL.out]
        exact HDI.out.below HB0.out
  have hbs3:Bs w3 A2 N2 c2' (bs++l):=by
    obtain ⟨A',c',e,hb,_⟩:=HI3.out.bs.bs
    injection e with e1 e2 e3
    subst e1 e3
    rw [e2]
    exact hb
  have hd3:Below w3.heap.size w3 w3.drew:=(Below.refl _ w3).drew
  clear s0 s1
  refine wpAnyH_ready (rs:=[8,9]) (by kernel_rfl) (by simp) (fun j hj=>?_)
  rcases List.mem_cons.1 hj with rfl|hj
  · refine wpOp_step rfl (fun K hK=>?_)
    go_simp
    refine (refRead05 most (by omega) A2 N2 c2' (bs++l) _ (hbs3.below hd3) (by have:=HN2.out;omega)).mono ?_
    rintro e w4 ⟨Af,cf,rfl,hrd,hb4,hrb⟩
    have hb4':Below w3.heap.size w3 w4:=hd3.trans hb4
    dsimp only
    refine hK _ _ ⟨HSW.out _ hb4',?_⟩
    refine wpAnyH_ready (rs:=[9]) (by kernel_rfl) (by simp) (fun j hj=>?_)
    obtain rfl:=List.mem_singleton.1 hj
    refine wpOp_step rfl (fun K2 hK2=>?_)
    go_simp
    refine hK2 _ _ ⟨HSW.out _ (hb4'.alloc hb4'.size _),?_⟩
    refine wpAnyH_ready (rs:=[10]) (by kernel_rfl) (by simp) (fun j hj=>?_)
    obtain rfl:=List.mem_singleton.1 hj
    refine wpOp_step rfl (fun K3 hK3=>?_)
    go_simp
    refine hK3 _ _ ⟨HSW.out _ (hb4'.alloc hb4'.size _),?_⟩
    refine wpAnyH_done (by kernel_rfl) ?_ 0
    exact key w4.heap.size Af cf _ _ _ _ _ _ _ _ _ _ _ _ _ _ _ _ _ _ _ _ _ (hb4'.alloc hb4'.size _) hb4'.size (heap_alloc_new w4 _) ((hrb.low (Nat.le_refl _)).chLow (Ch.of_below (S:=fun _=>False) ((Below.refl _ w4).alloc (Nat.le_refl _) _)) (fun _ h=>h.elim))
  · obtain rfl:j=9:=by simpa using hj
    refine wpOp_step rfl (fun K hK=>?_)
    go_simp
    obtain ⟨Z,hZ⟩:∃ Z,Z=Obj.cells #[Value.slice none 0 0,.int .i64 0,.int .i64 0,.int .i64 0,.int .i64 0] 106:=⟨_,rfl⟩
    rw [← hZ]
    have hba:Below w3.heap.size w3 (w3.alloc Z).drew:=((Below.refl _ w3).alloc (Nat.le_refl _) Z).drew
    have hTr:(w3.alloc Z).drew.heap[w3.heap.size]?=some Z:=heap_alloc_new w3 Z
    refine hK _ _ ⟨HSW.out _ hba,?_⟩
    refine wpAnyH_ready (rs:=[8]) (by kernel_rfl) (by simp) (fun j hj=>?_)
    obtain rfl:=List.mem_singleton.1 hj
    refine wpOp_step rfl (fun K2 hK2=>?_)
    generalize (w3.alloc Z).drew=w3a at *
    go_simp
    refine (refRead05 most (by omega) A2 N2 c2' (bs++l) _ (hbs3.below hba) (by have:=HN2.out;omega)).mono ?_
    rintro e w4 ⟨Af,cf,rfl,hrd,hb4,hrb⟩
    have hb4':Below w3.heap.size w3 w4:=hba.trans (hb4.mono hba.size)
    have hT4:w4.heap[w3.heap.size]?=some Z:=(hb4.block _ (Array.getElem?_eq_some_iff.1 hTr).1).trans hTr
    rw [hZ] at hT4
    dsimp only
    refine hK2 _ _ ⟨HSW.out _ hb4',?_⟩
    refine wpAnyH_ready (rs:=[10]) (by kernel_rfl) (by simp) (fun j hj=>?_)
    obtain rfl:=List.mem_singleton.1 hj
    refine wpOp_step rfl (fun K3 hK3=>?_)
    have k0:=cell_of_row w4 w3.heap.size 0 _ _ _ hT4
    have k1:=cell_of_row w4 w3.heap.size 1 _ _ _ hT4
    have k2:=cell_of_row w4 w3.heap.size 2 _ _ _ hT4
    have k3:=cell_of_row w4 w3.heap.size 3 _ _ _ hT4
    have k4:=cell_of_row w4 w3.heap.size 4 _ _ _ hT4
    have g0:w4.frozen? ⟨w3.heap.size,0,none⟩=false:=by simp [World.frozen?,hT4]
    have g1:w4.frozen? ⟨w3.heap.size,1,none⟩=false:=by simp [World.frozen?,hT4]
    have g2:w4.frozen? ⟨w3.heap.size,2,none⟩=false:=by simp [World.frozen?,hT4]
    have g3:w4.frozen? ⟨w3.heap.size,3,none⟩=false:=by simp [World.frozen?,hT4]
    have g4:w4.frozen? ⟨w3.heap.size,4,none⟩=false:=by simp [World.frozen?,hT4]
    simp only [List.getElem?_toArray,List.getElem?_cons_zero,List.getElem?_cons_succ] at k0 k1 k2 k3 k4
    go_simp
    have hch:Ch (At1 w3.heap.size) w4 (setFive05 w4 w3.heap.size (.slice Af (feedD most newS (bs++l)).2.length cf) (.int .i64 (heldD (feedD most newS (bs++l)).1)) (.int .i64 (feedD most newS (bs++l)).1.junk) (.int .i64 (feedD most newS (bs++l)).1.over) (.int .i64 (feedD most newS (bs++l)).1.broken)):=setFive05_ch (S:=At1 w3.heap.size) (Ch.refl _ _) rfl _ _ _ _ _
    have hb5:=hb4'.trans (hch.below (B:=w3.heap.size) (fun k hk=>Nat.le_of_eq (show k=w3.heap.size from hk).symm) hb4'.size)
    have hlt:w3.heap.size<w3a.heap.size:=(Array.getElem?_eq_some_iff.1 hTr).1
    have hrb5:=hrb.ch (T:=fun _=>False) hch (fun k hk hs=>by
      obtain ⟨cur,hc⟩:∃ cur,w4.heap[k]?=some (.cells cur 40 (0,0)):=by
        obtain ⟨vs,_,ho,_⟩:=hrb
        exact own_ty ho k hk
      rw [show k=w3.heap.size from hs,hT4] at hc
      injection hc with hc
      injection hc with _ hc
      exact absurd hc (by decide)) (fun k cur hc _ hs=>by
      rw [show k=w3.heap.size from hs,hT4] at hc
      injection hc with hc
      injection hc with _ hc
      exact absurd hc (by decide)) (fun _ _ h=>h.elim)
    refine hK3 _ _ ⟨HSW.out _ hb5,?_⟩
    refine wpAnyH_done (by kernel_rfl) ?_ 0
    exact key w3.heap.size Af cf _ _ _ _ _ _ _ _ _ _ _ _ _ _ _ _ _ _ _ _ _ hb5 (Nat.le_refl _) (setFive05_row hT4 _ _ _ _ _) (hrb5.low (Nat.le_of_lt hlt))
end
end
end Go.Proofs.YtodjilljcjkacaaGreatDoor
