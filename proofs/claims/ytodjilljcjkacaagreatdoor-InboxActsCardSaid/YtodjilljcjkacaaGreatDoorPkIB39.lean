/- Laid together: RI3, RI4, RI6, RI7, RI8, Open, OpenStruct, OpenIActs, RI5. -/
import Derived.Test.YtodjilljcjkacaaGreatDoorPkIB38
import Derived.ShutString
import Derived.ChangeOld
import Derived.SizedLaws
import Derived.Deep.DeepHandedRow
import Derived.OpenShut
import Derived.Deep.Slices
import Derived.Deep.Fields
import Derived.ChangeSame
import Derived.LoopTactic

namespace Go.Proofs.YtodjilljcjkacaaGreatDoor
open Lib (hid)
section
open Go.RowKit Go.MapKept
section
variable {O O' S:Nat→Prop} {w w':World} {B G H Y most g dn sn kp:Nat} {r:Rk} {Lf:Fs} {vr vh vb vo:Value} {P:List Value} {T an:List (List UInt8)} {bs:List UInt8}
set_option maxRecDepth 100000 in
set_option maxHeartbeats 4000000 in
theorem refTake17 (h:DI O w B G H Y r Lf vr P T g vh most bs vb dn an vo sn kp):Calls Tryz.prog 20 #[pY Y] w fun e w'=>e=.returned vo∧DI O w' B G H Y r Lf vr P T g vh most bs vb dn [] (.slice none 0 0) sn kp ∧
    Rw B (fun k=>O k∨RF G vr k∨RL H vh k∨YF Y vb (.slice none 0 0) k) w' vo an∧Ch (At1 Y) w w':=by
  have c:=h.cell 4
  have f:=h.frozen 4
  simp only [List.getElem?_toArray,List.getElem?_cons_zero,List.getElem?_cons_succ] at c
  have HI:=hid h
  clear h
  go_enter Tryz.func20,Tryz.ntmps20
  go_wp2_with (fail)
  go_ret
  have hc:Ch (At1 Y) w (w.setCell ⟨Y,4,none⟩ (.slice none 0 0)):=(Ch.refl _ _).set1 4 _
  refine ⟨rfl,HI.out.newO ((Ch.refl _ _).trans hc (fun k _ hk=>.inl hk)) (heap_set_row HI.out.row _) (Rw.nil _ _ _) (fun k hk=>by cases hk),HI.out.an.ch hc (fun k _ hk=>.inr (.inl hk)) (fun k _ hk=>?_),hc⟩
  rcases hk with hk|hk|hk|hk|hk|hk
  · exact .inl hk
  · exact .inr (.inr (.inr (.inl hk)))
  · exact .inr (.inr (.inr (.inr hk)))
  · exact .inr (.inl hk)
  · exact .inr (.inr (.inl hk))
  · cases hk
set_option maxRecDepth 100000 in
set_option maxHeartbeats 4000000 in
theorem refReset17 (h:DI O w B G H Y r Lf vr P T g vh most bs vb dn an vo sn kp):Calls Tryz.prog 22 #[pY Y] w fun e w'=>e=.returned (.tuple #[])∧DI O w' B G H Y r Lf vr P T g vh most [] (.slice none 0 0) 0 an vo sn kp∧Ch (At1 Y) w w':=by
  have c:=h.cell 2
  have f:=h.frozen 2
  have c3:=h.cell 3
  have f3:=h.frozen 3
  simp only [List.getElem?_toArray,List.getElem?_cons_zero,List.getElem?_cons_succ] at c c3
  have HI:=hid h
  clear h
  go_enter Tryz.func22,Tryz.ntmps22
  go_wp2_with (fail)
  have hc:Ch (At1 Y) w ((w.setCell ⟨Y,2,none⟩ (.slice none 0 0)).setCell ⟨Y,3,none⟩ (.int .i64 0)):=((Ch.refl _ _).set1 2 _).set1 3 _
  have hfin:DI O ((w.setCell ⟨Y,2,none⟩ (.slice none 0 0)).setCell ⟨Y,3,none⟩ (.int .i64 0)) B G H Y r Lf vr P T g vh most [] (.slice none 0 0) 0 an vo sn kp:=HI.out.newB hc (heap_set_row (heap_set_row HI.out.row _) _) (Own.nil _ _ _) (fun k hk=>by cases hk)
  go_end0
  exact ⟨rfl,hfin,hc⟩
set_option maxRecDepth 100000 in
set_option maxHeartbeats 4000000 in
theorem refHeld17 (h:DI O w B G H Y r Lf vr P T g vh most bs vb dn an vo sn kp) (hm:most≤65536) (hn:bs.length≤1000000):Calls Tryz.prog 32 #[pY Y] w fun e w'=>e=.returned (.int .i64 (heldD (feedD most newS bs).1:Int))∧Below w.heap.size w w':=by
  obtain ⟨A,c,rfl,hb,_⟩:=h.bs.bs
  obtain ⟨S,hSd⟩:∃ S:World→Prop,∀ W,S W ↔ Below w.heap.size w W:=⟨_,fun _=>Iff.rfl⟩
  have c2:=h.cell 2
  have c1:=h.cell 1
  have hl:=h.lt
  simp only [List.getElem?_toArray,List.getElem?_cons_zero,List.getElem?_cons_succ] at c2 c1
  obtain ⟨N,hN⟩:∃ N,N=bs.length:=⟨_,rfl⟩
  rw [← hN] at c2 hb
  have s0:∀ q:Meets S,q.u.cell? ⟨Y,2,none⟩=some (.slice A N c):=fun q=>(((hSd _).1 q.h).cell (p:=⟨Y,2,none⟩) hl).trans c2
  have s1:∀ q:Meets S,q.u.cell? ⟨Y,1,none⟩=some (.int .i64 (most:Int)):=fun q=>(((hSd _).1 q.h).cell (p:=⟨Y,1,none⟩) hl).trans c1
  have HSD:=hid hSd
  have HB:=hid hb
  have HN:Hid (N≤1000000):=hid (by omega)
  clear hSd h hb hN c1 c2 hl
  go_enter Tryz.func32,Tryz.ntmps32
  go_wp2_with (fail)
  refine region_plan S [([0,1,2,3,4,5,6,7],8)] [9,10] (by kernel_rfl) (by kernel_rfl) (fun _ _ _ _ _ h=>h) ((HSD.out _).2 (Below.refl _ w).drew) (fun hne=>?_)
  simp only [wpPlan,pick,List.getElem?_cons_zero,List.getElem?_cons_succ,Option.elim]
  repeat (go_big_quiet_step (fail))
  refine wpQuiet_nil ?_
  intro K hK
  go_simp
  refine (refRead05 most hm A N c bs _ (HB.out.below (Below.refl _ w).drew) (by have:=HN.out;omega)).mono ?_
  rintro e w1 ⟨Af,cf,rfl,_,hb1,_⟩
  have HB1:Hid (Below w.heap.size w w1):=hid ((Below.refl _ w).drew.trans hb1)
  dsimp only
  have hfd:∀ (u a b c d:Value) (W:World),(Instr.field 106 (.agg #[u,a,b,c,d]) 1).run Tryz.prog W=.ok a W:=fun u a b c d W=>by rfl
  refine hK.out _ _ ((HSD.out _).2 HB1.out) (fun _=>?_)
  clear hK K
  repeat (first | (refine ⟨_,fun _=>rfl,?_⟩) | go_big_quiet_step (fail) | (unfold wpQuiet;go_simp))
  go_wp2_with (fail)
  go_ret
  exact ⟨rfl,HB1.out⟩
end
end
section
open Go.RowKit Go.MapKept
theorem okFeed17:FnOkG 15:=fun args w=>Go.MuLone.run_callFunc_enter Tryz.func15 (by kernel_rfl) rfl args w
section
variable {Z:Nat→Prop} {w:World} {B D M L Q X g sn kp most:Nat} {O:Option Nat} {d:Dk} {F:List Ent} {T:List (List UInt8)} {v va:Value} {s:St} {an:List (List UInt8)}
set_option maxHeartbeats 2000000 in
set_option maxRecDepth 100000 in
theorem feedFn17 {R:InR} {s':St} {BX BA:Nat} {A:Option Addr} {n c:Nat} (hF:Calls Tryz.prog 16 #[pI X,.slice A n c] w (FPost Z B D M L Q X O F v most s' va an sn w R)) (hX:w.cell? ⟨BX,0,none⟩=some (pI X)) (hY:w.cell? ⟨BA,3,none⟩=some (.slice A n c)) :
    Calls Tryz.prog 15 #[.pointer (some ⟨BX,0,none⟩),.pointer (some ⟨BA,0,none⟩)] w (FPost Z B D M L Q X O F v most s' va an sn w R):=by
  have HA:=hid hF
  clear hF
  go_enter Tryz.func15,Tryz.ntmps15
  go_wp2_with (fail)
  refine HA.out.mono ?_
  intro e w2 hK
  obtain ⟨F',v',va',O',he,h2,h3,h4⟩:=hK
  have HP:Hid (∀ e,e=endF R.r→FPost Z B D M L Q X O F v most s' va an sn w R e w2):=hid (fun e he=>⟨F',v',va',O',he,h2,h3,h4⟩)
  clear h2 h3 h4 HA hX hY
  obtain ⟨r,d2,fs2,T2,g2,kp2,La2⟩:=R
  obtain x|op:=r
  · obtain rfl:e=.returned (.int .i64 0):=he
    go_wp2_with (fail)
    go_ret
    exact HP.out _ rfl
  · obtain rfl:e=.panicked [{ v:=crashI op,recovered:=false }]:=he
    exact ⟨rfl,HP.out _ rfl⟩
def endDo17:Int ⊕ Int→Ending
  | .inl _=>.returned (.tuple #[.int .i64 0,crash 0,.bool false])
  | .inr op=>.returned (.tuple #[.int .i64 0,crash op,.bool true])
def ED17 (E:Nat→Prop) (a b k:Nat):Prop:=E k∨(a≤k∧k<b)
def FDo (Z:Nat→Prop) (B D M L Q X:Nat) (O:Option Nat) (F:List Ent) (v:Value) (most:Nat) (s:St) (va:Value) (an:List (List UInt8)) (sn:Nat) (w:World) (R:InR) (e:Ending) (w':World):Prop :=
  ∃ F' v' va' O',e=endDo17 R.r∧fsOf F'=R.fs∧IB Z w' B D M L Q X O' R.d F' R.T R.g v' most s va' (an++R.La) (sn+R.La.length) R.kp∧ICh (FI L D M Q X O F v va) (FI L D M Q X O' F' v' va') w w'
theorem feedDo17 {R:InR} {s':St} {BX BA:Nat} {A:Option Addr} {n c:Nat} (h:IB Z w B D M L Q X O d F T g v most s va an sn kp)
    (hF:∀ w1,Below w.heap.size w w1→Calls Tryz.prog 16 #[pI X,.slice A n c] w1 (FPost (ED17 Z w.heap.size w1.heap.size) B D M L Q X O F v most s' va an sn w1 R)) (hX:w.cell? ⟨BX,0,none⟩=some (pI X)) (hY:w.cell? ⟨BA,3,none⟩=some (.slice A n c)) :
    Calls Tryz.prog 14 #[.func (.func 15) #[] #[.pointer (some ⟨BX,0,none⟩),.pointer (some ⟨BA,0,none⟩)]] w (FDo Z B D M L Q X O F v most s' va an sn w R):=by
  have hX':=World.block_lt_of_cell? w _ hX
  have hY':=World.block_lt_of_cell? w _ hY
  refine (guardDoS _ w (fun x w1 w'=>FPost (ED17 Z w.heap.size w1.heap.size) B D M L Q X O F v most s' va an sn w1 R (.returned (.int .i64 x)) w') (fun op w1 w'=>FPost (ED17 Z w.heap.size w1.heap.size) B D M L Q X O F v most s' va an sn w1 R (.panicked [{ v:=crashI op,recovered:=false }]) w') ?_).mono ?_
  · intro w1 hb1
    refine ⟨_,_,rfl,okFeed17,?_⟩
    refine (feedFn17 (hF w1 hb1) ((hb1.cell (p:=⟨BX,0,none⟩) hX').trans hX) ((hb1.cell (p:=⟨BA,3,none⟩) hY').trans hY)).mono ?_
    rintro e w2 hm
    have hm':=hm
    obtain ⟨F2,v2,va2,O2,he,f2,i2,c2⟩:=hm
    refine ⟨fun b hb hlt=>c2.ch.block b hlt (fun hf=>by have:=(h.foot_lt hf).2;omega),c2.ch.size,?_⟩
    obtain ⟨r,rest⟩:=R
    obtain x|op:=r
    · obtain rfl:e=.returned (.int .i64 0):=he
      exact .inl ⟨0,rfl,hm'⟩
    · obtain rfl:e=.panicked [{ v:=crashI op,recovered:=false }]:=he
      exact .inr ⟨op,rfl,hm'⟩
  · rintro e w'' ⟨w1,w',hb1,hz,hc,hcase⟩
    have hboth:∃ F' v' va' O',e=endDo17 R.r∧fsOf F'=R.fs∧IB (ED17 Z w.heap.size w1.heap.size) w' B D M L Q X O' R.d F' R.T R.g v' most s' va' (an++R.La) (sn+R.La.length) R.kp∧ICh (FI L D M Q X O F v va) (FI L D M Q X O' F' v' va') w1 w':=by
      obtain ⟨r,rest⟩:=R
      obtain x|op:=r
      · rcases hcase with ⟨y,rfl,F2,v2,va2,O2,he,h2⟩|⟨op,rfl,F2,v2,va2,O2,he,h2⟩
        · simp only [endF,Ending.returned.injEq,Value.int.injEq,true_and] at he
          exact ⟨F2,v2,va2,O2,by rw [he];rfl,h2⟩
        · simp [endF] at he
      · rcases hcase with ⟨y,rfl,F2,v2,va2,O2,he,h2⟩|⟨op,rfl,F2,v2,va2,O2,he,h2⟩
        · simp [endF] at he
        · simp [endF] at he
          exact ⟨F2,v2,va2,O2,by rw [he];rfl,h2⟩
    obtain ⟨F2,v2,va2,O2,he,f2,i2,c2⟩:=hboth
    have hfoot:∀ k,FI L D M Q X O2 F2 v2 va2 k→k<w.heap.size∨w1.heap.size≤k:=fun k hk=>by
      rcases c2.foot k hk with h5|h5
      · exact .inl (h.foot_lt h5).2
      · exact .inr h5
    refine ⟨F2,v2,va2,O2,he,f2,i2.beside hc (fun k _ hs=>.inr hs) (fun k hk=>⟨Nat.lt_of_lt_of_le (i2.zl k (.inl hk)).1 hc.size,.inl (.inl hk)⟩),⟨?_,fun k hk=>?_⟩⟩
    · exact ((Ch.of_below hb1).trans c2.ch (fun _ _ h=>h)).trans hc (fun k hk hs=>by omega)
    · rcases c2.foot k hk with h5|h5
      · exact .inl h5
      · exact .inr (Nat.le_trans hb1.size h5)
end
end
section
open Go.RowKit Go.MapKept
def St.plus (s z:St):St:={ s with junk:=z.junk+s.junk,over:=z.over+s.over,broken:=z.broken+s.broken }
theorem enter_plus (s z:St):enterS (s.plus z)=(enterS s).plus z:=rfl
theorem leave_plus (s z:St):leaveS (s.plus z)=(leaveS s).plus z:=rfl
theorem lay_plus (m:Nat) (s z:St) (bs:List UInt8):layS m (s.plus z) bs=(layS m s bs).plus z:=by
  unfold layS
  rw [show (s.plus z).fr=s.fr from rfl]
  by_cases h:m<s.fr.length+bs.length
  · rw [if_pos h,if_pos h]
    simp [St.plus,leaveS,Nat.add_assoc]
  · rw [if_neg h,if_neg h]
    rfl
theorem step_plus (m:Nat) (s z:St) (c:UInt8):stepD m (s.plus z) c=((stepD m s c).1.plus z,(stepD m s c).2):=by
  have e1:=lay_plus m s z
  have e2:=lay_plus m { s with md:=.inn } z
  unfold stepD
  rw [show (s.plus z).md=s.md from rfl]
  cases s.md <;> simp only
  · split
    · simp [enter_plus]
    · simp [St.plus,Nat.add_assoc]
  · split
    · simp [St.plus,enterS,Nat.add_assoc]
    · split
      · simp [St.plus]
      · simp [e1]
  · split
    · rfl
    · split
      · simp [St.plus,enterS,Nat.add_assoc]
      · split
        · simp [e1]
        · have:=e2 [28,c]
          simp only [St.plus] at this
          simp [St.plus,this]
theorem eat_plus (m:Nat) (s z:St) (X:List (List UInt8)) (c:UInt8):eatD m (s.plus z,X) c=((eatD m (s,X) c).1.plus z,(eatD m (s,X) c).2):=by
  simp only [eatD,step_plus]
  split
  · simp only [leave_plus];rfl
  · rfl
theorem foldl_plus (m:Nat) (z:St):∀ (l:List UInt8) (s:St) (X:List (List UInt8)),l.foldl (eatD m) (s.plus z,X)=((l.foldl (eatD m) (s,X)).1.plus z,(l.foldl (eatD m) (s,X)).2)
  | [],s,X=>rfl
  | c :: l,s,X=>by
    rw [List.foldl_cons,List.foldl_cons,eat_plus,foldl_plus m z l]
theorem held_plus (s z:St):heldD (s.plus z)=heldD s:=rfl
theorem feed_plus (m:Nat) (s z:St) (l:List UInt8):feedD m (s.plus z) l=((feedD m s l).1.plus z,(feedD m s l).2):=foldl_plus m z l s []
theorem leave_new (s z:St):leaveS (s.plus z)=newS.plus (s.plus z):=by simp [leaveS,newS,St.plus]
structure IXP (Zb:Nat→Prop) (W:World) (B D M L Q X:Nat) (O:Option Nat) (d:Dk) (F:List Ent) (T:List (List UInt8)) (g:Nat) (v:Value) (s:St) (va:Value) (an:List (List UInt8)) (sn kp C G H Y:Nat) (r:Rk) (Lf:Fs) (vr:Value) (P:List Value) (T2:List (List UInt8)) (g2:Nat) (vh:Value) (most:Nat) (bs:List UInt8) (vb:Value) (dn:Nat) (an2:List (List UInt8)) (vo:Value) (sn2 kp2:Nat):Prop where
  ib:IB (fun k=>Zb k∨DF17 G H Y vr vh vb vo k) W B D M L Q X O d F T g v most s va an sn kp
  di:DI (fun k=>Zb k∨FI L D M Q X O F v va k) W C G H Y r Lf vr P T2 g2 vh most bs vb dn an2 vo sn2 kp2
section
variable {Zb:Nat→Prop} {W W':World} {B D M L Q X C G H Y most g g2 g' g2' sn sn' kp kp' sn2 sn2' kp2 kp2' dn dn':Nat} {O O':Option Nat} {d d':Dk} {F F':List Ent} {T T' T2 T2':List (List UInt8)} {v v' va va':Value} {s s':St} {an an' an2 an2':List (List UInt8)} {r r':Rk} {Lf Lf':Fs} {vr vr' vh vh' vb vb' vo vo':Value} {P P':List Value} {bs bs':List UInt8}
theorem IXP.prog (h:IXP Zb W B D M L Q X O d F T g v s va an sn kp C G H Y r Lf vr P T2 g2 vh most bs vb dn an2 vo sn2 kp2) (ic:ICh (FI L D M Q X O F v va) (FI L D M Q X O' F' v' va') W W') (hi:IB (fun k=>Zb k∨DF17 G H Y vr vh vb vo k) W' B D M L Q X O' d' F' T' g' v' most s' va' an' sn' kp') :
    IXP Zb W' B D M L Q X O' d' F' T' g' v' s' va' an' sn' kp' C G H Y r Lf vr P T2 g2 vh most bs vb dn an2 vo sn2 kp2 :=
  ⟨hi,h.di.other ic.ch (fun k _ hk=>.inr hk) (fun k hk=>by
    rcases hk with hk|hk
    · exact ⟨Nat.lt_of_lt_of_le (h.di.od k (.inl hk)).1 ic.ch.size,.inl (.inl hk)⟩
    · exact ⟨(hi.foot_lt hk).2,(ic.foot k hk).imp .inr id⟩)⟩
theorem IXP.doc (h:IXP Zb W B D M L Q X O d F T g v s va an sn kp C G H Y r Lf vr P T2 g2 vh most bs vb dn an2 vo sn2 kp2) (ic:ICh (DF17 G H Y vr vh vb vo) (DF17 G H Y vr' vh' vb' vo') W W') (hd:DI (fun k=>Zb k∨FI L D M Q X O F v va k) W' C G H Y r' Lf' vr' P' T2' g2' vh' most bs' vb' dn' an2' vo' sn2' kp2') :
    IXP Zb W' B D M L Q X O d F T g v s va an sn kp C G H Y r' Lf' vr' P' T2' g2' vh' most bs' vb' dn' an2' vo' sn2' kp2' :=
  ⟨h.ib.beside ic.ch (fun k _ hk=>.inr hk) (fun k hk=>by
    rcases hk with hk|hk
    · exact ⟨Nat.lt_of_lt_of_le (h.ib.zl k (.inl hk)).1 ic.ch.size,.inl (.inl hk)⟩
    · exact ⟨(hd.foot_lt hk).2,(ic.foot k hk).imp .inr id⟩),hd⟩
theorem IXP.below (h:IXP Zb W B D M L Q X O d F T g v s va an sn kp C G H Y r Lf vr P T2 g2 vh most bs vb dn an2 vo sn2 kp2) (hb:Below W.heap.size W W'):IXP Zb W' B D M L Q X O d F T g v s va an sn kp C G H Y r Lf vr P T2 g2 vh most bs vb dn an2 vo sn2 kp2:=⟨h.ib.below hb,h.di.below hb⟩
structure IXB (W0:World) (N:Nat) (j:Int) (most:Nat) (C B:Nat) (W:World) (d:Dk) (F:List Ent) (T:List (List UInt8)) (g:Nat) (s:St) (an:List (List UInt8)) (sn kp:Nat) (r:Rk) (Lf:Fs) (bs:List UInt8) (dn:Nat):Prop where
  sim:Sim d (fsOf F) r Lf
  ok:FsOk d (fsOf F)
  ops:d.ops≤3*(N:Int)+j
  hg:g≤29008*N
  hT:T.length≤N
  hkp:kp≤N
  hsn:sn≤N
  han:an.length≤N
  hlf:Lf.length≤3*N+1
  hbs:bs.length≤N
  hst:∃ z,s=(feedD most newS bs).1.plus z
  hup:St.Up most N s
  hdn:dn=(feedD most newS bs).2.length
  low:Below W0.heap.size W0 W
  bw:B≤W.heap.size
  cw:C≤W.heap.size
  b0:W0.heap.size≤B
  c0:W0.heap.size≤C
theorem feedM_lenI:∀ (Ms:List (List UInt8)) (d:Dk) (fs:Fs) (T:List (List UInt8)) (g kp:Nat) (La:List (List UInt8)),(feedM d fs T g kp La Ms).fs.length≤fs.length+3*Ms.length
  | [],d,fs,T,g,kp,La=>by show fs.length≤_;omega
  | m :: r,d,fs,T,g,kp,La=>by
    have h1:=keepD_lenI d fs g m
    cases e:(keepD d fs g m).1 with
    | inr op =>
      have:feedM d fs T g kp La (m :: r)=⟨.inr op,(keepD d fs g m).2.1,(keepD d fs g m).2.2,T,g,kp,La⟩:=by
        unfold feedM
        rw [e]
      rw [this]
      show (keepD d fs g m).2.2.length≤_
      rw [List.length_cons]
      omega
    | inl x =>
      rw [feedM_step e]
      have:=feedM_lenI r (keepD d fs g m).2.1 (keepD d fs g m).2.2 (if x=0 then T++[m] else T) (if x=0 then g+(record m).length else g) (if x=0 then kp+1 else kp) (La++ansD m (.inl x))
      rw [List.length_cons]
      omega
end
end
section
open Go.RowKit Go.MapKept
section
variable {Zb:Nat→Prop} {W0 W W':World} {B D M L Q X C G H Y most g sn kp dn N:Nat} {j:Int} {O:Option Nat} {d:Dk} {F:List Ent} {T:List (List UInt8)} {v va:Value} {s:St} {an:List (List UInt8)} {r:Rk} {Lf:Fs} {vr vh vb vo:Value} {P:List Value} {bs:List UInt8}
set_option maxHeartbeats 1000000 in
theorem ixFeed1 (h:IXP Zb W B D M L Q X O d F T g v s va an sn kp C G H Y r Lf vr P T g vh most bs vb dn an vo sn kp) (hb:IXB W0 N j most C B W d F T g s an sn kp r Lf bs dn) (hm:most≤29000) (hj:0≤j∧j≤1000) (hG:∀ W,Below W0.heap.size W0 W→Vers W∧Signs W∧Cds W)
    (A:Option Addr) (n c:Nat) (y:List UInt8) (hl:Bs W A n c y) (hlow:0<n→∀ b,A=some b→b.block<W0.heap.size) (hN:N+n≤100000) (BX BA:Nat) (hX:W.cell? ⟨BX,0,none⟩=some (pI X)) (hA:W.cell? ⟨BA,3,none⟩=some (.slice A n c)) :
    Calls Tryz.prog 14 #[.func (.func 15) #[] #[.pointer (some ⟨BX,0,none⟩),.pointer (some ⟨BA,0,none⟩)]] W fun e W'=>∃ R,R=feedM d (fsOf F) T g kp [] (feedD most s y).2∧e=endDo17 R.r∧∃ F' v' va' O',fsOf F'=R.fs ∧
      IXP Zb W' B D M L Q X O' R.d F' R.T R.g v' (feedD most s y).1 va' (an++R.La) (sn+R.La.length) R.kp C G H Y r Lf vr P T g vh most bs vb dn an vo sn kp∧ICh (FI L D M Q X O F v va) (FI L D M Q X O' F' v' va') W W':=by
  have h1:=hb.ops
  have h2:=hb.hg
  have h3:=hb.hT
  have h4:=hb.hkp
  have h5:=hb.hsn
  have h6:=hb.han
  have hoff:0<n→∀ b,A=some b→¬ FI L D M Q X O F v va b.block:=fun h0 b hbb hk=>by
    have h7:=hlow h0 b hbb
    have h8:=(h.ib.foot_lt hk).1
    have h9:=hb.b0
    omega
  refine (feedDo17 (R:=feedM d (fsOf F) T g kp [] (feedD most s y).2) (s':=(feedD most s y).1) h.ib (fun w1 hb1=>mFeed (h.ib.addZ hb1 (fun k hk=>hk)) A n c N y (hl.below hb1) hoff hm hb.hup (by omega) (by omega) (fun W2 hb2=>hG W2 (hb.low.trans ((hb1.mono hb.low.size).trans (hb2.mono hb.b0)))) hb.ok (by omega) (by omega) (by omega) (by omega) (by omega) (by omega) (Nat.le_trans hb.bw hb1.size)) hX hA).mono ?_
  rintro e W2 ⟨F',v',va',O',he,hf,hi,hic⟩
  exact ⟨_,rfl,he,F',v',va',O',hf,h.prog hic hi,hic⟩
set_option maxHeartbeats 1000000 in
theorem ixFeed2 {R:InR} {F':List Ent} {v' va':Value} {O':Option Nat} {s':St} {an1:List (List UInt8)} {sn1 kp1:Nat} (h:IXP Zb W' B D M L Q X O' R.d F' R.T R.g v' s' va' an1 sn1 kp1 C G H Y r Lf vr P T g vh most bs vb dn an vo sn kp) (hb:IXB W0 N j most C B W d F T g s an sn kp r Lf bs dn) (hm:most≤29000) (hj:0≤j∧j≤1000) (hW:W.heap.size≤W'.heap.size)
    (A:Option Addr) (n c:Nat) (y:List UInt8) (hR:R=feedM d (fsOf F) T g kp [] (feedD most s y).2) (hl:Bs W' A n c y) (hlow:0<n→∀ b,A=some b→b.block<W0.heap.size) (hN:N+n≤3000) :
    Calls Tryz.prog 17 #[pY Y,.slice A n c] W' fun e W2=>e=.returned (.bool (decide (R.r≠.inl 0)))∧∃ r' Lf' vr' P' vh' vb' vo' dn',Sim R.d R.fs r' Lf' ∧
      IXP Zb W2 B D M L Q X O' R.d F' R.T R.g v' s' va' an1 sn1 kp1 C G H Y r' Lf' vr' P' R.T R.g vh' most (bs++y) vb' dn' (an++R.La) vo' (sn+R.La.length) R.kp∧(R.r=.inl 0→dn'=(feedD most newS (bs++y)).2.length)∧ICh (DF17 G H Y vr vh vb vo) (DF17 G H Y vr' vh' vb' vo') W' W2:=by
  have h1:=hb.ops
  have h2:=hb.hg
  have h3:=hb.hT
  have h4:=hb.hkp
  have h5:=hb.hsn
  have h6:=hb.han
  have h7:=hb.hbs
  have h8:=hb.hlf
  obtain ⟨z,hz⟩:=hb.hst
  have hR':R=feedM d (fsOf F) T g kp [] (feedD most (feedD most newS bs).1 y).2:=by rw [hR,hz,feed_plus]
  refine (refFeed17 h.di hb.sim hb.ok hm A n c y hl (fun h0 b hbb hk=>?_) (by omega) hb.hdn (by omega) (by omega) (by omega) (by omega) (by omega) (by omega) (by omega) (Nat.le_trans hb.cw hW)).mono ?_
  · have h9:=hlow h0 b hbb
    have h10:=(h.di.foot_lt hk).1
    have h11:=hb.c0
    omega
  · rintro e W2 ⟨r',Lf',vr',P',vh',vb',vo',dn',he,hs,hd,hdn,hic⟩
    rw [← hR'] at he hs hd hdn
    exact ⟨he,r',Lf',vr',P',vh',vb',vo',dn',hs,h.doc hic hd,hdn,hic⟩
set_option maxHeartbeats 1000000 in
theorem ixFed {R:InR} {F':List Ent} {r':Rk} {Lf':Fs} {W2:World} (hb:IXB W0 N j most C B W d F T g s an sn kp r Lf bs dn) (hm:most≤29000) (hj:j=0) (n:Nat) (y:List UInt8) (hy:y.length=n) (hN:N+n≤3000) (hR:R=feedM d (fsOf F) T g kp [] (feedD most s y).2) (hf:fsOf F'=R.fs) (hs:Sim R.d R.fs r' Lf') (dn':Nat) (hdn:dn'=(feedD most newS (bs++y)).2.length) (hlw:Below W0.heap.size W0 W2) (hW:W.heap.size≤W2.heap.size) :
    IXB W0 (N+n) j most C B W2 R.d F' R.T R.g (feedD most s y).1 (an++R.La) (sn+R.La.length) R.kp r' Lf' (bs++y) dn':=by
  have hlen:=feed_len most s y y.length (Nat.le_refl _)
  rw [List.take_length,hy] at hlen
  have hsh:=feed_short hb.hup y y.length (Nat.le_refl _)
  have hup:=feed_up hb.hup y y.length (Nat.le_refl _)
  rw [List.take_length] at hsh hup
  have h1:=hb.ops
  have h2:=hb.hg
  have h3:=hb.hT
  have h4:=hb.hkp
  have h5:=hb.hsn
  have h6:=hb.han
  have h7:=hb.hbs
  have h8:=hb.hlf
  obtain ⟨z,hz⟩:=hb.hst
  obtain ⟨⟨q1,q2,q3,q4,q5⟩,q6⟩:=feedM_b (feedD most s y).2 d (fsOf F) T g kp [] N ⟨hb.ok,by omega,h2,h3,h4⟩ (by omega) (fun x hx=>Nat.le_trans (hsh x hx) hm)
  have q7:=feedM_lenI (feedD most s y).2 d (fsOf F) T g kp []
  have h9:=hs.perm.length_eq
  have h10:=hb.sim.perm.length_eq
  rw [← hR] at q1 q2 q3 q4 q5 q6 q7
  rw [List.length_nil] at q6
  refine ⟨by rw [hf];exact hs,by rw [hf];exact q1,?_,?_,?_,?_,?_,?_,?_,?_,⟨z,by rw [hz,feed_plus,feedD_append]⟩,by rw [← hy];exact hup,hdn,hlw,Nat.le_trans hb.bw hW,Nat.le_trans hb.cw hW,hb.b0,hb.c0⟩
  · omega
  · omega
  · omega
  · omega
  · omega
  · rw [List.length_append];omega
  · omega
  · rw [List.length_append];omega
end
end
section
open Go.RowKit Go.MapKept
section
variable {Zb:Nat→Prop} {W W':World} {B D M L Q X C G H Y most g g2 sn kp sn2 kp2 dn:Nat} {O:Option Nat} {d d':Dk} {F:List Ent} {T T2:List (List UInt8)} {v va:Value} {s:St} {an an2:List (List UInt8)} {r r':Rk} {Lf:Fs} {vr vh vb vo:Value} {P:List Value} {bs:List UInt8}
theorem IXP.dnum (h:IXP Zb W B D M L Q X O d F T g v s va an sn kp C G H Y r Lf vr P T2 g2 vh most bs vb dn an2 vo sn2 kp2) (hd:DkAt W' B D M d' F) (c:Ch (At1 D) W W'):IXP Zb W' B D M L Q X O d' F T g v s va an sn kp C G H Y r Lf vr P T2 g2 vh most bs vb dn an2 vo sn2 kp2:=by
  have hc:DkCh D M F F W W':=⟨(Ch.refl _ _).trans c (fun k _ hk=>.inl hk),fun k hk=>.inl hk⟩
  exact h.prog (.of_wl (.of_dk hc)) (h.ib.log (.of_dk hc) hd (h.ib.lg.dkch hc))
theorem IXP.rnum (h:IXP Zb W B D M L Q X O d F T g v s va an sn kp C G H Y r Lf vr P T2 g2 vh most bs vb dn an2 vo sn2 kp2) (c:Ch (At1 G) W W') (hr:W'.heap[G]?=some (rkObj vr r')):IXP Zb W' B D M L Q X O d F T g v s va an sn kp C G H Y r' Lf vr P T2 g2 vh most bs vb dn an2 vo sn2 kp2:=by
  have hw:Ch (fun k=>RF G vr k∨RL H vh k) W W':=(Ch.refl _ _).trans c (fun k _ hk=>.inl (.inl hk))
  exact h.doc (.wide hw (R':=fun _=>False) (fun _ h=>h.elim) (fun k hk=>hk.elim .inl (fun e=>.inr (.inl e))) (fun k hk=>.inl hk)) (h.di.add (h.di.rk.nums c hr) (h.di.rl.ch c (fun k _ hk=>.inr (.inl hk)) (fun _ _ h=>h)) hw (fun k hk=>.inl hk))
end
end
section
open Go.RowKit Go.ChangeShapes Go.WideShapes
theorem own:ownKnob Tryz.prog.godebug=none:=by kernel_rfl
theorem laidOut:laidOutB Tryz.prog=true:=by kernel_rfl
theorem cellsByte:Tryz.prog.cellsOf 5=1:=by kernel_rfl
theorem bytesByte:Tryz.prog.bytesOf 5=1:=by kernel_rfl
theorem byte_back {x:Int} (h:(Lit.int .u8 x).wf=true):((UInt8.ofNat x.toNat).toNat:Int)=x:=by
  have hx:0≤x∧x≤255:=by simpa [Lit.wf,IntKind.min,IntKind.max,IntKind.signed,IntKind.bits] using h
  have:x.toNat<256:=by omega
  simp [Nat.mod_eq_of_lt this]
  omega
theorem open_bytes {H:Type} {enc:TypeId × Value→H} {W:World} {A:Option Addr} {len cap:Nat} {d:DataW H} {p:List MemPlace} {ts:List TypeId} {ds:List (DataW H)}
    (h:DataW.Trod enc Tryz.prog W 0 (fun _=>true) true 40 (.slice A len cap) d p) (j:Nat) (ht:ts[j]?=some 40) (hd:ds[j]?=some d)
    (hs:(DataW.weightsEach Tryz.prog ts ds).all (·≤reachBytes)=true):∃ l,Bs W A len cap l∧cap≤140737488351232:=by
  obtain ⟨fuel,hf⟩:=h
  rcases open_ints Tryz.underlying40 Tryz.underlying5 cellsByte hf with ⟨hcs,_⟩|⟨x,l,c,zs,hcs,_,hl,hm,hz,hx,hcell,hwz⟩
  · simp [Value.cells] at hcs
    obtain ⟨rfl,rfl,rfl⟩:=hcs
    exact ⟨[],Bs.none_ W,by omega⟩
  · simp [Value.cells] at hcs
    obtain ⟨rfl,rfl,rfl⟩:=hcs
    simp only [if_true] at hz
    simp only [Prod.mk.injEq] at hx
    obtain ⟨rfl,_⟩:=hx
    have hr:=sized_slice hs ht hd Tryz.underlying40
    rw [bytesByte] at hr
    simp only [lits,List.length_map,List.length_take,List.length_drop,reachBytes] at hr
    refine ⟨(zs.take len).map fun z=>UInt8.ofNat z.toNat,⟨by rw [List.length_map,List.length_take];omega,hl,hm,fun hn=>?_⟩,by omega⟩
    have h0:=hcell 0 (by omega)
    obtain ⟨b,off,spot⟩:=x
    have hspot:spot=none:=by simpa [Addr.add] using World.cell?_spot h0
    subst hspot
    refine ⟨b,off,rfl,fun i y hy=>?_⟩
    rw [List.getElem?_map,List.getElem?_take] at hy
    split at hy
    · rename_i hi
      have hiz:i<zs.length:=by omega
      rw [List.getElem?_eq_getElem hiz] at hy
      simp only [Option.map_some,Option.some.injEq] at hy
      subst hy
      have hc:=hcell i hiz
      rw [Addr.add_lit] at hc
      rw [hc]
      simp only [List.getD,List.getElem?_eq_getElem hiz,Option.getD_some]
      show _=some (Value.int IntKind.u8 _)
      rw [byte_back (hwz _ (List.getElem_mem hiz))]
    · cases hy
end
section
open Go.RowKit Go.ChangeShapes Go.WideShapes Go.Deep
def Light {H:Type} (P:Program) (t:TypeId) (d:DataW H):Prop:=∀ n ∈ d.weights P t,n≤reachBytes
theorem light_arg {H:Type} {P:Program} {ts:List TypeId} {ds:List (DataW H)} {j:Nat} {t:TypeId} {d:DataW H} (hs:(DataW.weightsEach P ts ds).all (·≤reachBytes)=true) (ht:ts[j]?=some t) (hd:ds[j]?=some d):Light P t d:=fun n hn=>by
  have:=List.all_eq_true.1 hs _ (DataW.weights_mem_each ht hd n hn)
  simpa using this
theorem Light.each {H:Type} {P:Program} {t:TypeId} {d:DataW H} (h:Light P t d):(DataW.weightsEach P [t] [d]).all (·≤reachBytes)=true:=by
  rw [List.all_eq_true]
  intro n hn
  simp only [DataW.weightsEach,List.append_nil] at hn
  simpa using h n hn
theorem weightsAll_mem {H:Type} {P:Program} {e:TypeId} {y:Nat}:∀ {ds:List (DataW H)} {d:DataW H},d ∈ ds→y ∈ d.weights P e→y ∈ DataW.weightsAll P e ds
  | [],_,h,_=>by cases h
  | d0 :: r,d,h,hy=>by
    simp only [DataW.weightsAll,List.mem_append]
    rcases List.mem_cons.1 h with rfl|h
    · exact .inl hy
    · exact .inr (weightsAll_mem h hy)
section
variable {H:Type} {enc:TypeId × Value→H} {P:Program} {W:World} {base:Nat} {spare:Nat→Bool} {held:Bool}
theorem open_structs {t e:TypeId} {fs:Array Field} {A:Option Addr} {len cap:Nat} {d:DataW H} {p:List MemPlace} (ht:P.underlying t=some (.slice e)) (he:P.underlying e=some (.struct fs))
    (hone:oneCellFields P fs=true) (hC:P.cellsOf e=fs.size) (h:DataW.Trod enc P W base spare held t (.slice A len cap) d p) (hw:Light P t d) (hpos:0<fs.size) :
    len≤cap∧cap≤maxLen∧len*P.bytesOf e≤reachBytes∧(0<len→∃ b o,A=some ⟨b,o,none⟩∧∀ i,i<len→∀ (j:Nat) (f:Field),fs[j]?=some f →
      ∃ (v:Value) (y:DataW H) (pl:List MemPlace) (n:Nat),W.cell? ⟨b,o+(i*fs.size+j),none⟩=some v∧DataW.trod enc P W base spare held n f.type [v]=some (y,pl)∧Light P f.type y):=by
  obtain ⟨fuel,hf⟩:=h
  rcases open_slice ht hf with ⟨hcs,hx⟩|⟨a,l,c,m,n,D,Pl,hcs,_,hl,hm,hmm,hx,hi⟩
  · simp [Value.cells] at hcs
    obtain ⟨rfl,rfl,rfl⟩:=hcs
    exact ⟨Nat.le_refl _,by simp [maxLen],by omega,fun h0=>by omega⟩
  · simp [Value.cells] at hcs
    obtain ⟨rfl,rfl,rfl⟩:=hcs
    simp only [Prod.mk.injEq] at hx
    obtain ⟨rfl,_⟩:=hx
    have hlm:len≤m:=by rw [hmm];split <;> omega
    have hreach:len*P.bytesOf e≤reachBytes:=by
      have h1:=hw (((List.range len).map D).length*P.bytesOf e+((List.range (m-len)).map fun j=>D (len+j)).length*P.bytesOf e) (by
        simp only [DataW.weights,ht,List.mem_cons]
        exact .inl (by rw [Nat.add_mul]))
      simp only [List.length_map,List.length_range] at h1
      omega
    refine ⟨hl,hm,hreach,fun h0=>?_⟩
    have cellAt:∀ i,i<len→∀ (j:Nat) (f:Field),fs[j]?=some f→∃ (v:Value) (y:DataW H) (pl:List MemPlace) (n:Nat),W.cell? (a.add (i*fs.size+j))=some v∧DataW.trod enc P W base spare held n f.type [v]=some (y,pl)∧Light P f.type y:=by
      intro i hil j f hj
      obtain ⟨cs',hc,ht'⟩:=hi i (by omega)
      rw [hC] at hc
      obtain ⟨ys,n',_,hy,hlen,hyl,hg⟩:=DataW.trod_struct he ht'
      obtain ⟨_,hcl,hat⟩:=World.cells?_some hc
      simp only [Prod.mk.injEq] at hy
      obtain ⟨ho,hk⟩:=hone_of hone j f hj
      have hjl:j<fs.size:=(Array.getElem?_eq_some_iff.1 hj).1
      have hlt:j<cs'.length:=by omega
      have h1:=hg j f hj
      rw [ho,hk,take1_drop cs' j undef hlt] at h1
      have hys:ys[j]?=some (ys[j]'(by omega)):=List.getElem?_eq_getElem (by omega)
      rw [hys] at h1
      refine ⟨cs'.getD j undef,(ys[j]'(by omega)).1,(ys[j]'(by omega)).2,n',?_,h1,fun y hyw=>hw y ?_⟩
      · have h2:=hat j hjl
        rw [← Go.Deep.add_add,h2,List.getD_eq_getElem?_getD,List.getElem?_eq_getElem hlt,Option.getD_some]
      · simp only [DataW.weights,ht,List.mem_cons,List.mem_append]
        refine .inr (.inl (weightsAll_mem (List.mem_map.2 ⟨i,List.mem_range.2 hil,rfl⟩) ?_))
        rw [hy.1]
        simp only [DataW.weights,he]
        refine DataW.weights_mem_each (j:=j) (t:=f.type) (d:=(ys[j]'(by omega)).1) ?_ ?_ y hyw
        · rw [List.getElem?_map,Array.getElem?_toList,hj];rfl
        · rw [List.getElem?_map,hys];rfl
    have hspot:∃ b o,a=⟨b,o,none⟩:=by
      obtain ⟨b,o,s⟩:=a
      obtain ⟨f0,hf0⟩:∃ f0,fs[0]?=some f0:=⟨fs[0],Array.getElem?_eq_getElem hpos⟩
      obtain ⟨v,_,_,_,hc,_⟩:=cellAt 0 h0 0 f0 hf0
      have:s=none:=by simpa [Addr.add] using World.cell?_spot hc
      subst this
      exact ⟨b,o,rfl⟩
    obtain ⟨b,o,rfl⟩:=hspot
    refine ⟨b,o,rfl,fun i hil j f hj=>?_⟩
    obtain ⟨v,y,pl,n,h1,h2,h3⟩:=cellAt i hil j f hj
    rw [Addr.add_lit] at h1
    exact ⟨v,y,pl,n,h1,h2,h3⟩
end
theorem field_bytes {H:Type} {enc:TypeId × Value→H} {W:World} {v:Value} {y:DataW H} {pl:List MemPlace} {n:Nat} (h:DataW.trod enc Tryz.prog W 0 (fun _=>true) true n 40 [v]=some (y,pl)) (hw:Light Tryz.prog 40 y) :
    ∃ A m c l,v=.slice A m c∧Bs W A m c l∧c≤140737488351232:=by
  obtain ⟨A,m,c,rfl⟩:∃ A m c,v=.slice A m c:=by
    rcases DataW.trod_slice Tryz.underlying40 h with ⟨hcs,_⟩|⟨a,len,cap,_,_,_,_,hcs,_⟩
    · exact ⟨_,_,_,List.head_eq_of_cons_eq hcs⟩
    · exact ⟨_,_,_,List.head_eq_of_cons_eq hcs⟩
  obtain ⟨l,h1,h2⟩:=open_bytes (ts:=[40]) (ds:=[y]) (W:=W) (A:=A) (len:=m) (cap:=c) (p:=pl) ⟨n,h⟩ 0 rfl rfl hw.each
  exact ⟨A,m,c,l,rfl,h1,h2⟩
theorem field_int {H:Type} {enc:TypeId × Value→H} {W:World} {v:Value} {y:DataW H} {pl:List MemPlace} {n:Nat} (h:DataW.trod enc Tryz.prog W 0 (fun _=>true) true n 3 [v]=some (y,pl)) :
    ∃ x:Int,v=.int .i64 x∧(Lit.int .i64 x).wf=true:=by
  obtain ⟨x,hcs,_,hwf⟩:=DataW.trod_int Tryz.underlying3 h
  exact ⟨x,List.head_eq_of_cons_eq hcs,hwf⟩
end
section
open Go.RowKit Go.ChangeShapes Go.WideShapes Go.Deep
structure IAct where
  kd:Int
  n:Int
  k:Int
  l:List UInt8
def IActAt (w:World) (b o i:Nat) (x:IAct):Prop :=
  w.cell? ⟨b,o+i*4,none⟩=some (.int .i64 x.kd)∧w.cell? ⟨b,o+i*4+1,none⟩=some (.int .i64 x.n)∧w.cell? ⟨b,o+i*4+2,none⟩=some (.int .i64 x.k) ∧
  ∃ A m c,w.cell? ⟨b,o+i*4+3,none⟩=some (.slice A m c)∧Bs w A m c x.l∧c≤140737488351232
structure IAct.Fits (x:IAct):Prop where
  kd:-9223372036854775808≤x.kd∧x.kd≤9223372036854775807
  n:-9223372036854775808≤x.n∧x.n≤9223372036854775807
  k:-9223372036854775808≤x.k∧x.k≤9223372036854775807
def IAs (w:World) (A:Option Addr) (n c:Nat) (L:List IAct):Prop :=
  L.length=n∧n≤c∧c≤maxLen∧n≤140737488351232∧(0<n→∃ b o,A=some ⟨b,o,none⟩∧∀ i x,L[i]?=some x→IActAt w b o i x∧x.Fits)
theorem IAs.below {w w':World} {A:Option Addr} {n c:Nat} {L:List IAct} (h:IAs w A n c L) (hb:Below w.heap.size w w'):IAs w' A n c L :=
  ⟨h.1,h.2.1,h.2.2.1,h.2.2.2.1,fun hn=>by
    obtain ⟨b,o,e,hc⟩:=h.2.2.2.2 hn
    refine ⟨b,o,e,fun i x hx=>?_⟩
    obtain ⟨⟨c0,c1,c2,A5,m,c',c5,hB,hc'⟩,hf⟩:=hc i x hx
    have hl:=World.block_lt_of_cell? w _ c0
    exact ⟨⟨(hb.cell (p:=⟨b,o+i*4,none⟩) hl).trans c0,(hb.cell (p:=⟨b,o+i*4+1,none⟩) hl).trans c1,(hb.cell (p:=⟨b,o+i*4+2,none⟩) hl).trans c2,A5,m,c',(hb.cell (p:=⟨b,o+i*4+3,none⟩) hl).trans c5,hB.below hb,hc'⟩,hf⟩⟩
theorem i64_wfI {x:Int} (h:(Lit.int .i64 x).wf=true):-9223372036854775808≤x∧x≤9223372036854775807:=by
  simpa [Lit.wf,IntKind.min,IntKind.max,IntKind.signed,IntKind.bits] using h
theorem cellsIAct:Tryz.prog.cellsOf 45=4:=by kernel_rfl
theorem bytesIAct:1≤Tryz.prog.bytesOf 45:=by decide +kernel
open Classical in
theorem open_iacts {H:Type} {enc:TypeId × Value→H} {W:World} {A:Option Addr} {len cap:Nat} {d:DataW H} {p:List MemPlace} {ts:List TypeId} {ds:List (DataW H)}
    (h:DataW.Trod enc Tryz.prog W 0 (fun _=>true) true 23 (.slice A len cap) d p) (j:Nat) (ht:ts[j]?=some 23) (hd:ds[j]?=some d)
    (hs:(DataW.weightsEach Tryz.prog ts ds).all (·≤reachBytes)=true):∃ L,IAs W A len cap L:=by
  obtain ⟨h1,h2,h3,h4⟩:=open_structs Tryz.underlying23 Tryz.underlying45 (by kernel_rfl) cellsIAct h (light_arg hs ht hd) (by decide)
  have hb:=bytesIAct
  have hlen:len≤140737488351232:=by
    have:=Nat.mul_le_mul_left len hb
    simp only [reachBytes] at h3
    omega
  rcases Nat.eq_zero_or_pos len with h0|h0
  · exact ⟨[],by simp [h0],h1,h2,hlen,fun h=>absurd h (by omega)⟩
  · obtain ⟨b,o,rfl,hc⟩:=h4 h0
    have key:∀ i,∃ x:IAct,i<len→IActAt W b o i x∧x.Fits:=by
      intro i
      by_cases hi:i<len
      · obtain ⟨v0,y0,p0,n0,c0,t0,l0⟩:=hc i hi 0 _ rfl
        obtain ⟨v1,y1,p1,n1,c1,t1,l1⟩:=hc i hi 1 _ rfl
        obtain ⟨v2,y2,p2,n2,c2,t2,l2⟩:=hc i hi 2 _ rfl
        obtain ⟨v5,y5,p5,n5,c5,t5,l5⟩:=hc i hi 3 _ rfl
        obtain ⟨x0,rfl,w0⟩:=field_int t0
        obtain ⟨x1,rfl,w1⟩:=field_int t1
        obtain ⟨x2,rfl,w2⟩:=field_int t2
        obtain ⟨A5,m5,k5,l,rfl,w5,w6⟩:=field_bytes t5 l5
        refine ⟨⟨x0,x1,x2,l⟩,fun _=>⟨⟨?_,?_,?_,A5,m5,k5,?_,w5,w6⟩,⟨i64_wfI w0,i64_wfI w1,i64_wfI w2⟩⟩⟩
        · exact c0
        · exact c1
        · exact c2
        · exact c5
      · exact ⟨⟨0,0,0,[]⟩,fun h=>absurd h hi⟩
    refine ⟨(List.range len).map fun i=>Classical.choose (key i),by simp,h1,h2,hlen,fun _=>⟨b,o,rfl,fun i x hx=>?_⟩⟩
    rw [List.getElem?_map] at hx
    have hi:i<len:=by
      rcases Nat.lt_or_ge i len with h|h
      · exact h
      · rw [List.getElem?_eq_none (by simpa using h)] at hx;cases hx
    rw [List.getElem?_range hi] at hx
    simp only [Option.map_some,Option.some.injEq] at hx
    subst hx
    exact Classical.choose_spec (key i) hi
end
section
open Go.RowKit Go.MapKept
abbrev TAct17:TypeId:=45
abbrev actC17 (kd n k:Int) (A:Option Addr) (m c:Nat):Array Value:=#[.int .i64 kd,.int .i64 n,.int .i64 k,.slice A m c]
def lensI (L:List IAct):Nat:=(L.map (fun x=>x.l.length)).sum
def SomeI (n:Nat) (L:List IAct) (w:World) (e:Ending) (w':World):Prop:=∃ b:Bool,e=.returned (.bool b)∧(b=false→n≤60∧lensI L≤2500)∧Below w.heap.size w w'
theorem lensI_take (L:List IAct) (k:Nat) (x:IAct) (h:L[k]?=some x):lensI (L.take (k+1))=lensI (L.take k)+x.l.length:=by
  obtain ⟨hk,rfl⟩:=List.getElem?_eq_some_iff.1 h
  unfold lensI
  rw [List.take_succ_eq_append_getElem hk,List.map_append,List.sum_append]
  simp
set_option maxHeartbeats 4000000 in
set_option maxRecDepth 100000 in
theorem great17 (A:Option Addr) (n c:Nat) (L:List IAct) (w:World) (hL:IAs w A n c L):Calls Tryz.prog 9 #[.slice A n c] w (SomeI n L w):=by
  have HL:=hid hL
  have hn:n≤140737488351232:=hL.2.2.2.1
  clear hL
  go_enter Tryz.func9,Tryz.ntmps9
  go_wp2_with (fail)
  go_loopw [8,3,5,9,10,11,12,13,14,15,16,17] (fun i s _ _ _ _ _ _ _ _ _ _ wr=>∃ (k:Nat) (z:Int),k≤n∧i=.int .i64 k∧s=.int .i64 z∧(n≤60→z=(lensI (L.take k):Int)∧lensI (L.take k)≤k*140737488351232)∧Below w.heap.size w wr) (fun i _ _ _ _ _ _ _ _ _ _ _ _=>n-(intOf i).toNat)
  case atStart=>exact ⟨0,0,by omega,rfl,rfl,fun _=>⟨by simp [lensI],by simp [lensI]⟩,Below.refl _ _⟩
  case round =>
    obtain ⟨wo,rfl⟩:∃ wo:World,wo=wr:=⟨_,rfl⟩
    obtain ⟨k,z,hk,rfl,rfl,hz,hb⟩:=hrel
    have HB:=hid hb
    have HZ:=hid hz
    clear hb hz
    by_cases hlt:k<n
    · obtain ⟨b,o,rfl,hx⟩:=(HL.out.below HB.out).2.2.2.2 (by omega)
      obtain ⟨x,hxk⟩:∃ x,L[k]?=some x:=⟨_,List.getElem?_eq_getElem (by have:=HL.out.1;omega)⟩
      obtain ⟨⟨c0,c1,c2,A5,m,c',c5,hB5,hc'⟩,hf⟩:=hx k x hxk
      have hm5:=hB5.le
      have hml:=hB5.len
      have HB2:Hid (∀ o,Below w.heap.size w (wo.alloc o)):=hid (fun o=>HB.out.alloc HB.out.size o)
      have HTK:=hid (lensI_take L k x hxk)
      have HMC:Hid (m≤140737488351232∧x.l.length=m):=hid ⟨by omega,hml⟩
      clear hx hB5 hf hxk hml
      go_wp2_with (fail)
      refine ⟨⟨k+1,_,by omega,by go_num,rfl,fun h60=>?_,HB2.out _⟩,by simp [intOf];omega⟩
      obtain ⟨h1,h2⟩:=HZ.out h60
      have h3:=HTK.out
      have h4:=HMC.out
      have h5:k*140737488351232≤60*140737488351232:=Nat.mul_le_mul_right _ (by omega)
      rw [h3,h4.2]
      refine ⟨?_,?_⟩
      · rw [h1]
        first
          | (rw [IntKind.wrap_i64];omega)
          | (simp only [wrap64];omega)
      · rw [Nat.add_mul];omega
    · obtain rfl:k=n:=by omega
      by_cases h2:(60:Int)<(k:Int)
      · go_wp2_with (fail)
        go_ret
        exact ⟨_,rfl,fun h=>by simp at h,HB.out⟩
      · have hzz:=HZ.out (by omega)
        rw [List.take_of_length_le (by have:=HL.out.1;omega)] at hzz
        by_cases h5:(2500:Int)<z
        · go_wp2_with (fail)
          go_ret
          exact ⟨_,rfl,fun h=>by (try simp at h);omega,HB.out⟩
        · have hfin:k≤60∧lensI L≤2500:=by omega
          have HF:=hid hfin
          clear hfin hzz
          go_wp2_with (fail)
          go_ret
          exact ⟨_,rfl,fun _=>HF.out,HB.out⟩
end
end Go.Proofs.YtodjilljcjkacaaGreatDoor
