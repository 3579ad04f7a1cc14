/- Laid together: RI8b, RI8c, RI8d, RI8e. -/
import Derived.Test.YtodjilljcjkacaaGreatDoorPkIB39

namespace Go.Proofs.YtodjilljcjkacaaGreatDoor
open Lib (hid)
section
open Go.RowKit Go.MapKept
theorem lensI_take_le (L:List IAct) (k:Nat):lensI (L.take k)≤lensI L:=by
  conv=>rhs;rw [← List.take_append_drop k L]
  unfold lensI
  rw [List.map_append,List.sum_append]
  exact Nat.le_add_right _ _
section
variable {W W5 W1:World} {B D M L Q X BX m:Nat} {v:Value} {rr:Int} {e:Ending}
abbrev rk0 (rr:Int):Obj:=.cells #[.slice none 0 0,.int .i64 rr,.int .i64 0,.int .i64 0,.int .i64 0,.int .i64 0] TRD
abbrev nilV:Value:=.slice none 0 0
theorem ixOpen (hr:0≤rr∧rr≤1073741824) (h:IB (fun k=>k=BX) W B D M L Q X none ⟨rr,0,0,0,0,0⟩ [] [] 0 v m newS nilV [] 0 0) :
    Calls Tryz.prog 13 #[pR W.heap.size,.string nmI] (W.alloc (rk0 rr)) (ROpen (fun k=>k=BX∨FI L D M Q X none [] v nilV k) (W.alloc (rk0 rr)) W.heap.size W.heap.size nmI nilV ([],0,0) (.inl 0,⟨rr,0,0,0,0,0⟩,[])):=by
  have hb:Below W.heap.size W (W.alloc (rk0 rr)):=(Below.refl _ _).alloc (Nat.le_refl _) _
  have hw:=openD_whole (⟨rr,0,0,0,0,0⟩:Dk) (newW_plain rr nmI).hw
  have hk:=refOpen14 (O:=fun k=>k=BX∨FI L D M Q X none [] v nilV k) (fs:=fsOf []) (d:=⟨rr,0,0,0,0,0⟩) (nm:=nmI) (RkAt.fresh (C:=W.heap.size) W rr (Nat.le_refl _)) ⟨rfl,rfl,rfl,rfl,rfl,List.Perm.refl _,List.Pairwise.nil⟩ (newW_ok rr hr) (by show (0:Int)+8≤_;decide) (by decide) (fun k hk=>?_) hb.size (by decide) (by decide) (by decide) (by rw [hw.1])
  · rw [hw.1] at hk
    exact hk
  · rcases hk with rfl|hk
    · exact Nat.lt_of_lt_of_le (h.zl _ rfl).1 hb.size
    · exact Nat.lt_of_lt_of_le (h.foot_lt hk).2 hb.size
theorem ixBegin (h:IB (fun k=>k=BX) W B D M L Q X none ⟨rr,0,0,0,0,0⟩ [] [] 0 v m newS nilV [] 0 0) (hr:0≤rr∧rr≤1073741824) (hB:W1.heap.size≤B) (hB2:B≤W.heap.size) (hw:Below W1.heap.size W1 W)
    (ho:ROpen (fun k=>k=BX∨FI L D M Q X none [] v nilV k) (W.alloc (rk0 rr)) W.heap.size W.heap.size nmI nilV ([],0,0) (.inl 0,⟨rr,0,0,0,0,0⟩,[]) e W5) :
    ∃ H r Lf vr P vh,e=.returned (.tuple #[pH H,.int .i64 0,.bool false])∧W5.heap[BX]?=W.heap[BX]?∧Below W1.heap.size W1 W5 ∧
      IXP (fun k=>k=BX) (W5.alloc (.cells (yCells H m nilV 0 nilV 0 0) TY17)) B D M L Q X none ⟨rr,0,0,0,0,0⟩ [] [] 0 v newS nilV [] 0 0 W.heap.size W.heap.size H W5.heap.size r Lf vr P [] 0 vh m [] nilV 0 [] nilV 0 0 ∧
      IXB W1 0 0 m W.heap.size B (W5.alloc (.cells (yCells H m nilV 0 nilV 0 0) TY17)) ⟨rr,0,0,0,0,0⟩ [] [] 0 newS [] 0 0 r Lf [] 0:=by
  obtain ⟨H,r,Lf,vr,P,vh,rfl,hs,hrk,hrl,hc,hown,hH,hvh⟩:=ho
  have hbx:=(h.zl _ rfl).1
  have hb4:Below W.heap.size W (W.alloc (rk0 rr)):=(Below.refl _ _).alloc (Nat.le_refl _) _
  have hs4:(W.alloc (rk0 rr)).heap.size=W.heap.size+1:=by simp
  have hb6:Below W5.heap.size W5 (W5.alloc (.cells (yCells H m nilV 0 nilV 0 0) TY17)):=(Below.refl _ _).alloc (Nat.le_refl _) _
  have hs6:(W5.alloc (.cells (yCells H m nilV 0 nilV 0 0) TY17)).heap.size=W5.heap.size+1:=by simp
  have h45:=hc.size
  have hrfn:∀ k,RF W.heap.size nilV k→k=W.heap.size:=fun k hk=>by
    rcases hk with rfl|hk
    · rfl
    · cases hk
  have hc4:Below W.heap.size W W5:=hb4.trans (hc.below (fun k hk=>by rw [hrfn k hk];exact Nat.le_refl _) hb4.size)
  have hlow:Below W1.heap.size W1 W5:=hw.trans (hc4.mono hw.size)
  have hfi:∀ {k},FI L D M Q X none [] v nilV k→k<W.heap.size:=fun {k} hk=>(h.foot_lt hk).2
  have hrk6:=(hrk.wider (E':=fun k=>((k=BX∨FI L D M Q X none [] v nilV k)∨YF W5.heap.size nilV nilV k)∨RL H vh k) (fun k hk=>by
    rcases hk with (hk|hk|hk|hk)|hk
    · exact .inl (.inl hk)
    · exact .inr (by rw [show k=W5.heap.size from hk];exact Nat.le_refl _)
    · cases hk
    · cases hk
    · exact .inl (.inr hk))).below hb6
  have hrl6:RlAt (fun k=>((k=BX∨FI L D M Q X none [] v nilV k)∨YF W5.heap.size nilV nilV k)∨RF W.heap.size vr k) (W5.alloc (.cells (yCells H m nilV 0 nilV 0 0) TY17)) W.heap.size H W.heap.size nmI [] 0 vh:=by
    refine hrl.ch (Ch.of_below (S:=fun _=>False) hb6) (fun _ _ hk=>hk.elim) (fun k hlt hk=>?_)
    rcases hk with (hk|hk|hk|hk)|hk
    · exact .inl hk
    · have h5:k=W5.heap.size:=hk
      omega
    · cases hk
    · cases hk
    · exact .inr hk
  refine ⟨H,r,Lf,vr,P,vh,rfl,hc4.block BX hbx,hlow,⟨?_,⟨hrk6,hrl6,heap_alloc_new W5 _,by omega,Own.nil _ _ _,Rw.nil _ _ _,fun k hk=>?_⟩⟩,?_⟩
  · refine h.beside ((Ch.of_below (S:=fun _=>False) (hc4.trans (hb6.mono hc4.size)))) (fun _ _ hk=>hk.elim) (fun k hk=>?_)
    rcases hk with rfl|hk|hk|hk|hk|hk
    · exact ⟨by omega,.inl rfl⟩
    · have h5:=(hrk.foot_lt hk)
      exact ⟨by omega,.inr h5.1⟩
    · rcases hk with rfl|hk
      · have h5:=hrl.lt
        exact ⟨by omega,.inr (by omega)⟩
      · have h5:=Rw.lt hrl.rw hk
        exact ⟨by omega,.inr h5.1⟩
    · rw [show k=W5.heap.size from hk]
      exact ⟨by omega,.inr (by omega)⟩
    · cases hk
    · cases hk
  · have h5:k<W.heap.size:=by
      rcases hk with rfl|hk
      · exact hbx
      · exact hfi hk
    refine ⟨by omega,by omega,fun hh=>(by cases hh),fun hh=>?_⟩
    have:=hrk.foot_lt hh
    omega
  · have hp:=hs.perm.length_eq
    exact ⟨hs,newW_ok rr hr,by show (0:Int)≤_;omega,by omega,Nat.zero_le _,Nat.zero_le _,Nat.zero_le _,Nat.zero_le _,by rw [hp];exact Nat.zero_le _,Nat.zero_le _,⟨newS,rfl⟩,⟨Nat.zero_le _,Nat.zero_le _,Nat.zero_le _,Nat.zero_le _⟩,rfl,hlow.trans (hb6.mono hlow.size),by omega,by omega,hB,by omega⟩
theorem IXB.later {W0 W W':World} {N C B most g sn kp dn:Nat} {j:Int} {d:Dk} {F:List Ent} {T an:List (List UInt8)} {s:St} {r:Rk} {Lf:Fs} {bs:List UInt8} (h:IXB W0 N j most C B W d F T g s an sn kp r Lf bs dn) (hl:Below W0.heap.size W0 W') (hs:W.heap.size≤W'.heap.size):IXB W0 N j most C B W' d F T g s an sn kp r Lf bs dn :=
  ⟨h.sim,h.ok,h.ops,h.hg,h.hT,h.hkp,h.hsn,h.han,h.hlf,h.hbs,h.hst,h.hup,h.hdn,hl,Nat.le_trans h.bw hs,Nat.le_trans h.cw hs,h.b0,h.c0⟩
theorem IXB.below {W0 W W':World} {N C B most g sn kp dn:Nat} {j:Int} {d:Dk} {F:List Ent} {T an:List (List UInt8)} {s:St} {r:Rk} {Lf:Fs} {bs:List UInt8} (h:IXB W0 N j most C B W d F T g s an sn kp r Lf bs dn) (hb:Below W.heap.size W W'):IXB W0 N j most C B W' d F T g s an sn kp r Lf bs dn :=
  h.later (h.low.trans (hb.mono h.low.size)) hb.size
theorem IXB.an0 {W0 W:World} {N C B most g sn kp dn:Nat} {j:Int} {d:Dk} {F:List Ent} {T an:List (List UInt8)} {s:St} {r:Rk} {Lf:Fs} {bs:List UInt8} (h:IXB W0 N j most C B W d F T g s an sn kp r Lf bs dn):IXB W0 N j most C B W d F T g s [] sn kp r Lf bs dn :=
  ⟨h.sim,h.ok,h.ops,h.hg,h.hT,h.hkp,h.hsn,Nat.zero_le _,h.hlf,h.hbs,h.hst,h.hup,h.hdn,h.low,h.bw,h.cw,h.b0,h.c0⟩
structure Keep (Zb:Nat→Prop) (W W':World):Prop where
  size:W.heap.size≤W'.heap.size
  row:∀ k,Zb k→W'.heap[k]?=W.heap[k]?
theorem Keep.below' {Zb:Nat→Prop} {a b c:World} (h:Keep Zb a b) (hb:Below b.heap.size b c) (hz:∀ k,Zb k→k<b.heap.size):Keep Zb a c:=⟨Nat.le_trans h.size hb.size,fun x hx=>(hb.block x (hz x hx)).trans (h.row x hx)⟩
theorem Keep.trans {Zb:Nat→Prop} {a b c:World} (h:Keep Zb a b) (k:Keep Zb b c):Keep Zb a c:=⟨Nat.le_trans h.size k.size,fun x hx=>(k.row x hx).trans (h.row x hx)⟩
end
section
variable {u:Bool} {Zb Zb':Nat→Prop} {W W' W1:World} {B D M L Q X C G H Y most N g g2 sn sn2 kp kp2 dn:Nat} {O:Option Nat} {d:Dk} {F:List Ent} {T T2:List (List UInt8)} {v va:Value} {s:St} {an an2:List (List UInt8)} {r:Rk} {Lf:Fs} {vr vh vb vo:Value} {P:List Value} {bs:List UInt8}
theorem IXP.keepP (h:IXP Zb W B D M L Q X O d F T g v s va an sn kp C G H Y r Lf vr P T2 g2 vh most bs vb dn an2 vo sn2 kp2) (c:Ch (FI L D M Q X O F v va) W W'):Keep Zb W W':=⟨c.size,fun k hk=>c.block k (h.ib.zl k (.inl hk)).1 (h.ib.zf (.inl hk))⟩
theorem IXP.keepD (h:IXP Zb W B D M L Q X O d F T g v s va an sn kp C G H Y r Lf vr P T2 g2 vh most bs vb dn an2 vo sn2 kp2) (c:Ch (DF17 G H Y vr vh vb vo) W W'):Keep Zb W W':=⟨c.size,fun k hk=>c.block k (h.di.od k (.inl hk)).1 (h.di.off (.inl hk))⟩
theorem IXP.lowP (h:IXP Zb W B D M L Q X O d F T g v s va an sn kp C G H Y r Lf vr P T2 g2 vh most bs vb dn an2 vo sn2 kp2) (c:Ch (FI L D M Q X O F v va) W W') (hl:Below W1.heap.size W1 W) (hb:W1.heap.size≤B) (hB:B≤W.heap.size):Below W1.heap.size W1 W':=hl.trans ((c.below (fun _ hk=>(h.ib.foot_lt hk).1) hB).mono hb)
theorem IXP.lowD (h:IXP Zb W B D M L Q X O d F T g v s va an sn kp C G H Y r Lf vr P T2 g2 vh most bs vb dn an2 vo sn2 kp2) (c:Ch (DF17 G H Y vr vh vb vo) W W') (hl:Below W1.heap.size W1 W) (hb:W1.heap.size≤C) (hB:C≤W.heap.size):Below W1.heap.size W1 W':=hl.trans ((c.below (fun _ hk=>(h.di.foot_lt hk).1) hB).mono hb)
theorem IXP.addZ (h:IXP Zb W B D M L Q X O d F T g v s va an sn kp C G H Y r Lf vr P T2 g2 vh most bs vb dn an2 vo sn2 kp2) (hb:Below W.heap.size W W') (hz:∀ k,Zb' k→Zb k∨W.heap.size≤k∧k<W'.heap.size):IXP Zb' W' B D M L Q X O d F T g v s va an sn kp C G H Y r Lf vr P T2 g2 vh most bs vb dn an2 vo sn2 kp2 :=
  ⟨h.ib.addZ hb (fun k hk=>by
    rcases hk with hk|hk
    · exact (hz k hk).imp .inl id
    · exact .inl (.inr hk)),h.di.other (Ch.of_below (S:=fun _=>False) hb) (fun _ _ hk=>hk.elim) (fun k hk=>by
    rcases hk with hk|hk
    · rcases hz k hk with h1|h1
      · exact ⟨Nat.lt_of_lt_of_le (h.di.od k (.inl h1)).1 hb.size,.inl (.inl h1)⟩
      · exact ⟨h1.2,.inr h1.1⟩
    · exact ⟨Nat.lt_of_lt_of_le (h.di.od k (.inr hk)).1 hb.size,.inl (.inr hk)⟩)⟩
structure IXC (W0:World) (C B:Nat) (W:World) (d:Dk) (F:List Ent) (r:Rk) (Lf:Fs):Prop where
  sim:Sim d (fsOf F) r Lf
  ok:FsOk d (fsOf F)
  hlf:Lf.length≤10000
  low:Below W0.heap.size W0 W
  bw:B≤W.heap.size
  cw:C≤W.heap.size
  b0:W0.heap.size≤B
  c0:W0.heap.size≤C
theorem IXC.later (h:IXC W1 C B W d F r Lf) (hl:Below W1.heap.size W1 W') (hs:W.heap.size≤W'.heap.size):IXC W1 C B W' d F r Lf:=⟨h.sim,h.ok,h.hlf,hl,Nat.le_trans h.bw hs,Nat.le_trans h.cw hs,h.b0,h.c0⟩
theorem IXB.c {j:Int} (h:IXB W1 N j most C B W d F T g s an sn kp r Lf bs dn) (hN:N≤3000):IXC W1 C B W d F r Lf:=⟨h.sim,h.ok,by have:=h.hlf;omega,h.low,h.bw,h.cw,h.b0,h.c0⟩
def IaS (Zb:Nat→Prop) (u:Bool) (W1:World) (D M L Q X C G H Y most B N:Nat) (W:World):Prop:=∃ O d F T g v s va an sn kp r Lf vr P vh bs vb dn vo,
  IXP Zb W B D M L Q X O d F T g v s va an sn kp C G H Y r Lf vr P T g vh most bs vb dn an vo sn kp∧IXC W1 C B W d F r Lf∧(u=false→IXB W1 N 0 most C B W d F T g s an sn kp r Lf bs dn)
theorem IaS.below (h:IaS Zb u W1 D M L Q X C G H Y most B N W) (hb:Below W.heap.size W W'):IaS Zb u W1 D M L Q X C G H Y most B N W':=by
  obtain ⟨O,d,F,T,g,v,s,va,an,sn,kp,r,Lf,vr,P,vh,bs,vb,dn,vo,h1,h2,h3⟩:=h
  exact ⟨O,d,F,T,g,v,s,va,an,sn,kp,r,Lf,vr,P,vh,bs,vb,dn,vo,h1.below hb,h2.later (h2.low.trans (hb.mono h2.low.size)) hb.size,fun hu=>(h3 hu).below hb⟩
theorem IaS.addZ (h:IaS Zb u W1 D M L Q X C G H Y most B N W) (hb:Below W.heap.size W W') (hz:∀ k,Zb' k→Zb k∨W.heap.size≤k∧k<W'.heap.size):IaS Zb' u W1 D M L Q X C G H Y most B N W':=by
  obtain ⟨O,d,F,T,g,v,s,va,an,sn,kp,r,Lf,vr,P,vh,bs,vb,dn,vo,h1,h2,h3⟩:=h
  exact ⟨O,d,F,T,g,v,s,va,an,sn,kp,r,Lf,vr,P,vh,bs,vb,dn,vo,h1.addZ hb hz,h2.later (h2.low.trans (hb.mono h2.low.size)) hb.size,fun hu=>(h3 hu).below hb⟩
theorem IaS.low (h:IaS Zb u W1 D M L Q X C G H Y most B N W):Below W1.heap.size W1 W:=by
  obtain ⟨O,d,F,T,g,v,s,va,an,sn,kp,r,Lf,vr,P,vh,bs,vb,dn,vo,h1,h2,h3⟩:=h
  exact h2.low
theorem IXB.more {N':Nat} {j:Int} (h:IXB W1 N j most C B W d F T g s an sn kp r Lf bs dn) (hN:N≤N'):IXB W1 N' j most C B W d F T g s an sn kp r Lf bs dn :=
  ⟨h.sim,h.ok,by have:=h.ops;omega,by have:=h.hg;omega,Nat.le_trans h.hT hN,Nat.le_trans h.hkp hN,Nat.le_trans h.hsn hN,Nat.le_trans h.han hN,by have:=h.hlf;omega,Nat.le_trans h.hbs hN,h.hst,h.hup.more hN,h.hdn,h.low,h.bw,h.cw,h.b0,h.c0⟩
theorem IaS.more {N':Nat} (h:IaS Zb u W1 D M L Q X C G H Y most B N W) (hN:N≤N') (hz:∀ k,Zb' k→Zb k):IaS Zb' u W1 D M L Q X C G H Y most B N' W:=by
  obtain ⟨O,d,F,T,g,v,s,va,an,sn,kp,r,Lf,vr,P,vh,bs,vb,dn,vo,h1,h2,h3⟩:=h
  exact ⟨O,d,F,T,g,v,s,va,an,sn,kp,r,Lf,vr,P,vh,bs,vb,dn,vo,h1.addZ (Below.refl _ _) (fun k hk=>.inl (hz k hk)),h2,fun hu=>(h3 hu).more hN⟩
theorem IaS.lt (h:IaS Zb u W1 D M L Q X C G H Y most B N W) (k:Nat) (hk:Zb k):k<W.heap.size:=by
  obtain ⟨O,d,F,T,g,v,s,va,an,sn,kp,r,Lf,vr,P,vh,bs,vb,dn,vo,h1,h2,h3⟩:=h
  exact (h1.ib.zl k (.inl hk)).1
def IaT (Zb:Nat→Prop) (u:Bool) (W1:World) (D M L Q X C G H Y most B N:Nat) (va:Value) (W:World):Prop:=∃ O d F T g v s an sn kp r Lf vr P vh bs vb dn vo,
  IXP Zb W B D M L Q X O d F T g v s nilV [] sn kp C G H Y r Lf vr P T g vh most bs vb dn an vo sn kp∧IXC W1 C B W d F r Lf∧(u=false→IXB W1 N 0 most C B W d F T g s an sn kp r Lf bs dn)∧Rw B (fun k=>(Zb k∨DF17 G H Y vr vh vb vo k)∨FI L D M Q X O F v nilV k) W va an
def IaR (va vo:Value) (W:World):Prop:=∃ A A' c c' an,va=.slice A an.length c∧Rd W A an.length c an∧vo=.slice A' an.length c'∧Rd W A' an.length c' an
theorem iaTakeP (h:IaS Zb u W1 D M L Q X C G H Y most B N W):Calls Tryz.prog 19 #[pI X] W fun e W'=>∃ va,e=.returned va∧IaT Zb u W1 D M L Q X C G H Y most B N va W'∧Keep Zb W W':=by
  obtain ⟨O,d,F,T,g,v,s,va,an,sn,kp,r,Lf,vr,P,vh,bs,vb,dn,vo,h1,h2,h4⟩:=h
  refine (inTake h1.ib).mono ?_
  rintro e W' ⟨rfl,hi,hr,hc⟩
  have hc':Ch (FI L D M Q X O F v va) W W':=(Ch.refl _ _).trans hc (fun k _ hk=>.inl hk)
  refine ⟨_,rfl,⟨O,d,F,T,g,v,s,an,sn,kp,r,Lf,vr,P,vh,bs,vb,dn,vo,h1.prog ⟨hc',fun k hk=>?_⟩ hi,h2.later (h1.lowP hc' h2.low h2.b0 h2.bw) hc.size,fun hu=>(h4 hu).later (h1.lowP hc' h2.low h2.b0 h2.bw) hc.size,hr⟩,h1.keepP hc'⟩
  rcases hk with hk|hk|hk|hk
  · exact .inl (.inl hk)
  · exact .inl (.inr (.inl hk))
  · exact .inl (.inr (.inr (.inl hk)))
  · cases hk
theorem iaTakeD {va:Value} (h:IaT Zb u W1 D M L Q X C G H Y most B N va W):Calls Tryz.prog 20 #[pY Y] W fun e W'=>∃ vo,e=.returned vo∧IaR va vo W'∧IaS Zb u W1 D M L Q X C G H Y most B N W'∧Keep Zb W W':=by
  obtain ⟨O,d,F,T,g,v,s,an,sn,kp,r,Lf,vr,P,vh,bs,vb,dn,vo,h1,h2,h4,h3⟩:=h
  refine (refTake17 h1.di).mono ?_
  rintro e W' ⟨rfl,hd,hr,hc⟩
  have hc':Ch (DF17 G H Y vr vh vb vo) W W':=(Ch.refl _ _).trans hc (fun k _ hk=>.inr (.inr (.inl hk)))
  have hva:=h3.ch (T':=fun k=>(Zb k∨DF17 G H Y vr vh vb vo k)∨FI L D M Q X O F v nilV k) hc' (fun k _ hk=>.inl (.inr hk)) (fun _ _ hk=>hk)
  obtain ⟨A,c,e1,hA⟩:=hva.rd
  obtain ⟨A',c',e2,hA'⟩:=hr.rd
  refine ⟨_,rfl,⟨A,A',c,c',an,e1,hA,e2,hA'⟩,⟨O,d,F,T,g,v,s,_,[],sn,kp,r,Lf,vr,P,vh,bs,vb,dn,_,h1.doc ⟨hc',fun k hk=>?_⟩ hd,h2.later (h1.lowD hc' h2.low h2.c0 h2.cw) hc.size,fun hu=>((h4 hu).later (h1.lowD hc' h2.low h2.c0 h2.cw) hc.size).an0⟩,h1.keepD hc'⟩
  rcases hk with hk|hk|hk|hk|hk
  · exact .inl (.inl hk)
  · exact .inl (.inr (.inl hk))
  · exact .inl (.inr (.inr (.inl hk)))
  · exact .inl (.inr (.inr (.inr (.inl hk))))
  · cases hk
theorem iaSame {va vo:Value} (h:IaR va vo W):Calls Tryz.prog 18 #[va,vo] W fun e W'=>e=.returned (.bool true)∧Below W.heap.size W W':=by
  obtain ⟨A,A',c,c',an,rfl,h1,rfl,h2⟩:=h
  exact same17 A A' _ c c' an W h1 h2
def IaX (Zb:Nat→Prop) (W1:World) (D M L Q X C G H Y most B N:Nat) (W:World):Prop:=∃ O d F T g v s va an sn kp r Lf vr P vh bs vb dn vo,
  IXP Zb W B D M L Q X O d F T g v (leaveS s) va an sn kp C G H Y r Lf vr P T g vh most bs vb dn an vo sn kp∧IXB W1 N 0 most C B W d F T g s an sn kp r Lf bs dn
theorem iaResetP (h:IaS Zb false W1 D M L Q X C G H Y most B N W):Calls Tryz.prog 21 #[pI X] W fun e W'=>e=.returned (.tuple #[])∧IaX Zb W1 D M L Q X C G H Y most B N W'∧Keep Zb W W':=by
  obtain ⟨O,d,F,T,g,v,s,va,an,sn,kp,r,Lf,vr,P,vh,bs,vb,dn,vo,h1,_,h20⟩:=h
  have h2:=h20 rfl
  refine (inReset h1.ib).mono ?_
  rintro e W' ⟨rfl,O',hi,hc⟩
  exact ⟨rfl,⟨O',d,F,T,g,v,s,va,an,sn,kp,r,Lf,vr,P,vh,bs,vb,dn,vo,h1.prog hc hi,h2.later (h1.lowP hc.ch h2.low h2.b0 h2.bw) hc.ch.size⟩,h1.keepP hc.ch⟩
theorem iaResetD (hN:N≤3000) (h:IaX Zb W1 D M L Q X C G H Y most B N W):Calls Tryz.prog 22 #[pY Y] W fun e W'=>e=.returned (.tuple #[])∧IaS Zb false W1 D M L Q X C G H Y most B N W'∧Keep Zb W W':=by
  obtain ⟨O,d,F,T,g,v,s,va,an,sn,kp,r,Lf,vr,P,vh,bs,vb,dn,vo,h1,h2⟩:=h
  refine (refReset17 h1.di).mono ?_
  rintro e W' ⟨rfl,hd,hc⟩
  have hc':Ch (DF17 G H Y vr vh vb vo) W W':=(Ch.refl _ _).trans hc (fun k _ hk=>.inr (.inr (.inl hk)))
  have h3:=h2.later (h1.lowD hc' h2.low h2.c0 h2.cw) hc.size
  obtain ⟨z,hz⟩:=h3.hst
  refine ⟨rfl,⟨O,d,F,T,g,v,_,va,an,sn,kp,r,Lf,vr,P,vh,[],_,0,vo,h1.doc ⟨hc',fun k hk=>?_⟩ hd,h3.c hN,fun _=>⟨h3.sim,h3.ok,h3.ops,h3.hg,h3.hT,h3.hkp,h3.hsn,h3.han,h3.hlf,Nat.zero_le _,⟨(feedD most newS bs).1.plus z,by rw [hz,leave_new];rfl⟩,⟨h3.hup.junk,h3.hup.over,h3.hup.broken,Nat.zero_le _⟩,rfl,h3.low,h3.bw,h3.cw,h3.b0,h3.c0⟩⟩,h1.keepD hc'⟩
  rcases hk with hk|hk|hk|hk|hk
  · exact .inl (.inl hk)
  · exact .inl (.inr (.inl hk))
  · exact .inl (.inr (.inr (.inl hk)))
  · cases hk
  · exact .inl (.inr (.inr (.inr (.inr hk))))
end
end
section
open Go.RowKit Go.MapKept
theorem feedM_r:∀ (Ms:List (List UInt8)) (d:Dk) (fs:Fs) (T:List (List UInt8)) (g kp:Nat) (La:List (List UInt8)),(∃ op,(feedM d fs T g kp La Ms).r=.inr op)∨(feedM d fs T g kp La Ms).r=.inl 0
  | [],_,_,_,_,_,_=>.inr rfl
  | m :: r,d,fs,T,g,kp,La=>by
    cases e:(keepD d fs g m).1 with
    | inr op =>
      refine .inl ⟨op,?_⟩
      unfold feedM
      rw [e]
    | inl x =>
      rw [feedM_step e]
      exact feedM_r r _ _ _ _ _ _
section
variable {Zb:Nat→Prop} {W W' W1:World} {B D M L Q X C G H Y most N n:Nat} {y:List UInt8} {gone:Bool}
def IaF (Zb:Nat→Prop) (W1:World) (D M L Q X C G H Y most B N:Nat) (y:List UInt8) (gone:Bool) (W:World):Prop:=∃ O d F T g s an sn kp r Lf vr P vh bs vb dn vo R F' v' va' W0,
  R=feedM d (fsOf F) T g kp [] (feedD most s y).2∧fsOf F'=R.fs∧IXP Zb W B D M L Q X O R.d F' R.T R.g v' (feedD most s y).1 va' (an++R.La) (sn+R.La.length) R.kp C G H Y r Lf vr P T g vh most bs vb dn an vo sn kp ∧
    IXB W1 N 0 most C B W0 d F T g s an sn kp r Lf bs dn∧W0.heap.size≤W.heap.size∧Below W1.heap.size W1 W∧gone=decide (R.r≠.inl 0)
theorem IaF.below (h:IaF Zb W1 D M L Q X C G H Y most B N y gone W) (hb:Below W.heap.size W W'):IaF Zb W1 D M L Q X C G H Y most B N y gone W':=by
  obtain ⟨O,d,F,T,g,s,an,sn,kp,r,Lf,vr,P,vh,bs,vb,dn,vo,R,F',v',va',W0,h1,h2,h3,h4,h5,h6,h7⟩:=h
  exact ⟨O,d,F,T,g,s,an,sn,kp,r,Lf,vr,P,vh,bs,vb,dn,vo,R,F',v',va',W0,h1,h2,h3.below hb,h4,Nat.le_trans h5 hb.size,h6.trans (hb.mono h6.size),h7⟩
theorem IaF.lt (h:IaF Zb W1 D M L Q X C G H Y most B N y gone W) (k:Nat) (hk:Zb k):k<W.heap.size:=by
  obtain ⟨O,d,F,T,g,s,an,sn,kp,r,Lf,vr,P,vh,bs,vb,dn,vo,R,F',v',va',W0,_,_,h3,_,_,_,_⟩:=h
  exact (h3.ib.zl k (.inl hk)).1
theorem IaF.low (h:IaF Zb W1 D M L Q X C G H Y most B N y gone W):Below W1.heap.size W1 W:=by
  obtain ⟨O,d,F,T,g,s,an,sn,kp,r,Lf,vr,P,vh,bs,vb,dn,vo,R,F',v',va',W0,_,_,_,_,_,h6,_⟩:=h
  exact h6
theorem iaFeedP (h:IaS Zb false W1 D M L Q X C G H Y most B N W) (hm:most≤29000) (hG:∀ W,Below W1.heap.size W1 W→Vers W∧Signs W∧Cds W) (A:Option Addr) (c:Nat) (hl:Bs W A n c y) (hlow:0<n→∀ b,A=some b→b.block<W1.heap.size) (hN:N+n≤3000) (BX BA:Nat) (hX:W.cell? ⟨BX,0,none⟩=some (pI X)) (hA:W.cell? ⟨BA,3,none⟩=some (.slice A n c)) :
    Calls Tryz.prog 14 #[.func (.func 15) #[] #[.pointer (some ⟨BX,0,none⟩),.pointer (some ⟨BA,0,none⟩)]] W fun e W'=>∃ gone op,e=.returned (.tuple #[.int .i64 0,crash op,.bool gone])∧IaF Zb W1 D M L Q X C G H Y most B N y gone W'∧Keep Zb W W':=by
  obtain ⟨O,d,F,T,g,v,s,va,an,sn,kp,r,Lf,vr,P,vh,bs,vb,dn,vo,h1,_,h2⟩:=h
  have h2:=h2 rfl
  refine (ixFeed1 h1 h2 hm (by decide) hG A n c y hl hlow (by omega) BX BA hX hA).mono ?_
  rintro e W' ⟨R,hR,rfl,F',v',va',O',hf,hi,hc⟩
  have hlw:=h1.lowP hc.ch h2.low h2.b0 h2.bw
  have hfin:IaF Zb W1 D M L Q X C G H Y most B N y (decide (R.r≠.inl 0)) W':=⟨O',d,F,T,g,s,an,sn,kp,r,Lf,vr,P,vh,bs,vb,dn,vo,R,F',v',va',W,hR,hf,hi,h2,hc.ch.size,hlw,rfl⟩
  have hkp:=h1.keepP hc.ch
  rcases feedM_r (feedD most s y).2 d (fsOf F) T g kp [] with ⟨op,h5⟩|h5
  · rw [← hR] at h5
    rw [h5] at hfin ⊢
    exact ⟨true,op,rfl,by simpa using hfin,hkp⟩
  · rw [← hR] at h5
    rw [h5] at hfin ⊢
    exact ⟨false,0,rfl,by simpa using hfin,hkp⟩
theorem iaFeedD (h:IaF Zb W1 D M L Q X C G H Y most B N y gone W) (hm:most≤29000) (A:Option Addr) (c:Nat) (hl:Bs W A n c y) (hlow:0<n→∀ b,A=some b→b.block<W1.heap.size) (hN:N+n≤3000) :
    Calls Tryz.prog 17 #[pY Y,.slice A n c] W fun e W'=>e=.returned (.bool gone)∧IaS Zb gone W1 D M L Q X C G H Y most B (N+n) W'∧Keep Zb W W':=by
  obtain ⟨O,d,F,T,g,s,an,sn,kp,r,Lf,vr,P,vh,bs,vb,dn,vo,R,F',v',va',W0,hR,hf,h3,h4,h5,h6,rfl⟩:=h
  have hlen:=hl.len
  refine (ixFeed2 h3 h4 hm (by decide) h5 A n c y hR hl hlow hN).mono ?_
  rintro e W2 ⟨rfl,r',Lf',vr',P',vh',vb',vo',dn',hs,hx,hdn,hc⟩
  have hlw:=h3.lowD hc.ch h6 h4.c0 (Nat.le_trans h4.cw h5)
  have hsz:=Nat.le_trans h5 hc.ch.size
  have hl1:=feed_len most s y y.length (Nat.le_refl _)
  rw [List.take_length,hlen] at hl1
  have hsh:=feed_short h4.hup y y.length (Nat.le_refl _)
  rw [List.take_length] at hsh
  have e1:=h4.ops
  have e2:=h4.hg
  have e3:=h4.hT
  have e4:=h4.hkp
  have e8:=h4.hlf
  obtain ⟨⟨q1,_⟩,_⟩:=feedM_b (feedD most s y).2 d (fsOf F) T g kp [] N ⟨h4.ok,by omega,e2,e3,e4⟩ (by omega) (fun x hx=>Nat.le_trans (hsh x hx) hm)
  have q7:=feedM_lenI (feedD most s y).2 d (fsOf F) T g kp []
  rw [← hR] at q1 q7
  have e9:=hs.perm.length_eq
  have e10:=h4.sim.perm.length_eq
  refine ⟨rfl,⟨O,R.d,F',R.T,R.g,v',_,va',_,_,R.kp,r',Lf',vr',P',vh',bs++y,vb',dn',vo',hx,⟨by rw [hf];exact hs,by rw [hf];exact q1,by omega,hlw,Nat.le_trans h4.bw hsz,Nat.le_trans h4.cw hsz,h4.b0,h4.c0⟩,fun hu=>?_⟩,h3.keepD hc.ch⟩
  exact ixFed h4 hm rfl n y hlen hN hR hf hs dn' (hdn (by simpa using hu)) hlw hsz
end
end
section
open Go.RowKit Go.MapKept
section
variable {Zb:Nat→Prop} {W W' W1:World} {B D M L Q X C G H Y most N:Nat} {upd:Dk→Dk} {ur:Rk→Rk}
def IaM (Zb:Nat→Prop) (upd:Dk→Dk) (W1:World) (D M L Q X C G H Y most B N:Nat) (W:World):Prop:=∃ O d F T g v s va an sn kp r Lf vr P vh bs vb dn vo,
  IXP Zb W B D M L Q X O (upd d) F T g v s va an sn kp C G H Y r Lf vr P T g vh most bs vb dn an vo sn kp∧IXB W1 N 0 most C B W d F T g s an sn kp r Lf bs dn
theorem iaDk {f:FuncId} {args:Array Value} {v0:Value} (h:IaS Zb false W1 D M L Q X C G H Y most B N W) (hc:∀ d F,DkAt W B D M d F→Calls Tryz.prog f args W fun e W'=>e=.returned v0∧DkAt W' B D M (upd d) F∧Ch (At1 D) W W') :
    Calls Tryz.prog f args W fun e W'=>e=.returned v0∧IaM Zb upd W1 D M L Q X C G H Y most B N W'∧Keep Zb W W':=by
  obtain ⟨O,d,F,T,g,v,s,va,an,sn,kp,r,Lf,vr,P,vh,bs,vb,dn,vo,h1,_,h2⟩:=h
  have h2:=h2 rfl
  refine (hc d F h1.ib.dk).mono ?_
  rintro e W' ⟨rfl,hd,c⟩
  have c':Ch (FI L D M Q X O F v va) W W':=(Ch.refl _ _).trans c (fun k _ hk=>.inr (.inr (.inl (.inl (.inr (.inl hk))))))
  exact ⟨rfl,⟨O,d,F,T,g,v,s,va,an,sn,kp,r,Lf,vr,P,vh,bs,vb,dn,vo,h1.dnum hd c,h2.later (h1.lowP c' h2.low h2.b0 h2.bw) c.size⟩,h1.keepP c'⟩
theorem IaM.at_ (h:IaM Zb upd W1 D M L Q X C G H Y most B N W) (hN:N≤3000) (hs:∀ d fs r Lf,Sim d fs r Lf→Sim (upd d) fs (ur r) Lf) (hk:∀ d fs,FsOk d fs→FsOk (upd d) fs) (ho:∀ d,(upd d).ops=d.ops) :
    ∃ r vr,W.heap[G]?=some (rkObj vr r)∧∀ W',Ch (At1 G) W W'→W'.heap[G]?=some (rkObj vr (ur r))→IaS Zb false W1 D M L Q X C G H Y most B N W'∧Keep Zb W W':=by
  obtain ⟨O,d,F,T,g,v,s,va,an,sn,kp,r,Lf,vr,P,vh,bs,vb,dn,vo,h1,h2⟩:=h
  refine ⟨r,vr,h1.di.rk.row,fun W' c hr=>?_⟩
  have c':Ch (DF17 G H Y vr vh vb vo) W W':=(Ch.refl _ _).trans c (fun k _ hk=>.inl (.inl hk))
  have h3:=h2.later (h1.lowD c' h2.low h2.c0 h2.cw) c.size
  have h4:IXB W1 N 0 most C B W' (upd d) F T g s an sn kp (ur r) Lf bs dn:=⟨hs _ _ _ _ h3.sim,hk _ _ h3.ok,by rw [ho];exact h3.ops,h3.hg,h3.hT,h3.hkp,h3.hsn,h3.han,h3.hlf,h3.hbs,h3.hst,h3.hup,h3.hdn,h3.low,h3.bw,h3.cw,h3.b0,h3.c0⟩
  exact ⟨⟨O,upd d,F,T,g,v,s,va,an,sn,kp,ur r,Lf,vr,P,vh,bs,vb,dn,vo,h1.rnum c hr,h4.c hN,fun _=>h4⟩,h1.keepD c'⟩
theorem iaSize {n:Int} (h:IaM Zb (fun d=>{ d with room:=n }) W1 D M L Q X C G H Y most B N W) (hn:0≤n∧n≤1073741824) (hN:N≤3000) :
    ∃ r vr,W.heap[G]?=some (rkObj vr r)∧∀ W',Ch (At1 G) W W'→W'.heap[G]?=some (rkObj vr { r with size:=n })→IaS Zb false W1 D M L Q X C G H Y most B N W'∧Keep Zb W W' :=
  h.at_ (ur:=fun r=>{ r with size:=n }) hN (fun _ _ _ _ h=>⟨rfl,h.count,h.armed,h.keep,h.fail,h.perm,h.srt⟩) (fun _ _ h=>⟨⟨hn,h.ok.used,h.ok.ops,h.ok.failIn,h.ok.armedIn,h.ok.armKeep⟩,h.tot,h.safe,h.names⟩) (fun _=>rfl)
theorem iaFail {n:Int} (h:IaM Zb (fun d=>{ d with failIn:=n }) W1 D M L Q X C G H Y most B N W) (hn:0≤n∧n≤9223372036854775807) (hN:N≤3000) :
    ∃ r vr,W.heap[G]?=some (rkObj vr r)∧∀ W',Ch (At1 G) W W'→W'.heap[G]?=some (rkObj vr { r with fail:=n })→IaS Zb false W1 D M L Q X C G H Y most B N W'∧Keep Zb W W' :=
  h.at_ (ur:=fun r=>{ r with fail:=n }) hN (fun _ _ _ _ h=>⟨h.size,h.count,h.armed,h.keep,rfl,h.perm,h.srt⟩) (fun _ _ h=>⟨⟨h.ok.room,h.ok.used,h.ok.ops,hn,h.ok.armedIn,h.ok.armKeep⟩,h.tot,h.safe,h.names⟩) (fun _=>rfl)
theorem iaArm {n k:Int} (h:IaM Zb (fun d=>{ d with armedIn:=n,armKeep:=k }) W1 D M L Q X C G H Y most B N W) (hn:0≤n∧n≤9223372036854775807) (hk:-9223372036854775808≤k∧k≤9223372036854775807) (hN:N≤3000) :
    ∃ r vr,W.heap[G]?=some (rkObj vr r)∧∀ W',Ch (At1 G) W W'→W'.heap[G]?=some (rkObj vr { r with armed:=n,keep:=k })→IaS Zb false W1 D M L Q X C G H Y most B N W'∧Keep Zb W W' :=
  h.at_ (ur:=fun r=>{ r with armed:=n,keep:=k }) hN (fun _ _ _ _ h=>⟨h.size,h.count,rfl,rfl,h.fail,h.perm,h.srt⟩) (fun _ _ h=>⟨⟨h.ok.room,h.ok.used,h.ok.ops,h.ok.failIn,hn,hk⟩,h.tot,h.safe,h.names⟩) (fun _=>rfl)
end
end
section
open Go.RowKit Go.MapKept
section
variable {Zb:Nat→Prop} {W W1:World} {B D M L Q X C G H Y most N:Nat} {u:Bool}
theorem iaLook (h:IaS Zb u W1 D M L Q X C G H Y most B N W):∃ (fb:List UInt8) (ops:Int),
    Calls Tryz.prog 26 #[pD D,.string nmI] W (fun e W'=>∃ A c x,e=.returned (.tuple #[.slice A fb.length c,.int .i64 x])∧Bs W' A fb.length c fb∧Below W.heap.size W W') ∧
    (∀ W',Below W.heap.size W W'→Calls Tryz.prog 27 #[pR G,.string nmI] W' fun e W2=>W'=W2∧∃ A c fnd,e=.returned (.tuple #[.slice A fb.length c,.bool fnd])∧Bs W' A fb.length c fb) ∧
    (∀ W',Below W.heap.size W W'→Calls Tryz.prog 28 #[pD D] W' fun e W2=>e=.returned (.int .i64 ops)∧W'=W2) ∧
    (∀ W',Below W.heap.size W W'→W'.cell? ⟨G,2,none⟩=some (.int .i64 ops)):=by
  obtain ⟨O,d,F,T,g,v,s,va,an,sn,kp,r,Lf,vr,P,vh,bs,vb,dn,vo,h1,h2,_⟩:=h
  refine ⟨bsOf (fsOf F) nmI,d.ops,?_,fun W' hb=>?_,fun W' hb=>dkOps (h1.below hb).ib.dk,fun W' hb=>?_⟩
  · refine (mReadW h1.ib.dk h2.ok.dk.lens nmI).mono ?_
    rintro e W' ⟨A,c,x,he,hB,_,hb⟩
    exact ⟨A,c,x,he,hB,hb⟩
  · refine (rkBytes (h1.below hb).di.rk nmI (by have:=h2.hlf;omega)).mono ?_
    intro e W2 hx
    obtain ⟨rfl,hx⟩:=hx
    refine ⟨rfl,?_⟩
    rw [← h2.sim.bytes h2.ok nmI]
    unfold bsOf
    obtain ⟨h3,h4⟩|⟨f,A,m,c,h3,h4,h5⟩:=hx
    · rw [h3];exact ⟨none,0,false,h4,Bs.none_ _⟩
    · rw [h3];have hl:=h5.len;subst hl;exact ⟨A,c,true,h4,h5⟩
  · have h3:=(h1.below hb).di.rk.cell 2
    rw [← h2.sim.count]
    exact h3
theorem iaNums (h:IaS Zb false W1 D M L Q X C G H Y most B N W) (hm:most≤29000) (hN:N≤3000):∃ sn kp hd:Nat,∀ W',Below W.heap.size W W' →
    Calls Tryz.prog 29 #[pI X] W' (fun e W2=>e=.returned (.int .i64 (sn:Int))∧W2=W') ∧
    Calls Tryz.prog 30 #[pI X] W' (fun e W2=>e=.returned (.int .i64 (kp:Int))∧W2=W') ∧
    Calls Tryz.prog 31 #[pI X] W' (fun e W2=>e=.returned (.int .i64 (hd:Int))∧W2=W') ∧
    Calls Tryz.prog 32 #[pY Y] W' (fun e W2=>e=.returned (.int .i64 (hd:Int))∧Below W'.heap.size W' W2) ∧
    W'.cell? ⟨Y,5,none⟩=some (.int .i64 (sn:Int))∧W'.cell? ⟨Y,6,none⟩=some (.int .i64 (kp:Int)):=by
  obtain ⟨O,d,F,T,g,v,s,va,an,sn,kp,r,Lf,vr,P,vh,bs,vb,dn,vo,h1,_,h2⟩:=h
  have h2:=h2 rfl
  obtain ⟨z,hz⟩:=h2.hst
  have hd:heldD s=heldD (feedD most newS bs).1:=by rw [hz,held_plus]
  refine ⟨sn,kp,heldD s,fun W' hb=>?_⟩
  have h3:=h1.below hb
  refine ⟨inSeen h3.ib,inKept h3.ib,inHeld h3.ib (by have:=h2.hup.fr;omega),?_,?_,?_⟩
  · rw [hd]
    exact refHeld17 h3.di (by omega) (by have:=h2.hbs;omega)
  · have h4:=h3.di.cell 5
    exact h4
  · have h4:=h3.di.cell 6
    exact h4
end
end
end Go.Proofs.YtodjilljcjkacaaGreatDoor
