/- Laid together: RkS, RL14. -/
import Derived.Test.YtodjilljcjkacaaGreatDoorPkIB12

namespace Go.Proofs.YtodjilljcjkacaaGreatDoor
open Lib (hid)
section
open Go.RowKit Go.MapKept
structure Step (w:World) (B G:Nat) (E:Nat→Prop) (v:Value) (w':World) (r':Rk) (L':Fs) (v':Value) (P':List Value):Prop where
  at_:RkAt w' B G E r' L' v' P'
  ch:Ch (RF G v) w w'
  own:∀ k,v'.ownBlock=some k→v.ownBlock=some k∨w.heap.size≤k
section
variable {w w1 w2:World} {B G:Nat} {E:Nat→Prop} {r r1 r2:Rk} {L L1 L2:Fs} {v v1 v2:Value} {P P1 P2:List Value} {d:Dk} {fs:Fs}
theorem Step.trans (h:Step w B G E v w1 r1 L1 v1 P1) (k:Step w1 B G E v1 w2 r2 L2 v2 P2):Step w B G E v w2 r2 L2 v2 P2 :=
  ⟨k.at_,h.ch.trans k.ch (fun j hj hs=>hs.elim .inl (fun hs=>(h.own j hs).elim .inr (fun h'=>absurd hj (Nat.not_lt.2 h')))),fun j hj=>(k.own j hj).elim (fun h'=>h.own j h') (fun h'=>.inr (Nat.le_trans h.ch.size h'))⟩
theorem Step.below (h:Step w B G E v w1 r1 L1 v1 P1) (hb:Below w1.heap.size w1 w2):Step w B G E v w2 r1 L1 v1 P1 :=
  ⟨h.at_.below hb,h.ch.trans (Ch.of_below (S:=fun _=>False) hb) (fun _ _ h=>h.elim),h.own⟩
theorem Step.refl (h:RkAt w B G E r L v P):Step w B G E v w r L v P:=⟨h,Ch.refl _ _,fun _ hk=>.inl hk⟩
theorem RM.step {o:Out} {x:Ending} {w':World} (h:RM w B G E v o x w'):∃ e g r' L' v' P',x=ret2 e g∧Agree o.1 r' e g∧Sim o.2.1 o.2.2 r' L'∧Step w B G E v w' r' L' v' P':=by
  obtain ⟨e,g,r',L',v',P',h0,h1,h2,h3,h4,h5⟩:=h
  exact ⟨e,g,r',L',v',P',h0,h1,h2,h3,h4,h5⟩
theorem RA.step {o:OutN} {x:Ending} {w':World} (h:RA w B G E v o x w'):∃ n e g r' L' v' P',x=ret3 n e g∧Agree o.1.2 r' e g∧(g=false→n=o.1.1)∧Sim o.2.1 o.2.2 r' L'∧Step w B G E v w' r' L' v' P':=by
  obtain ⟨n,e,g,r',L',v',P',h0,h1,h1',h2,h3,h4,h5⟩:=h
  exact ⟨n,e,g,r',L',v',P',h0,h1,h1',h2,h3,h4,h5⟩
theorem trunc_len (d:Dk) (fs:Fs) (a:ByteArray) (n:Int):(opTrunc d fs a n).2.2.length≤fs.length+1:=callD_lenL d fs 1 n 0 a a []
theorem app_len (d:Dk) (fs:Fs) (a:ByteArray) (l:List UInt8):(appO d fs a l).2.2.length≤fs.length+1:=callD_lenL d fs 0 0 0 a a l
theorem sync_len (d:Dk) (fs:Fs) (a:ByteArray):(opSync d fs a).2.2.length≤fs.length+1:=callD_lenL d fs 2 0 0 a a []
set_option maxHeartbeats 4000000 in
set_option maxRecDepth 100000 in
theorem rkBytes (h:RkAt w B G E r L v P) (nm:ByteArray) (hL:L.length≤100000) :
    Calls Tryz.prog 27 #[pR G,.string nm] w fun e w'=>w=w'∧((fget L nm=none∧e=.returned (.tuple #[.slice none 0 0,.bool false]))∨∃ f A m c,fget L nm=some f∧e=.returned (.tuple #[.slice A m c,.bool true])∧Bs w A m c f.bs):=by
  have HL:=hid hL
  have H:=hid h
  rcases fs_split L nm with ⟨hg,_,hi⟩|⟨A0,f,Q0,rfl,hno,hg,hi⟩
  · have HI:=hid hi
    have HG:=hid hg
    clear h hL hi hg
    go_enter Tryz.func27,Tryz.ntmps27
    go_wp2_with (fail)
    refine (rkFind H.out nm (by have:=HL.out;omega)).mono ?_
    rw [HI.out]
    rintro e w1 ⟨rfl,rfl⟩
    go_wp2_with (fail)
    refine bodyPost_ret (v:=.tuple #[.slice none 0 0,.bool false]) (results_two Tryz.results27 _ _ _) rfl ?_
    exact ⟨rfl,.inl ⟨HG.out,rfl⟩⟩
  · obtain ⟨g,n1,cv,Pa,A7,m7,c7,Pb,rfl,hn1,hnc,hcm,rfl,hpa,hB7,hdv,c0,x1,x2,fz⟩:=h.mid
    have hin:(A0.length:Int)<(n1:Int):=by rw [hn1];simp only [List.length_append,List.length_cons];omega
    have hnc':(n1:Int)≤(cv:Int):=by omega
    obtain ⟨i,hii⟩:∃ i,i=A0.length:=⟨_,rfl⟩
    rw [← hii] at hi x1 hin
    have hge:¬ ((i:Int)<0):=by omega
    have HI:=hid hi
    have HG:=hid hg
    have HB7:=hid hB7
    clear h hL hi hg hdv hB7 hpa hn1 fz x2 hii hno
    go_enter Tryz.func27,Tryz.ntmps27
    go_wp2_with (fail)
    refine (rkFind H.out nm (by have:=HL.out;omega)).mono ?_
    rw [HI.out]
    rintro e w1 ⟨rfl,rfl⟩
    go_wp2_with (fail)
    refine bodyPost_ret (v:=.tuple #[.slice A7 m7 c7,.bool true]) (results_two Tryz.results27 _ _ _) rfl ?_
    exact ⟨rfl,.inr ⟨f,A7,m7,c7,HG.out,rfl,HB7.out⟩⟩
end
section
variable {w w':World} {B C D M G:Nat} {E:Nat→Prop} {r:Rk} {L:Fs} {v:Value} {P:List Value} {d:Dk} {fs:Fs} {F:List Ent}
theorem RkAt.fresh (w:World) (n:Int) (hC:C≤w.heap.size):RkAt (w.alloc (.cells #[.slice none 0 0,.int .i64 n,.int .i64 0,.int .i64 0,.int .i64 0,.int .i64 0] TRD)) C w.heap.size E ⟨n,0,0,0,0⟩ [] (.slice none 0 0) [] :=
  ⟨hC,heap_alloc_new w _,rfl,World.ownsRow_nil _ _ _ 3,fun i e d h=>by simp at h⟩
end
theorem apart_tyR {w:World} {B G X:Nat} {E:Nat→Prop} {r:Rk} {L:Fs} {v:Value} {P:List Value} {cur:Array Value} {t:TypeId} {fz:Nat × Nat} (hr:RkAt w B G E r L v P) (hx:w.heap[X]?=some (.cells cur t fz)) (h1:t≠TRD) (h2:t≠TRF):¬ RF G v X:=by
  intro hk
  rcases hk with rfl|hk
  · rw [hr.row] at hx
    simp only [Option.some.injEq,Obj.cells.injEq] at hx
    exact h1 hx.2.1.symm
  · obtain ⟨cur',hc'⟩:=own3_ty hr.own X hk
    rw [hc'] at hx
    simp only [Option.some.injEq,Obj.cells.injEq] at hx
    exact h2 hx.2.1.symm
section
variable {w:World} {B G:Nat} {E:Nat→Prop} {r:Rk} {L:Fs} {v:Value} {P:List Value}
end
end
section
open Go.RowKit Go.MapKept
abbrev TR14:TypeId:=93
abbrev pH (H:Nat):Value:=.pointer (some ⟨H,0,none⟩)
abbrev rlCells (G:Nat) (nm:ByteArray) (v:Value) (g:Nat):Array Value:=#[pR G,.string nm,v,.int .i64 (g:Int)]
abbrev RL (H:Nat) (v:Value):Nat→Prop:=fun k=>k=H∨v.ownBlock=some k
structure RlAt (T:Nat→Prop) (w:World) (B H G:Nat) (nm:ByteArray) (rs:List (List UInt8)) (g:Nat) (v:Value):Prop where
  row:w.heap[H]?=some (.cells (rlCells G nm v g) TR14)
  base:B≤H
  off:¬ T H
  rw:Rw B (fun k=>k=H∨T k) w v rs
section
variable {T T' S O E:Nat→Prop} {w w':World} {B H G g:Nat} {nm:ByteArray} {rs:List (List UInt8)} {v vh:Value} {r:Rk} {L:Fs} {P:List Value} {d:Dk} {fs:Fs}
theorem RlAt.lt (h:RlAt T w B H G nm rs g v):H<w.heap.size:=(Array.getElem?_eq_some_iff.1 h.row).1
theorem RlAt.cell (h:RlAt T w B H G nm rs g v) (j:Nat):w.cell? ⟨H,j,none⟩=(rlCells G nm v g)[j]?:=cell_of_row w H j _ _ _ h.row
theorem RlAt.frozen (h:RlAt T w B H G nm rs g v) (j:Nat):w.frozen? ⟨H,j,none⟩=false:=by simp [World.frozen?,h.row]
theorem RlAt.ch (h:RlAt T w B H G nm rs g v) (c:Ch S w w') (hS:∀ k,k<w.heap.size→S k→T k) (hT:∀ k,k<w.heap.size→T' k→T k):RlAt T' w' B H G nm rs g v :=
  ⟨c.row h.row (fun hs=>h.off (hS H h.lt hs)),h.base,fun ht=>h.off (hT H h.lt ht),h.rw.ch c (fun k hk hs=>.inr (hS k hk hs)) (fun k hk ht=>ht.imp id (hT k hk))⟩
theorem RlAt.below (h:RlAt T w B H G nm rs g v) (hb:Below w.heap.size w w'):RlAt T w' B H G nm rs g v :=
  h.ch (S:=fun _=>False) (Ch.of_below hb) (fun _ _ h=>h.elim) (fun _ _ h=>h)
theorem RlAt.foot_lt (h:RlAt T w B H G nm rs g v) {k:Nat} (hk:RL H v k):B≤k∧k<w.heap.size:=by
  rcases hk with rfl|hk
  · exact ⟨h.base,h.lt⟩
  · exact Rw.lt h.rw hk
theorem RlAt.notT (h:RlAt T w B H G nm rs g v) {k:Nat} (hk:RL H v k):¬ T k:=by
  rcases hk with rfl|hk
  · exact h.off
  · exact fun ht=>Rw.offT h.rw hk (.inr ht)
theorem RlAt.vne (h:RlAt T w B H G nm rs g v) {k:Nat} (hk:v.ownBlock=some k):k≠H:=fun e=>Rw.offT h.rw hk (.inl e)
theorem RkAt.next' (h:RkAt w B G E r L v P) (c:Ch S w w') (hS:∀ k,k<w.heap.size→S k→E k) (hG:∀ k,RF G v k→¬ S k) (hE:∀ k,k<w.heap.size→T k→E k):RkAt w' B G T r L v P :=
  ⟨h.hG,c.row h.row (hG G (.inl rfl)),h.len,own3_ch h.own c (fun k hk=>hG k (.inr hk)),fun i e d h1 h2=>by
    obtain ⟨A,m,q,rfl,hB,hx⟩:=h.dat i e d h1 h2
    refine ⟨A,m,q,rfl,hB.ch c (fun h0 b hb hs=>?_),fun a ha=>?_⟩
    · obtain ⟨b',o',e',hlt,_⟩:=hB.at_ h0
      rw [hb] at e';injection e' with e';subst e'
      exact (hx _ hb).resolve_left (by omega) (.inr (hS _ hlt hs))
    · by_cases h0:m=0
      · exact .inl h0
      · obtain ⟨b',o',e',hlt,_⟩:=hB.at_ (by omega)
        rw [ha] at e';injection e' with e';subst e'
        exact .inr (fun hy=>(hx _ ha).resolve_left h0 (hy.imp id (hE _ hlt)))⟩
def RBack (w:World) (B G:Nat) (E:Nat→Prop) (v:Value) (o:Out) (x:Ending) (w':World):Prop :=
  ∃ e gn r' L' v' P',x=.returned (.bool gn)∧Agree o.1 r' e gn∧Sim o.2.1 o.2.2 r' L'∧Step w B G E v w' r' L' v' P'
set_option maxRecDepth 100000 in
set_option maxHeartbeats 4000000 in
theorem refBack14 (hl:RlAt T w B H G nm rs g vh) (hr:RkAt w B G E r L v P) (hs:Sim d fs r L) (ok:FsOk d fs) (hL:L.length≤100000) (hE:∀ k,E k→k<w.heap.size) :
    Calls Tryz.prog 90 #[pH H] w (RBack w B G E v (opTrunc d fs nm (g:Int))):=by
  obtain ⟨S,hSd⟩:∃ S:World→Prop,∀ W,S W ↔ (W.cell? ⟨H,0,none⟩=some (pR G)∧W.cell? ⟨H,1,none⟩=some (.string nm)∧W.cell? ⟨H,3,none⟩=some (.int .i64 (g:Int))):=⟨_,fun _=>Iff.rfl⟩
  have c0:∀ n:Meets S,n.u.cell? ⟨H,0,none⟩=some (pR G):=fun n=>((hSd _).1 n.h).1
  have c1:∀ n:Meets S,n.u.cell? ⟨H,1,none⟩=some (.string nm):=fun n=>((hSd _).1 n.h).2.1
  have c3:∀ n:Meets S,n.u.cell? ⟨H,3,none⟩=some (.int .i64 (g:Int)):=fun n=>((hSd _).1 n.h).2.2
  have HT:Hid (∀ W,Below w.heap.size w W→Calls Tryz.prog 46 #[pR G,.string nm,.int .i64 (g:Int)] W (RM W B G E v (opTrunc d fs nm (g:Int)))):=hid (fun W hb=>rkTrunc (hr.below hb) hs ok nm g hL (fun k hk=>Nat.lt_of_lt_of_le (hE k hk) hb.size))
  have HS:=hid hSd
  have HL:=hid hl
  have HR:=hid hr
  clear hl hr hs ok hL hE hSd
  go_enter Tryz.func90,Tryz.ntmps90
  go_wp2_with (fail)
  refine region_plan S [([0,1,2,3,4,5,6,7,8,9,10,11],12)] [13,14,15,16,17] (by kernel_rfl) (by kernel_rfl) (fun _ _ _ _ _ h=>h) ((HS.out _).2 ⟨HL.out.cell 0,HL.out.cell 1,HL.out.cell 3⟩) (fun hne=>?_)
  simp only [wpPlan,pick,List.getElem?_cons_zero,List.getElem?_cons_succ,Option.elim]
  repeat (go_big_quiet_step (fail))
  refine wpQuiet_nil ?_
  intro K hK
  go_simp
  refine (HT.out _ (Below.refl _ _).drew).mono ?_
  intro x w2 hx
  obtain ⟨e,gn,r',L',v',P',rfl,ha,hs2,hst⟩:=hx.step
  have hrow:w2.heap[H]?=some (.cells (rlCells G nm vh g) TR14):=hst.ch.row (w:=w.drew) HL.out.row (apart_tyR HR.out HL.out.row (by decide) (by decide))
  have HF:Hid (RBack w B G E v (opTrunc d fs nm (g:Int)) (.returned (.bool gn)) w2):=hid ⟨e,gn,r',L',v',P',rfl,ha,hs2,(Step.refl HR.out).below (Below.refl _ _).drew |>.trans hst⟩
  clear hx ha hs2 hst
  dsimp only
  refine hK.out _ _ ((HS.out _).2 ⟨cell_of_row w2 H 0 _ _ _ hrow,cell_of_row w2 H 1 _ _ _ hrow,cell_of_row w2 H 3 _ _ _ hrow⟩) (fun _=>?_)
  clear hK K
  repeat (go_big_quiet_step (fail))
  refine wpQuiet_nil ?_
  clear c0 c1 c3
  go_wp2_with (fail)
  go_ret
  exact HF.out
def RAdd (O:Nat→Prop) (w:World) (B H G:Nat) (nm:ByteArray) (rs:List (List UInt8)) (g:Nat) (v vh:Value) (l:List UInt8) (o:Out) (x:Ending) (w':World):Prop :=
  ∃ e gn r' L' v' P' vh',x=ret2 e gn∧Agree o.1 r' e gn∧Sim o.2.1 o.2.2 r' L'∧RkAt w' B G (fun k=>O k∨RL H vh' k) r' L' v' P' ∧
    RlAt (fun k=>O k∨RF G v' k) w' B H G nm (if o.1=.inl 0 then rs++[l] else rs) (if o.1=.inl 0 then g+(record l).length else g) vh' ∧
    Ch (fun k=>RF G v k∨RL H vh k) w w'∧(∀ k,RF G v' k∨RL H vh' k→(RF G v k∨RL H vh k)∨w.heap.size≤k)
theorem RlAt.step {w2:World} {r2:Rk} {L2:Fs} {v2:Value} {P2:List Value} (hl:RlAt (fun k=>O k∨RF G v k) w B H G nm rs g vh) (h:Step w B G E v w2 r2 L2 v2 P2):RlAt (fun k=>O k∨RF G v2 k) w2 B H G nm rs g vh :=
  hl.ch h.ch (fun _ _ hk=>.inr hk) (fun k hk ht=>ht.imp id (fun h1=>by
    rcases h1 with rfl|h1
    · exact .inl rfl
    · exact (h.own k h1).elim .inr (fun h2=>absurd hk (Nat.not_lt.2 h2))))
theorem RAdd.same {w':World} {o:Out} {e:Int} {gn:Bool} {r':Rk} {L':Fs} {v':Value} {P':List Value} {l:List UInt8} (h:Step w B G (fun k=>O k∨RL H vh k) v w' r' L' v' P') (hl:RlAt (fun k=>O k∨RF G v' k) w' B H G nm rs g vh) (ha:Agree o.1 r' e gn) (hs:Sim o.2.1 o.2.2 r' L') (hne:o.1≠.inl 0) :
    RAdd O w B H G nm rs g v vh l o (ret2 e gn) w' :=
  ⟨e,gn,r',L',v',P',vh,rfl,ha,hs,h.at_,by rw [if_neg hne,if_neg hne];exact hl,h.ch.wide (fun _ hk=>.inl hk),fun k hk=>by
    rcases hk with (rfl|hk)|hk
    · exact .inl (.inl (.inl rfl))
    · exact (h.own k hk).elim (fun h1=>.inl (.inl (.inr h1))) .inr
    · exact .inl (.inr hk)⟩
theorem Agree.undo {o:Out} {x e:Int} {gn:Bool} (ha:Agree o.1 r e gn):Agree (undo_ x o).1 r x gn:=by
  obtain ⟨y|op,s⟩:=o
  · rcases ha with ⟨_,_,_,h3⟩|⟨_,h1,_,_⟩
    · exact .inl ⟨x,rfl,rfl,h3⟩
    · cases h1
  · rcases ha with ⟨_,h1,_,_⟩|⟨op',h1,h2,h3⟩
    · cases h1
    · exact .inr ⟨op',h1,h2,h3⟩
theorem RAdd.undo {w2 w3:World} {r2:Rk} {L2:Fs} {v2:Value} {P2:List Value} {o:Out} {x:Int} {y:Ending} {l:List UInt8} (hx:x≠0) (h:Step w B G (fun k=>O k∨RL H vh k) v w2 r2 L2 v2 P2) (hl:RlAt (fun k=>O k∨RF G v2 k) w2 B H G nm rs g vh) (hb:RBack w2 B G (fun k=>O k∨RL H vh k) v2 o y w3) :
    ∃ gn,y=.returned (.bool gn)∧RAdd O w B H G nm rs g v vh l (undo_ x o) (ret2 x gn) w3:=by
  obtain ⟨e,gn,r',L',v',P',rfl,ha,hs,hst⟩:=hb
  refine ⟨gn,rfl,RAdd.same (h.trans hst) (hl.step hst) ha.undo (by obtain ⟨y | op,s⟩:=o <;> exact hs) (fun e=>?_)⟩
  obtain ⟨y|op,s⟩:=o
  · injection e with e;exact hx e
  · cases e
structure Both (O:Nat→Prop) (w:World) (B H G:Nat) (nm:ByteArray) (v vh:Value) (w':World) (r':Rk) (L':Fs) (v':Value) (P':List Value) (rs:List (List UInt8)) (g:Nat) (vh':Value):Prop where
  rk:RkAt w' B G (fun k=>O k∨RL H vh' k) r' L' v' P'
  rl:RlAt (fun k=>O k∨RF G v' k) w' B H G nm rs g vh'
  ch:Ch (fun k=>RF G v k∨RL H vh k) w w'
  own:∀ k,RF G v' k∨RL H vh' k→(RF G v k∨RL H vh k)∨w.heap.size≤k
theorem Both.of {w':World} {r':Rk} {L':Fs} {v':Value} {P':List Value} (h:Step w B G (fun k=>O k∨RL H vh k) v w' r' L' v' P') (hl:RlAt (fun k=>O k∨RF G v' k) w' B H G nm rs g vh):Both O w B H G nm v vh w' r' L' v' P' rs g vh :=
  ⟨h.at_,hl,h.ch.wide (fun _ hk=>.inl hk),fun k hk=>by
    rcases hk with (rfl|hk)|hk
    · exact .inl (.inl (.inl rfl))
    · exact (h.own k hk).elim (fun h1=>.inl (.inl (.inr h1))) .inr
    · exact .inl (.inr hk)⟩
theorem Both.below {w' w2:World} {r':Rk} {L':Fs} {v' vh':Value} {P':List Value} (h:Both O w B H G nm v vh w' r' L' v' P' rs g vh') (hb:Below w'.heap.size w' w2):Both O w B H G nm v vh w2 r' L' v' P' rs g vh' :=
  ⟨h.rk.below hb,h.rl.below hb,h.ch.trans (Ch.of_below (S:=fun _=>False) hb) (fun _ _ h=>h.elim),h.own⟩
theorem Both.app {w' w8:World} {r':Rk} {L':Fs} {v' vh' v8:Value} {P':List Value} {Z:List (List UInt8)} (h:Both O w B H G nm v vh w' r' L' v' P' rs g vh') (hw:Rw B (fun k=>k=H∨(O k∨RF G v' k)) w8 v8 Z) (hc:Ch (fun k=>vh'.ownBlock=some k) w' w8) (hf:v8.ownBlock=vh'.ownBlock∨v8.ownBlock=some w'.heap.size) :
    Both O w B H G nm v vh (w8.setCell ⟨H,2,none⟩ v8) r' L' v' P' Z g v8:=by
  have hr8:=hc.row h.rl.row (fun e=>h.rl.vne e rfl)
  have hcs:Ch (At1 H) w8 (w8.setCell ⟨H,2,none⟩ v8):=(Ch.refl _ w8).set1 2 _
  have hall:Ch (fun k=>RL H vh' k) w' (w8.setCell ⟨H,2,none⟩ v8):=(hc.wide (fun _ hk=>.inr hk)).trans hcs (fun k _ hk=>.inl hk)
  have hnew:∀ k,RL H v8 k→RL H vh' k∨w'.heap.size≤k:=fun k hk=>by
    rcases hk with rfl|hk
    · exact .inl (.inl rfl)
    · rcases hf with e|e
      · exact .inl (.inr (by rw [← e];exact hk))
      · rw [e] at hk;injection hk with hk;exact .inr (by omega)
  refine ⟨h.rk.next' hall (fun _ _ hk=>.inr hk) (fun k hk hs=>h.rl.notT hs (.inr hk)) (fun k hk ht=>ht.imp id (fun h1=>(hnew k h1).elim id (fun h2=>by omega))),⟨heap_set_row hr8 v8,h.rl.base,h.rl.off,hw.ch hcs (fun k _ hk=>.inl hk) (fun _ _ hk=>hk)⟩,h.ch.trans hall (fun k hk hs=>?_),fun k hk=>?_⟩
  · rcases h.own k (.inr hs) with h1|h1
    · exact h1
    · omega
  · rcases hk with hk|hk
    · exact h.own k (.inl hk)
    · rcases hnew k hk with h1|h1
      · exact h.own k (.inr h1)
      · exact .inr (Nat.le_trans h.ch.size h1)
theorem Both.good {w':World} {r':Rk} {L':Fs} {v' vh':Value} {P':List Value} (h:Both O w B H G nm v vh w' r' L' v' P' rs g vh') (k:Nat):Both O w B H G nm v vh (w'.setCell ⟨H,3,none⟩ (.int .i64 (k:Int))) r' L' v' P' rs k vh':=by
  have hcs:Ch (At1 H) w' (w'.setCell ⟨H,3,none⟩ (.int .i64 (k:Int))):=(Ch.refl _ w').set1 3 _
  refine ⟨h.rk.next' (hcs.wide (S':=fun k=>RL H vh' k) (fun _ hk=>.inl hk)) (fun _ _ hk=>.inr hk) (fun k hk hs=>h.rl.notT hs (.inr hk)) (fun _ _ ht=>ht),⟨heap_set_row h.rl.row _,h.rl.base,h.rl.off,h.rl.rw.ch hcs (fun k _ hk=>.inl hk) (fun _ _ hk=>hk)⟩,h.ch.trans (hcs.wide (S':=fun k=>RL H vh' k) (fun _ hk=>.inl hk)) (fun k hk hs=>?_),h.own⟩
  rcases h.own k (.inr hs) with h1|h1
  · exact h1
  · omega
set_option maxRecDepth 100000 in
set_option maxHeartbeats 8000000 in
theorem refAdd14 (hl:RlAt (fun k=>O k∨RF G v k) w B H G nm rs g vh) (hr:RkAt w B G (fun k=>O k∨RL H vh k) r L v P) (hs:Sim d fs r L) (ok:FsOk d fs) (ho:d.ops+8≤1152921504606846976) (hL:L.length≤10000) (hE:∀ k,O k→k<w.heap.size) (hB:B≤w.heap.size) (hz:nm.size≤140737488355328)
    (A:Option Addr) (c:Nat) (l:List UInt8) (hA:Bs w A l.length c l) (hoff:0<l.length→∀ b,A=some b→¬ RF G v b.block∧¬ RL H vh b.block) (hg:g≤1099511000000) (hn:rs.length≤1099511627770) :
    Calls Tryz.prog 57 #[pH H,.slice A l.length c] w (RAdd O w B H G nm rs g v vh l (addD d fs nm g l)):=by
  obtain ⟨S,hSd⟩:∃ S:World→Prop,∀ W,S W ↔ (W.cell? ⟨H,0,none⟩=some (pR G)∧W.cell? ⟨H,1,none⟩=some (.string nm)):=⟨_,fun _=>Iff.rfl⟩
  have c0:∀ n:Meets S,n.u.cell? ⟨H,0,none⟩=some (pR G):=fun n=>((hSd _).1 n.h).1
  have c1:∀ n:Meets S,n.u.cell? ⟨H,1,none⟩=some (.string nm):=fun n=>((hSd _).1 n.h).2
  have HS:=hid hSd
  have HL:=hid hl
  have HR:=hid hr
  have HSI:=hid hs
  have HOK:=hid ok
  have HO:=hid ho
  have HLL:=hid hL
  have HA:=hid hA
  have HOFF:=hid hoff
  have HG:=hid hg
  have HN:=hid hn
  have HE:=hid hE
  have HB:=hid hB
  have HHL:=hid hl.lt
  clear hl hr hs ok ho hL hA hoff hg hn hE hB hSd
  by_cases hk:okLen l.length=false
  · have hbad:l.length<1∨65536<l.length:=by
      by_cases h1:l.length<1
      · exact .inl h1
      · refine .inr ?_
        by_cases h2:65536<l.length
        · exact h2
        · exact absurd hk (by simp [okLen];omega)
    have HAD:Hid (addD d fs nm g l=(.inl 9,d,fs)):=hid (if_neg (by rw [hk];decide))
    have HF:Hid (RAdd O w B H G nm rs g v vh l (addD d fs nm g l) (ret2 9 false) w):=hid (by
      rw [HAD.out]
      exact ⟨9,false,r,L,v,P,vh,rfl,.inl ⟨9,rfl,rfl,rfl⟩,HSI.out,HR.out,by rw [if_neg (by intro e;injection e with e;exact absurd e (by decide)),if_neg (by intro e;injection e with e;exact absurd e (by decide))];exact HL.out,Ch.refl _ _,fun k hk=>.inl hk⟩)
    obtain ⟨n,hn⟩:∃ n,n=l.length:=⟨_,rfl⟩
    rw [← hn] at hbad ⊢
    clear hn hk c0 c1
    rcases hbad with h1|h1
    · go_enter Tryz.func57,Tryz.ntmps57
      go_wp2_with (fail)
      refine bodyPost_ret (v:=.tuple #[.int .i64 9,.bool false]) (results_two Tryz.results57 _ _ _) rfl ?_
      exact HF.out
    · have h0:¬ n<1:=by omega
      go_enter Tryz.func57,Tryz.ntmps57
      go_wp2_with (fail)
      refine bodyPost_ret (v:=.tuple #[.int .i64 9,.bool false]) (results_two Tryz.results57 _ _ _) rfl ?_
      exact HF.out
  have hk:okLen l.length=true:=by simpa using hk
  have hlen:=okLen_yes hk
  have HM:Hid (l.length≤1000000):=hid (by omega)
  obtain ⟨n,hn⟩:∃ n,n=l.length:=⟨_,rfl⟩
  have HNL:=hid hn
  rw [← hn] at hlen HA HM HOFF ⊢
  have h1:¬ n<1:=by omega
  have h2:¬ 65536<n:=by omega
  have HAD:Hid (addD d fs nm g l=addA nm g (record l).length (appO d fs nm (record l))):=hid (if_pos hk)
  obtain ⟨R,hR⟩:∃ R,R=record l:=⟨_,rfl⟩
  have HRR:=hid hR
  have HRL:Hid (R.length≤65544):=hid (by rw [hR,record_length,← hn];omega)
  clear hk hn hR hlen
  go_enter Tryz.func57,Tryz.ntmps57
  go_wp2_with (fail)
  refine (refPut13F A n c l w HA.out (by have:=HM.out;omega)).mono ?_
  rw [← HRR.out] at HAD ⊢
  rintro e w1 ⟨A1,c1',rfl,hB1,hb1,hf1⟩
  have HB1:=hid hb1
  have HBS1:=hid hB1
  have HF1:=hid hf1
  clear hb1 hB1 hf1
  obtain ⟨m,hm⟩:∃ m,m=R.length:=⟨_,rfl⟩
  have HMM:=hid hm
  rw [← hm] at HRL HBS1 HAD ⊢
  clear hm
  go_wp2_with (fail)
  refine region_plan S [([0,1,2,3,4,5,6,7,8],9)] [10,11,12,13,14,15,16] (by kernel_rfl) (by kernel_rfl) (fun _ _ _ _ _ h=>h) ((HS.out _).2 ⟨(HL.out.below HB1.out).cell 0,(HL.out.below HB1.out).cell 1⟩) (fun hne=>?_)
  simp only [wpPlan,pick,List.getElem?_cons_zero,List.getElem?_cons_succ,Option.elim]
  repeat (go_big_quiet_step (fail))
  refine wpQuiet_nil ?_
  intro K hK
  go_simp
  have HRA:Hid (Calls Tryz.prog 89 #[pR G,.string nm,.slice A1 m c1'] w1.drew (RA w1.drew B G (fun k=>O k∨RL H vh k) v (appO d fs nm R))):=hid (by
    have hb1:=HB1.out.trans ((Below.refl _ w1).drew.mono HB1.out.size)
    refine rkApp (HR.out.below hb1) HSI.out HOK.out nm hz A1 m c1' R ⟨A1,m,c1',rfl,HBS1.out.below (Below.refl _ w1).drew,fun a ha=>.inr (fun hk=>?_)⟩ (by have:=HRL.out;omega) (by have:=HLL.out;omega) (Nat.le_trans HB.out hb1.size) (fun k hk=>?_)
    · have h1:=HF1.out a ha
      have h2:=(HR.out.foot_lt hk).2
      omega
    · refine Nat.lt_of_lt_of_le ?_ hb1.size
      rcases hk with hk|hk
      · exact HE.out k hk
      · exact (HL.out.foot_lt hk).2)
  refine HRA.out.mono ?_
  intro x w2 hx
  have hb0:Below w.heap.size w w1.drew:=HB1.out.trans ((Below.refl _ w1).drew.mono HB1.out.size)
  obtain ⟨e2,gn,r2,L2,v2,P2,hst,rest⟩:∃ e2 gn r2 L2 v2 P2,Step w B G (fun k=>O k∨RL H vh k) v w2 r2 L2 v2 P2∧∃ n2,x=ret3 n2 e2 gn∧Agree (appO d fs nm R).1.2 r2 e2 gn∧(gn=false→n2=(appO d fs nm R).1.1)∧Sim (appO d fs nm R).2.1 (appO d fs nm R).2.2 r2 L2:=by
    obtain ⟨n2,e2,gn,r2,L2,v2,P2,hx,h1,h2,h3,h4⟩:=hx.step
    exact ⟨e2,gn,r2,L2,v2,P2,((Step.refl HR.out).below hb0).trans h4,n2,hx,h1,h2,h3⟩
  obtain ⟨n2,rfl,hag,hn2,hs2⟩:=rest
  have HL2:=hid (HL.out.step hst)
  have HAO:=hid (app_okW HOK.out (by have:=HO.out;omega) nm R)
  have HAP:=hid (app_opsW d fs nm R)
  have HAN:=hid (app_numW d fs nm R)
  have HAL:=hid (app_len d fs nm R)
  have HST2:=hid hst
  have HS2:=hid hs2
  have HAG:=hid hag
  have HN2:=hid hn2
  clear hst hag hn2 hs2 hx HRA hb0
  dsimp only
  refine hK.out _ _ ((HS.out _).2 ⟨HL2.out.cell 0,HL2.out.cell 1⟩) (fun _=>?_)
  clear hK K
  repeat (go_big_quiet_step (fail))
  refine wpQuiet_nil ?_
  clear hne
  generalize appO d fs nm R=q at *
  obtain ⟨⟨nq,y|op⟩,d2,fs2⟩:=q
  · obtain rfl:gn=false:=by
      rcases HAG.out with ⟨_,_,_,h3⟩|⟨_,h1,_,_⟩
      · exact h3
      · cases h1
    obtain ⟨k,rfl⟩:∃ k:Nat,nq=(k:Int):=HAN.out
    obtain rfl:n2=(k:Int):=HN2.out rfl
    have OK2:Hid (FsOk d2 fs2):=hid HAO.out
    have HP2:Hid (d2.ops≤d.ops+1):=hid HAP.out
    have HS3:Hid (Sim d2 fs2 r2 L2):=hid HS2.out
    have HLF:Hid (L2.length≤10001):=hid (by have h1:=HS3.out.perm.length_eq;have h2:=HAL.out;have h3:=HSI.out.perm.length_eq;have h4:=HLL.out;simp only at h2;omega)
    have HAE:Hid (addA nm g m (((k:Int),.inl y),d2,fs2)=if (k:Int)<(m:Int) then undo_ 4 (opTrunc d2 fs2 nm (g:Int)) else addS nm g (opSync d2 fs2 nm)):=hid rfl
    have HE2:Hid (∀ q,O q∨RL H vh q→q<w2.heap.size):=hid (fun q hq=>by
      rcases hq with hq|hq
      · exact Nat.lt_of_lt_of_le (HE.out q hq) HST2.out.ch.size
      · exact (HL2.out.foot_lt hq).2)
    clear HS2 HAO HAP HAN HN2 HAG
    by_cases hlt:k<m
    · have e1:decide (k<m)=true:=by simpa using hlt
      have e2:(k:Int)<(m:Int):=by omega
      have HAF:Hid (addD d fs nm g l=undo_ 4 (opTrunc d2 fs2 nm (g:Int))):=hid (by rw [HAD.out,HAE.out,if_pos e2])
      clear hlt e2 HAE c0 c1
      go_wp2_with (fail)
      refine (refBack14 HL2.out HST2.out.at_ HS3.out OK2.out (by have:=HLF.out;omega) HE2.out).mono ?_
      intro y2 w3 hb
      obtain ⟨gn,rfl,hR⟩:=RAdd.undo (x:=4) (l:=l) (by decide) HST2.out HL2.out hb
      have HF:=hid hR
      clear hb hR
      go_wp2_with (fail)
      refine bodyPost_ret (v:=.tuple #[.int .i64 4,.bool gn]) (results_two Tryz.results57 _ _ _) rfl ?_
      rw [HAF.out]
      exact HF.out
    · have e1:decide (k<m)=false:=by simpa using hlt
      have e2:¬ (k:Int)<(m:Int):=by omega
      have HAF:Hid (addD d fs nm g l=addS nm g (opSync d2 fs2 nm)):=hid (by rw [HAD.out,HAE.out,if_neg e2])
      clear hlt HAE
      go_wp2_with (fail)
      refine region_plan S [([0,1,2,3,4,5,6,7],8)] [9,10,11,12,13] (by kernel_rfl) (by kernel_rfl) (fun _ _ _ _ _ h=>h) ((HS.out _).2 ⟨HL2.out.cell 0,HL2.out.cell 1⟩) (fun hne=>?_)
      simp only [wpPlan,pick,List.getElem?_cons_zero,List.getElem?_cons_succ,Option.elim]
      repeat (go_big_quiet_step (fail))
      refine wpQuiet_nil ?_
      intro K hK
      go_simp
      have hb3:Below w2.heap.size w2 w2.drew:=(Below.refl _ w2).drew
      refine (rkSync (HST2.out.at_.below hb3) HS3.out OK2.out nm (by have:=HLF.out;omega)).mono ?_
      intro x w3 hx
      obtain ⟨e3,g3,r3,L3,v3,P3,rfl,hag,hs3,hst⟩:=hx.step
      have HST3:=hid ((HST2.out.below hb3).trans hst)
      have HL3:=hid ((HL2.out.below hb3).step hst)
      have HS3':=hid hs3
      have HAG:=hid hag
      have OK3:=hid (sync_ok OK2.out (by have:=HO.out;have:=HP2.out;omega) nm)
      have HAL3:=hid (sync_len d2 fs2 nm)
      clear hx hag hs3 hst hb3
      dsimp only
      refine hK.out _ _ ((HS.out _).2 ⟨HL3.out.cell 0,HL3.out.cell 1⟩) (fun _=>?_)
      clear hK K c0 c1
      repeat (go_big_quiet_step (fail))
      refine wpQuiet_nil ?_
      clear hne
      generalize opSync d2 fs2 nm=q at *
      obtain ⟨x|op,d3,fs3⟩:=q
      · obtain ⟨rfl,rfl⟩:g3=false∧e3=x:=by
          rcases HAG.out with ⟨z,h1,h2,h3⟩|⟨_,h1,_⟩
          · injection h1 with h1;exact ⟨h3,by rw [h2,h1]⟩
          · cases h1
        have HS4:Hid (Sim d3 fs3 r3 L3):=hid HS3'.out
        have OK4:Hid (FsOk d3 fs3):=hid OK3.out
        clear OK3 HS3' HAG
        have HAH:Hid (addD d fs nm g l=if e3=0 then (.inl 0,(d3,fs3)) else undo_ 5 (opTrunc d3 fs3 nm (g:Int))):=hid HAF.out
        by_cases hx:e3=0
        · subst hx
          have HAI:Hid (addD d fs nm g l=((.inl 0,(d3,fs3)):Out)):=hid (by rw [HAH.out,if_pos rfl])
          clear HAH HAF
          go_wp2_with (fail)
          obtain ⟨Av,cv,rfl⟩:=HL3.out.rw.form
          have cA:w3.drew.cell? ⟨H,2,none⟩=some (.slice Av rs.length cv):=HL3.out.cell 2
          have hb5:Below w3.heap.size w3 w3.drew:=(Below.refl _ w3).drew
          have H5:=hid (HL3.out.below hb5)
          have R5:=hid (HST3.out.below hb5)
          obtain ⟨T,hT⟩:∃ T:Nat→Prop,T=fun k=>k=H∨(O k∨RF G v3 k):=⟨_,rfl⟩
          have HRW5:Hid (Rw B T w3.drew (.slice Av rs.length cv) rs):=hid (by rw [hT];exact H5.out.rw)
          have HTL:Hid (∀ q,T q→q<w3.drew.heap.size):=hid (fun q hq=>by
            rw [hT] at hq
            rcases hq with rfl|hq|hq
            · exact H5.out.lt
            · exact Nat.lt_of_lt_of_le (HE.out q hq) R5.out.ch.size
            · exact (R5.out.at_.foot_lt hq).2)
          have HTT:=hid hT
          have HB5:Hid (Bs (w3.alloc (.cells #[] 5)).drew A n c l):=hid (by
            have h1:=HA.out.ch R5.out.ch (fun h0 b hb=>(HOFF.out (by have:=HNL.out;omega) b hb).1)
            exact h1.alloc _)
          have HOW:Hid (Own 5 (w3.alloc (.cells #[] 5)).drew w3.heap.size (.slice (some ⟨w3.heap.size,0,none⟩) 0 0) []):=hid (Own.lit 5 w3.drew [] (Nat.le_refl _) (by simp [maxLen]))
          have HBW5:Hid (B≤w3.drew.heap.size):=hid (Nat.le_trans HB.out R5.out.ch.size)
          have cB:∀ o,(w3.alloc o).drew.cell? ⟨H,2,none⟩=some (.slice Av rs.length cv):=fun o=>(H5.out.below ((Below.refl _ w3.drew).alloc (Nat.le_refl _) o)).cell 2
          obtain ⟨Z,hZ⟩:∃ Z,Z=rs++[l]:=⟨_,rfl⟩
          have HZ:=hid hZ
          have hnl:l.length=n:=HNL.out.symm
          have tok1:Hid True:=hid trivial
          have tok2:Hid True:=hid trivial
          clear hb5 hT hZ
          go_region_law (first
            | (have _t:=tok1;refine step_app rfl (.tmp 67) (.tmp 68) rfl w3.heap.size _ [] rfl HOW.out A n c l rfl HB5.out (by have:=HM.out;simp;omega) (by simp) ?_;intro v6 w6 hown6 hb6 hg6;rw [List.nil_append] at hown6;obtain ⟨A6,c6,rfl,hB6,hf6⟩:=hown6.bs;rw [hnl] at hB6 ⊢;have HB6:Hid (Below w3.drew.heap.size w3.drew w6):=hid (((Below.refl _ w3.drew).alloc (Nat.le_refl _) (.cells #[] 5)).trans hb6);have HX6:=hid hB6;have HF6:=hid hf6;have H6:=hid (H5.out.below HB6.out);have HRW6:=hid (HRW5.out.below HB6.out);have cC:w6.cell? ⟨H,2,none⟩=some (.slice Av rs.length cv):=H6.out.cell 2;have cD:∀ o,(w6.alloc o).cell? ⟨H,2,none⟩=some (.slice Av rs.length cv):=fun o=>(H6.out.below ((Below.refl _ _).alloc (Nat.le_refl _) o)).cell 2;have HS7:=hid ((Below.refl w6.heap.size w6).alloc (Nat.le_refl _) (.cells #[.slice A6 n c6] 40));have HRW7:=hid (HRW6.out.below HS7.out);have HX7:Hid (Bs (w6.alloc (.cells #[.slice A6 n c6] 40)) A6 l.length c6 l):=hid (by rw [hnl];exact HX6.out.below HS7.out);have HROW:=hid (heap_alloc_new w6 (.cells #[.slice A6 n c6] 40));have HBW7:Hid (B≤(w6.alloc (.cells #[.slice A6 n c6] 40)).heap.size):=hid (Nat.le_trans HBW5.out (Nat.le_trans HB6.out.size HS7.out.size));have HLT:Hid (0<l.length→∀ b,A6=some b→¬ (Value.slice Av rs.length cv).ownBlock=some b.block∧¬ T b.block):=hid (fun _ b hb=>by have h1:w3.drew.heap.size≤b.block:=HF6.out b hb;exact ⟨fun e=>by have:=(HRW5.out.lt e).2;omega,fun e=>by have:=HTL.out _ e;omega⟩);have HTN:Hid (¬ T (w6.alloc (.cells #[.slice A6 n c6] 40)).heap.size):=hid (fun e=>by have h1:=HTL.out _ e;have h2:=HB6.out.size;simp only [World.size_alloc] at h1;omega);clear tok1 hown6 hb6 hg6 hB6 hf6 _t)
            | (have _t:=tok2;refine step_rwW rfl (.tmp 66) (.tmp 70) rfl B T (.slice Av rs.length cv) rs l A6 c6 rfl HRW7.out HX7.out HLT.out HTN.out w6.heap.size (by rw [show (Value.slice (some ⟨w6.heap.size,0,none⟩) 1 1)=_ from rfl];rfl) (by rw [hnl];exact HROW.out) HN.out HBW7.out ?_;intro v8 w8 hw8 hgr8 hfr8;rw [← HZ.out] at hw8;obtain ⟨A8,c8,rfl⟩:=hw8.form;have HW8:=hid hw8;have HC8:=hid (Ch.of_grown (S:=fun k=>(Value.slice Av rs.length cv).ownBlock=some k) hgr8 (fun k hk=>hk));have HFR8:=hid hfr8;have H8:Hid (w8.heap[H]?=some (.cells (rlCells G nm (.slice Av rs.length cv) g) TR14)):=hid (HC8.out.row (H6.out.below HS7.out).row (fun e=>H6.out.vne e rfl));have z1:w8.cell? ⟨H,2,none⟩=some (.slice Av rs.length cv):=cell_of_row w8 H 2 _ _ _ H8.out;have z2:w8.frozen? ⟨H,2,none⟩=false:=frz H8.out;clear tok2 hw8 hgr8 hfr8 _t))
          all_goals
            have HBO:Hid (Both O w B H G nm v (.slice Av rs.length cv) (w8.setCell ⟨H,2,none⟩ (.slice A8 Z.length c8)) r3 L3 v3 P3 Z g (.slice A8 Z.length c8)):=hid (((((Both.of R5.out H5.out).below HB6.out).below HS7.out).app (by rw [← HTT.out];exact HW8.out) HC8.out HFR8.out))
            clear z1 z2 cA cB cC cD HW8 HC8 HFR8 H8 HTN HLT HBW7 HROW HX7 HRW7 HS7 HRW6 H6 HF6 HX6 HB6 HOW HB5 HBW5 HTL HRW5 R5 H5
            generalize w8.setCell ⟨H,2,none⟩ (.slice A8 Z.length c8)=w9 at *
            have c3:w9.cell? ⟨H,3,none⟩=some (.int .i64 (g:Int)):=HBO.out.rl.cell 3
            have f3:=HBO.out.rl.frozen 3
            have ws:wrap64 ((g:Int)+(m:Int))=((g+m:Nat):Int):=by rw [IntWalk.wrap64_in _ (by have:=HG.out;have:=HRL.out;omega)];omega
            have ws2:IntKind.i64.wrap ((g:Int)+(m:Int))=((g+m:Nat):Int):=by rw [IntWalk.i64_in _ (by have:=HG.out;have:=HRL.out;omega)];omega
            obtain ⟨gg,hG⟩:∃ G,G=g+m:=⟨_,rfl⟩
            rw [← hG] at ws ws2
            have HGG:=hid hG
            clear hG
            go_wp2_with (fail)
            have HB9:=hid (HBO.out.good gg)
            have HF:Hid (RAdd O w B H G nm rs g v (.slice Av rs.length cv) l (addD d fs nm g l) (ret2 0 false) (w9.setCell ⟨H,3,none⟩ (.int .i64 (gg:Int)))):=hid (by
              rw [HAI.out]
              refine ⟨0,false,r3,L3,v3,P3,_,rfl,.inl ⟨0,rfl,rfl,rfl⟩,HS4.out,HB9.out.rk,?_,HB9.out.ch,HB9.out.own⟩
              rw [if_pos rfl,if_pos rfl,← HZ.out,← HRR.out,← HMM.out,← HGG.out]
              exact HB9.out.rl)
            clear c3 f3 ws ws2
            refine bodyPost_ret (v:=.tuple #[.int .i64 0,.bool false]) (results_two Tryz.results57 _ _ _) rfl ?_
            exact HF.out
        · have e5:(e3 != 0)=true:=by simpa using hx
          have HAI:Hid (addD d fs nm g l=undo_ 5 (opTrunc d3 fs3 nm (g:Int))):=hid (by rw [HAH.out,if_neg hx])
          have HE3:Hid (∀ q,O q∨RL H vh q→q<w3.heap.size):=hid (fun q hq=>by
            rcases hq with hq|hq
            · exact Nat.lt_of_lt_of_le (HE.out q hq) HST3.out.ch.size
            · exact (HL3.out.foot_lt hq).2)
          have HLF3:Hid (L3.length≤10002):=hid (by have h1:=HS4.out.perm.length_eq;have h2:=HAL3.out;have h3:=HS3.out.perm.length_eq;have h4:=HLF.out;simp only at h2;omega)
          clear hx HAH HAF
          go_wp2_with (fail)
          refine (refBack14 HL3.out HST3.out.at_ HS4.out OK4.out (by have:=HLF3.out;omega) HE3.out).mono ?_
          intro y2 w4 hb
          obtain ⟨gn,rfl,hR⟩:=RAdd.undo (x:=5) (l:=l) (by decide) HST3.out HL3.out hb
          have HF:=hid hR
          clear hb hR
          go_wp2_with (fail)
          refine bodyPost_ret (v:=.tuple #[.int .i64 5,.bool gn]) (results_two Tryz.results57 _ _ _) rfl ?_
          rw [HAI.out]
          exact HF.out
      · obtain ⟨op',h1,h2,rfl⟩:∃ op',(Sum.inr op:Int ⊕ Int)=.inr op'∧op'=r3.count∧g3=true:=by
          rcases HAG.out with ⟨_,h,_⟩|h
          · cases h
          · exact h
        have HF:Hid (RAdd O w B H G nm rs g v vh l (addD d fs nm g l) (ret2 0 true) w3):=hid (by
          rw [HAF.out]
          exact RAdd.same HST3.out HL3.out (.inr ⟨op',h1,h2,rfl⟩) HS3'.out (fun e=>by cases e))
        clear h1 h2
        go_wp2_with (fail)
        refine bodyPost_ret (v:=.tuple #[.int .i64 0,.bool true]) (results_two Tryz.results57 _ _ _) rfl ?_
        exact HF.out
  · obtain ⟨op',h1,h2,rfl⟩:∃ op',(Sum.inr op:Int ⊕ Int)=.inr op'∧op'=r2.count∧gn=true:=by
      rcases HAG.out with ⟨_,h,_⟩|h
      · cases h
      · exact h
    have HF:Hid (RAdd O w B H G nm rs g v vh l (addD d fs nm g l) (ret2 0 true) w2):=hid (by
      rw [HAD.out]
      exact RAdd.same HST2.out HL2.out (.inr ⟨op',h1,h2,rfl⟩) HS2.out (fun e=>by cases e))
    clear h1 h2 c0 c1
    go_wp2_with (fail)
    refine bodyPost_ret (v:=.tuple #[.int .i64 0,.bool true]) (results_two Tryz.results57 _ _ _) rfl ?_
    exact HF.out
end
end
end Go.Proofs.YtodjilljcjkacaaGreatDoor
