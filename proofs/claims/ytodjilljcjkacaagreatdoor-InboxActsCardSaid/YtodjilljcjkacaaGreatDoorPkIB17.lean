/- Laid together: In1, CutMath, Strs, Shelf, Sgn. -/
import Derived.Test.YtodjilljcjkacaaGreatDoorPkIB16
import Derived.Conc.LoneCalls
import Derived.Test.YtodjilljcjkacaaGreatDoorRows
import Derived.Lib.SplitLaws
import Derived.Lib.Join
import Derived.OwnWalk
import Derived.Shelf.Strings.Builder1
import Derived.Shelf.Small.Strs
import Derived.Shelf.Strings.BuilderF
import Derived.Shelf.Strings.BuilderK
import Derived.Shelf.Strings.Search1
import Derived.Shelf.Strings.BuilderCap
import Derived.Shelf.Bytes.SlIndexSmall
import Derived.Shelf.Bytes.SlIndexAt
import Derived.Shelf.Bytes.SlSearch0
import Derived.Shelf.Bytes.SlSearch1
import Derived.Shelf.Bytes.SlSearch2
import Derived.Shelf.Bytes.SlIndexWhole
import Derived.Shelf.LaysM
import Derived.Shelf.Bytes.SlEqualAll
import Derived.Ground.SlbtProg
import Derived.Shelf.Bytes.SlCut
import Derived.Shelf.Bytes.Small
import Derived.Shelf.Bytes.IndexByte
import Derived.Test.YtodjilljcjkacaaGreatDoorProg
import Derived.OpenShut

namespace Go.Proofs.YtodjilljcjkacaaGreatDoor
open Lib (hid)
section
open Go.RowKit Go.MapKept
abbrev nmI:ByteArray:=⟨#[108,111,103]⟩
abbrev TIB:TypeId:=99
abbrev pI (X:Nat):Value:=.pointer (some ⟨X,0,none⟩)
abbrev pQ (Q:Nat):Value:=.pointer (some ⟨Q,0,none⟩)
abbrev ibCells (Q L:Nat) (va:Value) (sn kp:Nat):Array Value:=#[pQ Q,pL L,va,.int .i64 (sn:Int),.int .i64 (kp:Int)]
structure IB (Z:Nat→Prop) (w:World) (B D M L Q X:Nat) (O:Option Nat) (d:Dk) (F:List Ent) (T:List (List UInt8)) (g:Nat) (v:Value) (most:Nat) (s:St) (va:Value) (an:List (List UInt8)) (sn kp:Nat):Prop where
  dk:DkAt w B D M d F
  lg:LgAt (fun k=>Z k∨k=X∨dS Q O k∨va.ownBlock=some k) w B L D M F nmI T g v
  df:Df B Q O most s w
  row:w.heap[X]?=some (.cells (ibCells Q L va sn kp) TIB)
  xb:B≤X
  an:Rw B (fun k=>Z k∨k=X∨dS Q O k∨WFoot L D M F v k) w va an
  ap:∀ k,dS Q O k→¬ WFoot L D M F v k
  zl:∀ k,Z k→k<w.heap.size∧k≠X∧¬ dS Q O k∧¬ LT L D M F k
def FI (L D M Q X:Nat) (O:Option Nat) (F:List Ent) (v va:Value) (k:Nat):Prop:=k=X∨dS Q O k∨WFoot L D M F v k∨va.ownBlock=some k
theorem Df.ty {B D most:Nat} {O:Option Nat} {s:St} {w:World} (h:Df B D O most s w) {k:Nat} (hk:dS D O k):∃ cur t fz,w.heap[k]?=some (.cells cur t fz)∧(t=146∨t=5):=by
  obtain ⟨fv,e,_,_,ho,hd⟩:=h
  rcases hk with rfl|hk
  · exact ⟨_,_,_,hd,.inl rfl⟩
  · rcases ho.2 with ⟨rfl,_⟩|⟨g,cap,cur,rfl,_,h2,_⟩
    · rw [← e] at hk;cases hk
    · rw [← e] at hk
      simp only [Value.ownBlock,Option.some.injEq] at hk
      subst hk
      exact ⟨_,_,_,h2,.inr rfl⟩
theorem Df.dlt {B D most:Nat} {O:Option Nat} {s:St} {w:World} (h:Df B D O most s w) {k:Nat} (hk:dS D O k):B≤k∧k<w.heap.size:=by
  rcases hk with rfl|hk
  · exact ⟨h.base,h.lt⟩
  · exact h.own k hk.symm
theorem row_ty {B:Nat} {T:Nat→Prop} {w:World} {v:Value} {L:List (List UInt8)} (h:Rw B T w v L) {k:Nat} (hk:v.ownBlock=some k):∃ cur,w.heap[k]?=some (.cells cur 40 (0,0)):=by
  obtain ⟨vs,hv⟩:=h
  rcases hv.2.1.2 with ⟨rfl,_⟩|⟨g,cap,cur,rfl,_,h2,_⟩
  · cases hk
  · simp only [Value.ownBlock,Option.some.injEq] at hk
    subst hk
    exact ⟨cur,h2⟩
theorem wfoot_ty {E:Nat→Prop} {w:World} {B L D M g:Nat} {d:Dk} {F:List Ent} {nm:ByteArray} {rs:List (List UInt8)} {v:Value} (h:LgAt E w B L D M F nm rs g v) (hd:DkAt w B D M d F) {X:Nat} {cur:Array Value} {t:TypeId} {fz:Nat × Nat} (hx:w.heap[X]?=some (.cells cur t fz))
    (h1:t≠118) (h2:t≠121) (h3:t≠5) (h4:t≠TL) (h5:t≠40):¬ WFoot L D M F v X:=by
  intro hk
  rcases hk with (rfl|hk)|hk
  · rw [h.row] at hx
    simp only [Option.some.injEq,Obj.cells.injEq] at hx
    exact h4 hx.2.1.symm
  · rcases hk with rfl|rfl|⟨e,he,rfl|hk⟩
    · rw [hd.row] at hx
      simp only [Option.some.injEq,Obj.cells.injEq] at hx
      exact h1 hx.2.1.symm
    · exact hd.map.ne hx rfl
    · rw [(hd.files e he).row] at hx
      simp only [Option.some.injEq,Obj.cells.injEq] at hx
      exact h2 hx.2.1.symm
    · have ho:=(hd.files e he).own
      rcases ho.2 with ⟨hn,_⟩|⟨g,cap,cur',hv,_,h6,_⟩
      · rw [hn] at hk;cases hk
      · rw [hv] at hk
        simp only [Value.ownBlock,Option.some.injEq] at hk
        subst hk
        rw [h6] at hx
        simp only [Option.some.injEq,Obj.cells.injEq] at hx
        exact h3 hx.2.1.symm
  · obtain ⟨cur',hc⟩:=row_ty h.rw hk
    rw [hc] at hx
    simp only [Option.some.injEq,Obj.cells.injEq] at hx
    exact h5 hx.2.1.symm
section
variable {Z Z' S:Nat→Prop} {w w':World} {B D M L Q X g sn kp most:Nat} {O O':Option Nat} {d d':Dk} {F F':List Ent} {T T':List (List UInt8)} {v v' va va':Value} {s s':St} {an an':List (List UInt8)}
theorem IB.lt (h:IB Z w B D M L Q X O d F T g v most s va an sn kp):X<w.heap.size:=(Array.getElem?_eq_some_iff.1 h.row).1
theorem IB.cell (h:IB Z w B D M L Q X O d F T g v most s va an sn kp) (j:Nat):w.cell? ⟨X,j,none⟩=(ibCells Q L va sn kp)[j]?:=cell_of_row w X j _ _ _ h.row
theorem IB.frozen (h:IB Z w B D M L Q X O d F T g v most s va an sn kp) (j:Nat):w.frozen? ⟨X,j,none⟩=false:=by simp [World.frozen?,h.row]
theorem IB.foot_lt (h:IB Z w B D M L Q X O d F T g v most s va an sn kp) {k:Nat} (hk:FI L D M Q X O F v va k):B≤k∧k<w.heap.size:=by
  rcases hk with rfl|hk|hk|hk
  · exact ⟨h.xb,h.lt⟩
  · exact h.df.dlt hk
  · exact h.lg.foot_lt h.dk hk
  · exact Rw.lt h.an hk
theorem IB.xw (h:IB Z w B D M L Q X O d F T g v most s va an sn kp):¬ WFoot L D M F v X:=wfoot_ty h.lg h.dk h.row (by decide) (by decide) (by decide) (by decide) (by decide)
theorem IB.xq (h:IB Z w B D M L Q X O d F T g v most s va an sn kp):¬ dS Q O X:=fun hk=>by
  obtain ⟨cur,t,fz,hc,ht⟩:=h.df.ty hk
  rw [h.row] at hc
  simp only [Option.some.injEq,Obj.cells.injEq] at hc
  rcases ht with rfl|rfl
  · exact absurd hc.2.1 (by decide)
  · exact absurd hc.2.1 (by decide)
theorem IB.va_off (h:IB Z w B D M L Q X O d F T g v most s va an sn kp) {k:Nat} (hk:va.ownBlock=some k):¬ (Z k∨k=X∨dS Q O k∨WFoot L D M F v k):=Rw.offT h.an hk
theorem IB.zf (h:IB Z w B D M L Q X O d F T g v most s va an sn kp) {k:Nat} (hz:Z k):¬ FI L D M Q X O F v va k:=fun hf=>by
  obtain ⟨h1,h2,h3,h4⟩:=h.zl k hz
  rcases hf with hf|hf|(hf|hf)|hf
  · exact h2 hf
  · exact h3 hf
  · exact h4 hf
  · exact Rw.offT h.lg.rw hf (.inr (.inl hz))
  · exact h.va_off hf (.inl hz)
theorem IB.log {T':List (List UInt8)} {g':Nat} (h:IB Z w B D M L Q X O d F T g v most s va an sn kp) (c:WlCh L D M F F' v v' w w') (hd:DkAt w' B D M d' F') (hl:LgAt (fun k=>Z k∨k=X∨dS Q O k∨va.ownBlock=some k) w' B L D M F' nmI T' g' v'):IB Z w' B D M L Q X O d' F' T' g' v' most s va an sn kp:=by
  have hf:∀ k,k<w.heap.size→WFoot L D M F' v' k→WFoot L D M F v k:=fun k hk hx=>(c.foot k hx).resolve_right (fun h1=>by omega)
  refine ⟨hd,hl,h.df.ch c.ch (h.ap Q (.inl rfl)) (fun k hk=>h.ap k (.inr hk.symm)),c.ch.row h.row h.xw,h.xb,h.an.ch c.ch (fun k _ hk=>.inr (.inr (.inr hk))) (fun k hk ht=>?_),fun k hk hw=>h.ap k hk (hf k (h.df.dlt hk).2 hw),fun k hk=>?_⟩
  · rcases ht with h1|h1|h1|h1
    · exact .inl h1
    · exact .inr (.inl h1)
    · exact .inr (.inr (.inl h1))
    · exact .inr (.inr (.inr (hf k hk h1)))
  · obtain ⟨h1,h2,h3,h4⟩:=h.zl k hk
    refine ⟨Nat.lt_of_lt_of_le h1 c.ch.size,h2,h3,fun hx=>?_⟩
    rcases hf k h1 (.inl hx) with h5|h5
    · exact h4 h5
    · exact Rw.offT h.lg.rw h5 (.inr (.inl hk))
theorem IB.below (h:IB Z w B D M L Q X O d F T g v most s va an sn kp) (hb:Below w.heap.size w w'):IB Z w' B D M L Q X O d F T g v most s va an sn kp :=
  h.log (WlCh.of_below hb) (h.dk.below hb) (h.lg.below hb)
theorem IB.dfm (h:IB Z w B D M L Q X O d F T g v most s va an sn kp) (m:Mv Q O O' w w') (hd:Df B Q O' most s' w'):IB Z w' B D M L Q X O' d F T g v most s' va an sn kp:=by
  have hold:∀ k,k<w.heap.size→dS Q O' k→dS Q O k:=fun k hk hx=>by
    rcases hx with hx|hx
    · exact .inl hx
    · exact .inr (m.2 k hx.symm hk).symm
  have hdw:∀ k,WFoot L D M F v k→¬ dS Q O k:=fun k hw hs=>h.ap k hs hw
  refine ⟨h.dk.ch m.1 (fun k hk=>hdw k (.inl (.inr hk))),?_,hd,m.1.row h.row h.xq,h.xb,h.an.ch m.1 (fun k _ hk=>.inr (.inr (.inl hk))) (fun k hk ht=>?_),fun k hk hw=>?_,fun k hk=>?_⟩
  · refine ((h.lg.widen (E':=fun k=>(Z k∨k=X∨dS Q O k∨va.ownBlock=some k)∨w.heap.size≤k) (fun k hk=>hk)).chE m.1 (fun k _ hk=>.inl (.inr (.inr (.inl hk)))) (hdw L (.inl (.inl rfl)))).widen (fun k hk=>.inl ?_)
    rcases hk with h1|h1|h1|h1
    · exact .inl (.inl h1)
    · exact .inl (.inr (.inl h1))
    · rcases Nat.lt_or_ge k w.heap.size with h2|h2
      · exact .inl (.inr (.inr (.inl (hold k h2 h1))))
      · exact .inr h2
    · exact .inl (.inr (.inr (.inr h1)))
  · rcases ht with h1|h1|h1|h1
    · exact .inl h1
    · exact .inr (.inl h1)
    · exact .inr (.inr (.inl (hold k hk h1)))
    · exact .inr (.inr (.inr h1))
  · exact h.ap k (hold k (h.lg.foot_lt h.dk hw).2 hk) hw
  · obtain ⟨h1,h2,h3,h4⟩:=h.zl k hk
    exact ⟨Nat.lt_of_lt_of_le h1 m.1.size,h2,fun hx=>h3 (hold k h1 hx),h4⟩
theorem IB.setRow (h:IB Z w B D M L Q X O d F T g v most s va an sn kp) {sn' kp':Nat} (c:Ch (At1 X) w w') (hr:w'.heap[X]?=some (.cells (ibCells Q L va sn' kp') TIB)):IB Z w' B D M L Q X O d F T g v most s va an sn' kp':=by
  have hx:∀ k,WFoot L D M F v k→¬ At1 X k:=fun k hw e=>h.xw (by rw [← show k=X from e];exact hw)
  refine ⟨h.dk.ch c (fun k hk=>hx k (.inl (.inr hk))),h.lg.chE c (fun k _ hk=>.inr (.inl hk)) (hx L (.inl (.inl rfl))),h.df.ch c (fun e=>h.xq (.inl (show Q=X from e).symm)) (fun k hk e=>h.xq (.inr (by rw [← show k=X from e];exact hk.symm))),hr,h.xb,h.an.ch c (fun k _ hk=>.inr (.inl hk)) (fun _ _ ht=>ht),h.ap,fun k hk=>?_⟩
  obtain ⟨h1,h2⟩:=h.zl k hk
  exact ⟨Nat.lt_of_lt_of_le h1 c.size,h2⟩
theorem IB.app {w2:World} {va2:Value} {an2:List (List UInt8)} (h:IB Z w B D M L Q X O d F T g v most s va an sn kp) (hw:Rw B (fun k=>Z k∨k=X∨dS Q O k∨WFoot L D M F v k) w2 va2 an2) (hc:Ch (fun k=>va.ownBlock=some k) w w2) (hf:va2.ownBlock=va.ownBlock∨va2.ownBlock=some w.heap.size) :
    IB Z (w2.setCell ⟨X,2,none⟩ va2) B D M L Q X O d F T g v most s va2 an2 sn kp∧w2.heap[X]?=some (.cells (ibCells Q L va sn kp) TIB)∧Ch (fun k=>k=X∨va.ownBlock=some k) w (w2.setCell ⟨X,2,none⟩ va2):=by
  have hxr:w2.heap[X]?=some (.cells (ibCells Q L va sn kp) TIB):=hc.row h.row (fun e=>h.va_off e (.inr (.inl rfl)))
  have hcs:Ch (At1 X) w2 (w2.setCell ⟨X,2,none⟩ va2):=(Ch.refl _ w2).set1 2 _
  have hall:Ch (fun k=>k=X∨va.ownBlock=some k) w (w2.setCell ⟨X,2,none⟩ va2):=((Ch.refl (fun k=>k=X∨va.ownBlock=some k) w).trans hc (fun _ _ hk=>.inr hk)).trans hcs (fun k _ hk=>.inl hk)
  have hnw:∀ k,WFoot L D M F v k→¬ (k=X∨va.ownBlock=some k):=fun k hk he=>by
    rcases he with e|he
    · rw [e] at hk;exact h.xw hk
    · exact h.va_off he (.inr (.inr (.inr hk)))
  have hnd:∀ k,dS Q O k→¬ (k=X∨va.ownBlock=some k):=fun k hd he=>by
    rcases he with e|he
    · rw [e] at hd;exact h.xq hd
    · exact h.va_off he (.inr (.inr (.inl hd)))
  refine ⟨⟨h.dk.ch hall (fun k hk=>hnw k (.inl (.inr hk))),?_,h.df.ch hall (hnd Q (.inl rfl)) (fun k hk=>hnd k (.inr hk.symm)),heap_set_row hxr _,h.xb,hw.ch hcs (fun k _ hk=>.inr (.inl hk)) (fun _ _ ht=>ht),h.ap,fun k hk=>?_⟩,hxr,hall⟩
  · refine ((h.lg.widen (E':=fun k=>(Z k∨k=X∨dS Q O k∨va.ownBlock=some k)∨w.heap.size≤k) (fun k hk=>hk)).chE hall (fun k _ hk=>.inl (hk.elim (fun e=>.inr (.inl e)) (fun e=>.inr (.inr (.inr e))))) (hnw L (.inl (.inl rfl)))).widen (fun k hk=>.inl ?_)
    rcases hk with h1|h1|h1|h1
    · exact .inl (.inl h1)
    · exact .inl (.inr (.inl h1))
    · exact .inl (.inr (.inr (.inl h1)))
    · rcases hf with e|e
      · exact .inl (.inr (.inr (.inr (by rw [← e];exact h1))))
      · rw [e] at h1;injection h1 with h1;exact .inr (by omega)
  · obtain ⟨h1,h2⟩:=h.zl k hk
    exact ⟨Nat.lt_of_lt_of_le h1 hall.size,h2⟩
theorem IB.taken (h:IB Z w B D M L Q X O d F T g v most s va an sn kp):IB Z (w.setCell ⟨X,2,none⟩ (.slice none 0 0)) B D M L Q X O d F T g v most s (.slice none 0 0) [] sn kp∧Ch (At1 X) w (w.setCell ⟨X,2,none⟩ (.slice none 0 0)):=by
  have hcs:Ch (At1 X) w (w.setCell ⟨X,2,none⟩ (.slice none 0 0)):=(Ch.refl _ w).set1 2 _
  have hx:∀ k,WFoot L D M F v k→¬ At1 X k:=fun k hw e=>h.xw (by rw [← show k=X from e];exact hw)
  refine ⟨⟨h.dk.ch hcs (fun k hk=>hx k (.inl (.inr hk))),(h.lg.chE hcs (fun k _ hk=>.inr (.inl hk)) (hx L (.inl (.inl rfl)))).widen (fun k hk=>.inl ?_),h.df.ch hcs (fun e=>h.xq (.inl (show Q=X from e).symm)) (fun k hk e=>h.xq (.inr (by rw [← show k=X from e];exact hk.symm))),heap_set_row h.row _,h.xb,Rw.nil _ _ _,h.ap,fun k hk=>?_⟩,hcs⟩
  · rcases hk with h1|h1|h1|h1
    · exact .inl h1
    · exact .inr (.inl h1)
    · exact .inr (.inr (.inl h1))
    · cases h1
  · obtain ⟨h1,h2⟩:=h.zl k hk
    exact ⟨Nat.lt_of_lt_of_le h1 hcs.size,h2⟩
end
structure ICh (A A':Nat→Prop) (w w':World):Prop where
  ch:Ch A w w'
  foot:∀ k,A' k→A k∨w.heap.size≤k
theorem ICh.trans {A A1 A2:Nat→Prop} {w w1 w2:World} (h:ICh A A1 w w1) (k:ICh A1 A2 w1 w2):ICh A A2 w w2 :=
  ⟨h.ch.trans k.ch (fun x hx hf=>by
    rcases h.foot x hf with h1|h1
    · exact h1
    · omega),fun x hx=>by
    rcases k.foot x hx with h1|h1
    · exact h.foot x h1
    · exact .inr (Nat.le_trans h.ch.size h1)⟩
theorem ICh.of_below {A:Nat→Prop} {w w':World} (h:Below w.heap.size w w'):ICh A A w w':=⟨Ch.of_below h,fun _ h=>.inl h⟩
theorem ICh.wide {A A' R R':Nat→Prop} {w w':World} (c:Ch R w w') (hf:∀ k,R' k→R k∨w.heap.size≤k) (h1:∀ k,R k→A k) (h2:∀ k,A' k→A k∨R' k):ICh A A' w w' :=
  ⟨(Ch.refl A w).trans c (fun x _ hx=>h1 x hx),fun k hk=>(h2 k hk).elim .inl (fun h=>(hf k h).imp (h1 k) id)⟩
theorem ICh.of_wl {L D M Q X:Nat} {O:Option Nat} {F F':List Ent} {v v' va:Value} {w w':World} (c:WlCh L D M F F' v v' w w'):ICh (FI L D M Q X O F v va) (FI L D M Q X O F' v' va) w w' :=
  .wide c.ch c.foot (fun k hk=>.inr (.inr (.inl hk))) (fun k hk=>by
    rcases hk with h|h|h|h
    · exact .inl (.inl h)
    · exact .inl (.inr (.inl h))
    · exact .inr h
    · exact .inl (.inr (.inr (.inr h))))
section
variable {Z Z' S:Nat→Prop} {w w':World} {B D M L Q X g sn kp most:Nat} {O:Option Nat} {d:Dk} {F:List Ent} {T:List (List UInt8)} {v va:Value} {s:St} {an:List (List UInt8)}
theorem IB.zch (h:IB Z w B D M L Q X O d F T g v most s va an sn kp) (c:Ch S w w') (hS:∀ k,S k→Z k):IB Z w' B D M L Q X O d F T g v most s va an sn kp:=by
  have hn:∀ k,FI L D M Q X O F v va k→¬ S k:=fun k hf hs=>h.zf (hS k hs) hf
  refine ⟨h.dk.ch c (fun k hk=>hn k (.inr (.inr (.inl (.inl (.inr hk)))))),h.lg.chE c (fun k _ hk=>.inl (hS k hk)) (hn L (.inr (.inr (.inl (.inl (.inl rfl)))))),h.df.ch c (hn Q (.inr (.inl (.inl rfl)))) (fun k hk=>hn k (.inr (.inl (.inr hk.symm)))),c.row h.row (hn X (.inl rfl)),h.xb,h.an.ch c (fun k _ hk=>.inl (hS k hk)) (fun _ _ ht=>ht),h.ap,fun k hk=>?_⟩
  obtain ⟨h1,h2⟩:=h.zl k hk
  exact ⟨Nat.lt_of_lt_of_le h1 c.size,h2⟩
theorem IB.addZ (h:IB Z w B D M L Q X O d F T g v most s va an sn kp) (hb:Below w.heap.size w w') (hZ:∀ k,Z' k→Z k∨w.heap.size≤k∧k<w'.heap.size):IB Z' w' B D M L Q X O d F T g v most s va an sn kp:=by
  refine ⟨h.dk.below hb,(h.lg.widen (fun k hk=>?_)).below hb,h.df.below hb,(Ch.of_below (S:=fun _=>False) hb).row h.row (fun h=>h),h.xb,(Rw.widen h.an (fun k hk=>?_)).below hb,h.ap,fun k hk=>?_⟩
  · rcases hk with h1|h1
    · rcases hZ k h1 with h2|h2
      · exact .inl (.inl h2)
      · exact .inr h2.1
    · exact .inl (.inr h1)
  · rcases hk with h1|h1
    · rcases hZ k h1 with h2|h2
      · exact .inl (.inl h2)
      · exact .inr h2.1
    · exact .inl (.inr h1)
  · rcases hZ k hk with h2|⟨h2,h3⟩
    · obtain ⟨h1,h2⟩:=h.zl k h2
      exact ⟨Nat.lt_of_lt_of_le h1 hb.size,h2⟩
    · have hlt:∀ j,FI L D M Q X O F v va j→j<w.heap.size:=fun j hj=>(h.foot_lt hj).2
      refine ⟨h3,fun e=>?_,fun hd=>?_,fun hl=>?_⟩
      · have:=hlt k (.inl e);omega
      · have:=hlt k (.inr (.inl hd));omega
      · have:=hlt k (.inr (.inr (.inl (.inl hl))));omega
end
def CH (cl:Bool) (w:World) (C cap:Nat) (L:List (List UInt8)) (T Z:Nat→Prop):Prop :=
  ¬ T C∧∃ (vs:List Value) (s r:Nat),w.heap[C]?=some (.chan cap vs.toArray cl s r false)∧vs.length=L.length∧∀ (i:Nat) (u:Value) (x:List UInt8),vs[i]?=some u→L[i]?=some x→∃ A c,u=.slice A x.length c∧Bs w A x.length c x∧(0<x.length→∀ b,A=some b→¬ T b.block∧¬ Z b.block)
section
variable {cl:Bool} {w w':World} {C cap:Nat} {L:List (List UInt8)} {T T' S Z:Nat→Prop}
theorem CH.lt (h:CH cl w C cap L T Z):C<w.heap.size:=by
  obtain ⟨_,vs,s,r,h,_⟩:=h
  exact (Array.getElem?_eq_some_iff.1 h).1
theorem CH.ch (h:CH cl w C cap L T Z) (c:Ch S w w') (hS:∀ k,k<w.heap.size→S k→T k) (hT:∀ k,k<w.heap.size→T' k→T k):CH cl w' C cap L T' Z:=by
  have hl:=h.lt
  obtain ⟨h0,vs,s,r,h1,h2,h3⟩:=h
  refine ⟨fun ht=>h0 (hT C hl ht),vs,s,r,c.row h1 (fun hs=>h0 (hS C hl hs)),h2,fun i u x hu hx=>?_⟩
  obtain ⟨A,q,e,hb,hne⟩:=h3 i u x hu hx
  have hlt:0<x.length→∀ b,A=some b→b.block<w.heap.size:=fun h0 b hA=>by
    obtain ⟨b',o',e',hlt,_⟩:=hb.at_ h0
    rw [e'] at hA;injection hA with hA;subst hA;exact hlt
  exact ⟨A,q,e,hb.ch c (fun h0 b hA hs=>(hne h0 b hA).1 (hS _ (hlt h0 b hA) hs)),fun h0 b hA=>⟨fun ht=>(hne h0 b hA).1 (hT _ (hlt h0 b hA) ht),(hne h0 b hA).2⟩⟩
theorem CH.ich (h:CH cl w C cap L T Z) (c:ICh T T' w w'):CH cl w' C cap L T' Z:=h.ch c.ch (fun _ _ h=>h) (fun k hk ht=>(c.foot k ht).resolve_right (by omega))
theorem CH.below (h:CH cl w C cap L T Z) (hb:Below w.heap.size w w'):CH cl w' C cap L T Z:=h.ich (.of_below hb)
theorem CH.new (w:World) (cap:Nat) {T:Nat→Prop} (Z:Nat→Prop) (hT:∀ k,T k→k<w.heap.size):CH false (w.alloc (.chan cap #[] false 0 0 false)) w.heap.size cap [] T Z :=
  ⟨fun h=>by have:=hT _ h;omega,[],0,0,heap_alloc_new w _,rfl,fun i u x h _=>by simp at h⟩
theorem ch_chan (w:World) (C cap:Nat) (buf:Array Value) (cl:Bool) (s r:Nat) (tm:Bool):Ch (At1 C) w (w.setChan C cap buf cl s r tm) :=
  ⟨rfl,rfl,rfl,by simp [World.setChan],fun k hk hn=>by simp only [World.setChan];rw [Array.getElem?_setIfInBounds_ne (fun e=>hn e.symm)]⟩
theorem CH.send (h:CH false w C cap L T Z) (hZ:Z C) {A:Option Addr} {c:Nat} {x:List UInt8} (hx:Bs w A x.length c x) (hxT:0<x.length→∀ b,A=some b→¬ T b.block∧¬ Z b.block):∃ (vs:List Value) (s r:Nat),w.heap[C]?=some (.chan cap vs.toArray false s r false)∧vs.length=L.length ∧
    CH false (w.setChan C cap (vs.toArray.push (.slice A x.length c)) false (s+1) r false) C cap (L++[x]) T Z:=by
  have hl:=h.lt
  obtain ⟨h0,vs,s,r,h1,h2,h3⟩:=h
  refine ⟨vs,s,r,h1,h2,h0,vs++[.slice A x.length c],s+1,r,?_,by simp [h2],fun i u y hu hy=>?_⟩
  · rw [Go.Conc.heap_setChan _ _ _ _ _ _ _ _ hl,List.push_toArray]
  · have hc:=ch_chan w C cap (vs.toArray.push (.slice A x.length c)) false (s+1) r false
    by_cases hi:i<L.length
    · rw [List.getElem?_append_left (by rw [h2];exact hi)] at hu
      rw [List.getElem?_append_left hi] at hy
      obtain ⟨A',c',e,hb,hne⟩:=h3 i u y hu hy
      exact ⟨A',c',e,hb.ch hc (fun h0 b hA hs=>(hne h0 b hA).2 (by rw [show b.block=C from hs];exact hZ)),hne⟩
    · rw [List.getElem?_append_right (by rw [h2];omega),h2] at hu
      rw [List.getElem?_append_right (by omega)] at hy
      have:i-L.length=0:=by
        rcases Nat.lt_or_ge (i-L.length) 1 with h|h
        · omega
        · rw [List.getElem?_eq_none (by simpa using h)] at hy;cases hy
      rw [this] at hu hy
      simp at hu hy
      subst hu hy
      exact ⟨A,c,rfl,hx.ch hc (fun h0 b hA hs=>(hxT h0 b hA).2 (by rw [show b.block=C from hs];exact hZ)),hxT⟩
theorem CH.close (h:CH false w C cap L T Z) (hZ:Z C):∃ (buf:Array Value) (s r:Nat),w.heap[C]?=some (.chan cap buf false s r false)∧CH true (w.setChan C cap buf true s r false) C cap L T Z:=by
  have hl:=h.lt
  obtain ⟨h0,vs,s,r,h1,h2,h3⟩:=h
  refine ⟨_,s,r,h1,h0,vs,s,r,Go.Conc.heap_setChan _ _ _ _ _ _ _ _ hl,h2,fun i u y hu hy=>?_⟩
  obtain ⟨A',c',e,hb,hne⟩:=h3 i u y hu hy
  exact ⟨A',c',e,hb.ch (ch_chan w C cap vs.toArray true s r false) (fun h0 b hA hs=>(hne h0 b hA).2 (by rw [show b.block=C from hs];exact hZ)),hne⟩
theorem CH.recv {x:List UInt8} (h:CH cl w C cap (x :: L) T Z) (hZ:Z C):∃ (buf:Array Value) (s r:Nat) (A:Option Addr) (c:Nat),w.heap[C]?=some (.chan cap buf cl s r false)∧0<buf.size∧buf.getD 0 undef=.slice A x.length c∧Bs w A x.length c x∧(0<x.length→∀ b,A=some b→¬ T b.block∧¬ Z b.block) ∧
    CH cl (w.setChan C cap (buf.extract 1 buf.size) cl s (r+1) false) C cap L T Z:=by
  have hl:=h.lt
  obtain ⟨h0,vs,s,r,h1,h2,h3⟩:=h
  cases vs with
  | nil=>simp at h2
  | cons u vs =>
    obtain ⟨A,c,e,hb,hne⟩:=h3 0 u x rfl rfl
    refine ⟨_,s,r,A,c,h1,by simp,by simpa using e,hb,hne,h0,vs,s,r+1,?_,by simpa using h2,fun i u y hu hy=>?_⟩
    · rw [Go.Conc.heap_setChan _ _ _ _ _ _ _ _ hl]
      simp
    · obtain ⟨A',c',e,hb,hne⟩:=h3 (i+1) u y (by simpa using hu) (by simpa using hy)
      exact ⟨A',c',e,hb.ch (ch_chan w C cap _ cl s (r+1) false) (fun h0 b hA hs=>(hne h0 b hA).2 (by rw [show b.block=C from hs];exact hZ)),hne⟩
theorem CH.none (h:CH cl w C cap [] T Z):∃ s r,w.heap[C]?=some (.chan cap #[] cl s r false):=by
  obtain ⟨_,vs,s,r,h1,h2,_⟩:=h
  rw [List.length_nil,List.length_eq_zero_iff] at h2
  subst h2
  exact ⟨s,r,h1⟩
end
end
section
open Go.Lib
def cutAt (c:UInt8):List UInt8→List (List UInt8)
  | []=>[[]]
  | x :: r=>if x=c then [] :: cutAt c r else match cutAt c r with
    | []=>[[x]]
    | h :: t=>(x :: h) :: t
theorem cutAt_ne (c:UInt8):∀ l:List UInt8,cutAt c l≠[]
  | []=>by simp [cutAt]
  | x :: r=>by
    unfold cutAt
    split
    · simp
    · split <;> simp
theorem cutAt_eq (c:UInt8) (r:List UInt8):cutAt c (c :: r)=[] :: cutAt c r:=by
  rw [cutAt,if_pos rfl]
theorem cutAt_cons {c x:UInt8} (hx:x≠c) (r:List UInt8):∃ h t,cutAt c r=h :: t∧cutAt c (x :: r)=(x :: h) :: t:=by
  cases h:cutAt c r with
  | nil=>exact absurd h (cutAt_ne c r)
  | cons a t=>exact ⟨a,t,rfl,by rw [cutAt,if_neg hx,h]⟩
theorem cutAt_clean (c:UInt8) (r:List UInt8):∀ a:List UInt8,c ∉ a→cutAt c (a++c :: r)=a :: cutAt c r
  | [],_=>cutAt_eq c r
  | x :: a,ha=>by
    obtain ⟨h,t,h1,h2⟩:=cutAt_cons (c:=c) (x:=x) (fun e=>ha (by rw [e];exact List.mem_cons_self ..)) (a++c :: r)
    rw [cutAt_clean c r a (fun e=>ha (List.mem_cons_of_mem _ e))] at h1
    injection h1 with e1 e2
    subst e1 e2
    exact h2
theorem cutAt_none (c:UInt8):∀ a:List UInt8,c ∉ a→cutAt c a=[a]
  | [],_=>rfl
  | x :: a,ha=>by
    obtain ⟨h,t,h1,h2⟩:=cutAt_cons (c:=c) (x:=x) (fun e=>ha (by rw [e];exact List.mem_cons_self ..)) a
    rw [cutAt_none c a (fun e=>ha (List.mem_cons_of_mem _ e))] at h1
    injection h1 with e1 e2
    subst e1 e2
    exact h2
theorem cutAt_length (c:UInt8):∀ l:List UInt8,(cutAt c l).length=l.count c+1
  | []=>rfl
  | x :: r=>by
    by_cases hx:x=c
    · subst hx
      rw [cutAt_eq,List.length_cons,cutAt_length x r,List.count_cons_self]
    · obtain ⟨h,t,h1,h2⟩:=cutAt_cons hx r
      have:=cutAt_length c r
      rw [h1] at this
      rw [h2,List.count_cons_of_ne (by simpa using hx)]
      simpa using this
theorem cutAt_clean_all (c:UInt8):∀ (l:List UInt8) (x:List UInt8),x ∈ cutAt c l→c ∉ x
  | [],x,hx=>by simp [cutAt] at hx;simp [hx]
  | y :: r,x,hx=>by
    by_cases hy:y=c
    · subst hy
      rw [cutAt_eq] at hx
      rcases List.mem_cons.1 hx with rfl|hx
      · simp
      · exact cutAt_clean_all y r x hx
    · obtain ⟨h,t,h1,h2⟩:=cutAt_cons hy r
      rw [h2] at hx
      rcases List.mem_cons.1 hx with rfl|hx
      · intro hc
        rcases List.mem_cons.1 hc with e|hc
        · exact hy e.symm
        · exact cutAt_clean_all c r h (by rw [h1];exact List.mem_cons_self ..) hc
      · exact cutAt_clean_all c r x (by rw [h1];exact List.mem_cons_of_mem _ hx)
theorem join_two (c:UInt8) (x y:List UInt8) (r:List (List UInt8)):join (x :: y :: r) [c]=x++c :: join (y :: r) [c]:=by
  rw [join_cons,join_cons]
  simp [joinTail]
theorem cutAt_join (c:UInt8):∀ l:List UInt8,join (cutAt c l) [c]=l
  | []=>by simp [cutAt,join_one]
  | x :: r=>by
    have ih:=cutAt_join c r
    by_cases hx:x=c
    · subst hx
      rw [cutAt_eq]
      cases h:cutAt x r with
      | nil=>exact absurd h (cutAt_ne x r)
      | cons a t=>rw [join_two,← h,ih];rfl
    · obtain ⟨h,t,h1,h2⟩:=cutAt_cons hx r
      rw [h1] at ih
      rw [h2]
      rw [join_cons] at ih ⊢
      rw [List.cons_append,ih]
theorem cutAt_snoc_eq (c:UInt8):∀ l:List UInt8,cutAt c (l++[c])=cutAt c l++[[]]
  | []=>by simp [cutAt]
  | x :: r=>by
    have ih:=cutAt_snoc_eq c r
    by_cases hx:x=c
    · subst hx
      rw [List.cons_append,cutAt_eq,cutAt_eq,ih];rfl
    · obtain ⟨h,t,h1,h2⟩:=cutAt_cons hx r
      obtain ⟨h',t',h3,h4⟩:=cutAt_cons hx (r++[c])
      rw [ih,h1] at h3
      rw [List.cons_append,h4,h2]
      injection h3 with e1 e2
      rw [← e1,← e2];rfl
def lastMore (T:List (List UInt8)) (x:UInt8):List (List UInt8):=T.set (T.length-1) (T.getD (T.length-1) []++[x])
theorem cutAt_snoc_ne (c x:UInt8) (hx:x≠c):∀ l:List UInt8,cutAt c (l++[x])=lastMore (cutAt c l) x
  | []=>by simp [cutAt,hx,lastMore]
  | y :: r=>by
    have ih:=cutAt_snoc_ne c x hx r
    by_cases hy:y=c
    · subst hy
      rw [List.cons_append,cutAt_eq,cutAt_eq,ih]
      cases h:cutAt y r with
      | nil=>exact absurd h (cutAt_ne y r)
      | cons a t=>simp [lastMore]
    · obtain ⟨h,t,h1,h2⟩:=cutAt_cons hy r
      obtain ⟨h',t',h3,h4⟩:=cutAt_cons hy (r++[x])
      rw [ih,h1] at h3
      rw [List.cons_append,h4,h2]
      cases t with
      | nil =>
        simp [lastMore] at h3
        obtain ⟨rfl,rfl⟩:=h3
        simp [lastMore]
      | cons a t =>
        simp [lastMore] at h3
        obtain ⟨rfl,rfl⟩:=h3
        simp [lastMore]
theorem cutAt_mem_le (c:UInt8):∀ (l x:List UInt8),x ∈ cutAt c l→x.length≤l.length
  | [],x,hx=>by simp [cutAt] at hx;simp [hx]
  | y :: r,x,hx=>by
    by_cases hy:y=c
    · subst hy
      rw [cutAt_eq] at hx
      rcases List.mem_cons.1 hx with rfl|hx
      · simp
      · have:=cutAt_mem_le y r x hx
        simp only [List.length_cons];omega
    · obtain ⟨h,t,h1,h2⟩:=cutAt_cons hy r
      rw [h2] at hx
      rcases List.mem_cons.1 hx with rfl|hx
      · have:=cutAt_mem_le c r h (by rw [h1];exact List.mem_cons_self ..)
        simp only [List.length_cons];omega
      · have:=cutAt_mem_le c r x (by rw [h1];exact List.mem_cons_of_mem _ hx)
        simp only [List.length_cons];omega
theorem cutAt_part_le (c:UInt8) (l:List UInt8) (k:Nat) (hk:l.length≤k) (j:Nat):((cutAt c l).getD j []).length≤k:=by
  rw [List.getD_eq_getElem?_getD]
  cases h:(cutAt c l)[j]? with
  | none=>simp
  | some x=>exact Nat.le_trans (cutAt_mem_le c l x (List.mem_of_getElem? h)) hk
end
section
open Go.RowKit
abbrev str (x:List UInt8):Value:=.string (txt x)
def Ss (w:World) (A:Option Addr) (n c:Nat) (T:List (List UInt8)):Prop :=
  T.length=n∧n≤c∧c≤maxLen∧(0<n→∃ b o,A=some ⟨b,o,none⟩∧∀ i x,T[i]?=some x→w.cell? ⟨b,o+i,none⟩=some (str x))
section
variable {w w':World} {A:Option Addr} {n c:Nat} {T:List (List UInt8)}
theorem Ss.len (h:Ss w A n c T):T.length=n:=h.1
theorem Ss.le (h:Ss w A n c T):n≤c:=h.2.1
theorem Ss.max (h:Ss w A n c T):c≤9223372036854775807:=by have:=h.2.2.1;simpa only [maxLen] using this
theorem Ss.nmax (h:Ss w A n c T):n≤9223372036854775807:=Nat.le_trans h.le h.max
theorem Ss.at_ (h:Ss w A n c T) (hn:0<n):∃ b o,A=some ⟨b,o,none⟩∧b<w.heap.size∧∀ i x,T[i]?=some x→w.cell? ⟨b,o+i,none⟩=some (str x):=by
  obtain ⟨b,o,e,hc⟩:=h.2.2.2 hn
  have hl:0<T.length:=by rw [h.1];exact hn
  exact ⟨b,o,e,World.block_lt_of_cell? w _ (hc 0 _ (List.getElem?_eq_getElem hl)),hc⟩
theorem Ss.read (h:Ss w A n c T) {i:Nat} (hi:i<n):∃ b o,A=some ⟨b,o,none⟩∧b<w.heap.size∧w.cell? ⟨b,o+i,none⟩=some (str (T.getD i [])):=by
  obtain ⟨b,o,e,hl,hc⟩:=h.at_ (by omega)
  exact ⟨b,o,e,hl,hc i _ (by rw [List.getD_eq_getElem?_getD,List.getElem?_eq_getElem (by rw [h.1];exact hi)];rfl)⟩
theorem Ss.below (h:Ss w A n c T) (hb:Below w.heap.size w w'):Ss w' A n c T :=
  ⟨h.1,h.2.1,h.2.2.1,fun hn=>by
    obtain ⟨b,o,e,hlt,hc⟩:=h.at_ hn
    exact ⟨b,o,e,fun i x hx=>(hb.cell (p:=⟨b,o+i,none⟩) hlt).trans (hc i x hx)⟩⟩
theorem Ss.nil (w:World) (c:Nat) (A:Option Addr) (hc:c≤maxLen):Ss w A 0 c []:=⟨rfl,Nat.zero_le _,hc,fun h=>absurd h (by omega)⟩
theorem Ss.of_block {g:Nat} {t:TypeId} {f:Nat × Nat} {C:Array Value} (hg:w.heap[g]?=some (.cells C t f)) (hC:∀ (i:Nat) (x:List UInt8),T[i]?=some x→C[i]?=some (str x)) (hn:T.length=n) (hnc:n≤c) (hc:c≤maxLen) :
    Ss w (some ⟨g,0,none⟩) n c T:=by
  subst hn
  refine ⟨rfl,hnc,hc,fun _=>⟨g,0,rfl,fun i x hx=>?_⟩⟩
  rw [Nat.zero_add,cell_of_row w g i C t f hg]
  exact hC i x hx
end
def OwnS (w:World) (base:Nat) (v:Value) (T:List (List UInt8)):Prop:=w.ownsRow base 9 1 v T.length (T.map str)
section
variable {w w':World} {base:Nat} {v:Value} {T:List (List UInt8)}
theorem OwnS.nil (w:World) (base:Nat):OwnS w base (.slice none 0 0) []:=World.ownsRow_nil w base 9 1
theorem OwnS.below (h:OwnS w base v T) (hb:Below w.heap.size w w'):OwnS w' base v T:=by
  refine ⟨h.1,?_⟩
  rcases h.2 with hn|⟨g,cap,cur,e,h1,h2,h3⟩
  · exact .inl hn
  · exact .inr ⟨g,cap,cur,e,h1,(hb.block g (Array.getElem?_eq_some_iff.1 h2).1).trans h2,h3⟩
theorem OwnS.one (w:World) (x:List UInt8) (hb:base≤w.heap.size):OwnS (w.alloc (.cells #[str x] 9)) base (.slice (some ⟨w.heap.size,0,none⟩) 1 1) [x] :=
  ⟨by simp,.inr ⟨w.heap.size,1,#[str x],rfl,hb,heap_alloc_new w _,Nat.le_refl _,by simp [maxLen],by simp,by simp⟩⟩
theorem OwnS.ss (h:OwnS w base v T):∃ A c,v=.slice A T.length c∧Ss w A T.length c T∧∀ b,A=some b→base≤b.block:=by
  rcases h.2 with ⟨rfl,h0⟩|⟨g,cap,cur,rfl,h1,h2,h3,h4,_,h6⟩
  · have:T=[]:=List.eq_nil_of_length_eq_zero h0
    subst this
    exact ⟨none,0,rfl,Ss.nil w 0 none (by simp [maxLen]),fun _ hb=>by cases hb⟩
  · refine ⟨_,cap,rfl,Ss.of_block (by simpa using h2) (fun i x hx=>?_) rfl h3 h4,fun b hb=>?_⟩
    · have hl:i<T.length:=(List.getElem?_eq_some_iff.1 hx).1
      have e:(cur.toList.take (T.length*1))[i]?=(T.map str)[i]?:=by rw [h6]
      rw [Nat.mul_one,List.getElem?_take,if_pos hl,List.getElem?_map,hx] at e
      simpa using e
    · injection hb with hb
      subst hb
      exact h1
theorem OwnS.form (h:OwnS w base v T) (h0:0<T.length):∃ g c,v=.slice (some ⟨g,0,none⟩) T.length c∧base≤g∧g<w.heap.size∧T.length≤c∧c≤9223372036854775807:=by
  rcases h.2 with ⟨_,h1⟩|⟨g,cap,cur,rfl,h1,h2,h3,h4,_⟩
  · omega
  · exact ⟨g,cap,rfl,h1,(Array.getElem?_eq_some_iff.1 h2).1,h3,by simpa only [maxLen] using h4⟩
theorem OwnS.cell {g c:Nat} (h:OwnS w base (.slice (some ⟨g,0,none⟩) T.length c) T) {j:Nat} {x:List UInt8} (hx:T[j]?=some x):w.cell? ⟨g,j,none⟩=some (str x):=by
  have hj:j<T.length:=(List.getElem?_eq_some_iff.1 hx).1
  have:=World.ownsRow.cellAt h j (by omega)
  rw [this]
  simp [hx]
theorem OwnS.frozen {g c:Nat} (h:OwnS w base (.slice (some ⟨g,0,none⟩) T.length c) T) (j:Nat):w.frozen? ⟨g,j,none⟩=false:=World.ownsRow.frozenAt h j
theorem OwnS.store {g c:Nat} (h:OwnS w base (.slice (some ⟨g,0,none⟩) T.length c) T) (j:Nat) (x:List UInt8):OwnS (w.setCell ⟨g,j,none⟩ (str x)) base (.slice (some ⟨g,0,none⟩) T.length c) (T.set j x):=by
  have:=(World.ownsRow.stored h j (str x)).1
  unfold OwnS
  rw [List.length_set,show (T.set j x).map str=(T.map str).set j (str x) from by simp]
  exact this
theorem wpList_str {ops:Array Oper} {rest:List Oper} {o:Oper} {a:Act} {Q:Exit→Act→World→Prop} {w:World} (hgd:o.guard=none) (s x:Operand)
    (ho:o.op=.call { callee:=.builtin .append,args:=#[s,x],argTypes:=#[135,135] }) (base:Nat) (v:Value) (T:List (List UInt8)) (hs:a.eval s=v) (hown:OwnS w base v T) (g:Nat) (y:List UInt8)
    (hx:a.eval x=.slice (some ⟨g,0,none⟩) 1 1) (hg:w.heap[g]?=some (.cells #[str y] 9)) (hn:T.length≤1099511627776) (hbase:base≤w.heap.size)
    (h:∀ v' w',OwnS w' base v' (T++[y])→Below base w w'→w.grownBy w' v.ownBlock→wpList Tryz.prog ops Q rest (a.put o.dst v') w'):wpList Tryz.prog ops Q (o :: rest) a w:=by
  have hi:(Tryz.prog.info? 9).map (fun i=>(i.zero,i.size,i.bytes))=some (some (.string ByteArray.empty),1,16):=by kernel_rfl
  obtain ⟨i,hi,hzz⟩:=Option.map_eq_some_iff.1 hi
  simp only [Prod.mk.injEq] at hzz
  exact wpList_append_own w hgd s x 135 ho base 9 i (.string ByteArray.empty) 1 16 Tryz.underlying135 hi hzz.1 hzz.2.1 hzz.2.2 rfl (by decide) v T.length (T.map str) hs hown ⟨g,0,none⟩ 1 1 [str y] hx rfl
    (fun j u hu=>by
      have hj:j=0:=by
        rcases Nat.lt_or_ge j 1 with h|h
        · omega
        · rw [List.getElem?_eq_none (by simpa using h)] at hu;cases hu
      subst hj
      rw [Addr.add_lit,Nat.zero_add,cell_of_row w g 0 _ _ _ hg]
      exact hu) (fun u hu=>by simp at hu;subst hu;rfl) (by simp only [maxLen];omega) (by omega) hbase (fun v' w' h2 h3 _=>h v' w' (by unfold OwnS;simpa using h2) ((Below.refl _ _).grown h3 hbase fun k hk=>(World.ownsRow.lt hown k hk).1) h3)
end
end
end Go.Proofs.YtodjilljcjkacaaGreatDoor
namespace Go.Proofs
open Go.Shelf
def Tryz.lays169_ren : Go.Shelf.Ren := ⟨fun | 169 => 163 | n => n, fun | 70 => 212 | 9 => 9 | 0 => 0 | 72 => 214 | 37 => 40 | 127 => 232 | 3 => 3 | 5 => 5 | n => n, fun | n => n⟩
theorem Tryz.lays169 : Go.Proofs.Lays.n169 Tryz.prog Tryz.lays169_ren := {
  mixed := by kernel_rfl
  f169 := Tryz.func163.trans (congrArg some (by kernel_rfl))
  t0 := Tryz.underlying0
  a0 := Tryz.isAgg0
  z0 := Tryz.sizeOf0
  v0 := Tryz.zeroValue0
  t3 := Tryz.underlying3
  a3 := Tryz.isAgg3
  z3 := Tryz.sizeOf3
  v3 := Tryz.zeroValue3
  t9 := Tryz.underlying9
  a9 := Tryz.isAgg9
  z9 := Tryz.sizeOf9
  v9 := Tryz.zeroValue9
  t37 := Tryz.underlying40
  a37 := Tryz.isAgg40
  z37 := Tryz.sizeOf40
  v37 := Tryz.zeroValue40
  t70 := Tryz.underlying212
  a70 := Tryz.isAgg212
  z70 := Tryz.sizeOf212
  v70 := Tryz.zeroValue212
  t72 := Tryz.underlying214
  a72 := Tryz.isAgg214
  z72 := Tryz.sizeOf214
  v72 := Tryz.zeroValue214
  t127 := Tryz.underlying232
  a127 := Tryz.isAgg232
  z127 := Tryz.sizeOf232
  v127 := Tryz.zeroValue232 }
theorem Tryz.Builder_Extra_169 : Builder.Extra Tryz.prog Tryz.lays169_ren := {
  sizeBuilder := by kernel_rfl
  liesBuilder := by kernel_rfl
  t5 := Tryz.underlying5
  a5 := Tryz.isAgg5
  z5 := Tryz.sizeOf5
  v5 := Tryz.zeroValue5
  infoByte := by kernel_rfl
  cellsByte := by kernel_rfl
  sizeByte := by kernel_rfl
  neB5 := by decide }
open Go.RowKit in
/-- (*strings.Builder).String: "String returns the accumulated string.": WHATEVER THE BUILDER HOLDS. (LAID: no walk: one application.) -/
theorem Tryz.Builder_String_any (B b : Nat) (l : List UInt8) (w : World) (h : Lib.IsBuilder 214 5 B b (Lib.byteCells l) w) (hBw : B ≤ w.heap.size) :
    Calls Tryz.prog 163 #[.pointer (some ⟨b, 0, none⟩)] w fun e w' => e = .returned (.string ⟨l.toArray⟩) ∧ Below B w w' := Any.Builder_String_any Tryz.lays169 Tryz.Builder_Extra_169 B b l w h hBw
def Tryz.lays137_ren : Go.Shelf.Ren := ⟨fun | 137 => 152 | 217 => 175 | 266 => 186 | n => n, fun | 9 => 9 | 5 => 5 | 3 => 3 | n => n, fun | n => n⟩
theorem Tryz.lays137 : Go.Proofs.Lays.n137 Tryz.prog Tryz.lays137_ren := {
  mixed := by kernel_rfl
  f137 := Tryz.func152.trans (congrArg some (by kernel_rfl))
  f217 := Tryz.func175.trans (congrArg some (by kernel_rfl))
  f266 := Tryz.func186.trans (congrArg some (by kernel_rfl))
  t3 := Tryz.underlying3
  a3 := Tryz.isAgg3
  z3 := Tryz.sizeOf3
  v3 := Tryz.zeroValue3
  t5 := Tryz.underlying5
  a5 := Tryz.isAgg5
  z5 := Tryz.sizeOf5
  v5 := Tryz.zeroValue5
  t9 := Tryz.underlying9
  a9 := Tryz.isAgg9
  z9 := Tryz.sizeOf9
  v9 := Tryz.zeroValue9 }
open Go.RowKit in
/-- strings.IndexByte: "IndexByte returns the index of the first instance of c in s, or -1 if c is not present in s.": IT RETURNS 'Lib.indexByte s c'; the world is as it was. (LAID: no walk: one application.) -/
theorem Tryz.strings_IndexByte (s : ByteArray) (c : Int) (w : World) :
    Calls Tryz.prog 152 #[.string s, .int .u8 c] w fun e w' => e = .returned (.int .i64 (Lib.indexByte s.data.toList c.toNat.toUInt8)) ∧ w' = w := Any.strings_IndexByte Tryz.lays137 s c w
end Go.Proofs
namespace Go.Proofs.YtodjilljcjkacaaGreatDoor
open Lib (hid)
section
open Go.RowKit
abbrev dlm (a b c d e:Int):Value:=.agg #[.int .u8 a,.int .u8 b,.int .u8 c,.int .u8 d,.int .u8 e]
structure Sgn where
  a:UInt8
  b:UInt8
  c:UInt8
  d:UInt8
  e:UInt8
def Sgn.l (s:Sgn):List UInt8:=[s.a,s.b,s.c,s.d,s.e]
abbrev Sgn.v (s:Sgn):Value:=dlm (s.a.toNat:Int) (s.b.toNat:Int) (s.c.toNat:Int) (s.d.toNat:Int) (s.e.toNat:Int)
end
end Go.Proofs.YtodjilljcjkacaaGreatDoor
