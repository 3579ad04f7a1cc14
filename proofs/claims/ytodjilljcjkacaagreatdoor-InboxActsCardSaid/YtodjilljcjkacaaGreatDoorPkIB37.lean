/- Laid together: RI1, In13. -/
import Derived.Test.YtodjilljcjkacaaGreatDoorPkIB36

namespace Go.Proofs.YtodjilljcjkacaaGreatDoor
open Lib (hid)
section
open Go.RowKit Go.MapKept
abbrev TY17:TypeId:=43
abbrev pY (Y:Nat):Value:=.pointer (some ⟨Y,0,none⟩)
abbrev yCells (H most:Nat) (vb:Value) (dn:Nat) (vo:Value) (sn kp:Nat):Array Value:=#[pH H,.int .i64 (most:Int),vb,.int .i64 (dn:Int),vo,.int .i64 (sn:Int),.int .i64 (kp:Int)]
def YF (Y:Nat) (vb vo:Value) (k:Nat):Prop:=k=Y∨vb.ownBlock=some k∨vo.ownBlock=some k
def DF17 (G H Y:Nat) (vr vh vb vo:Value) (k:Nat):Prop:=RF G vr k∨RL H vh k∨YF Y vb vo k
structure DI (O:Nat→Prop) (w:World) (B G H Y:Nat) (r:Rk) (Lf:Fs) (vr:Value) (P:List Value) (T:List (List UInt8)) (g:Nat) (vh:Value) (most:Nat) (bs:List UInt8) (vb:Value) (dn:Nat) (an:List (List UInt8)) (vo:Value) (sn kp:Nat):Prop where
  rk:RkAt w B G (fun k=>(O k∨YF Y vb vo k)∨RL H vh k) r Lf vr P
  rl:RlAt (fun k=>(O k∨YF Y vb vo k)∨RF G vr k) w B H G nmI T g vh
  row:w.heap[Y]?=some (.cells (yCells H most vb dn vo sn kp) TY17)
  yb:B≤Y
  bs:Own 5 w B vb bs
  an:Rw B (fun k=>O k∨k=Y∨vb.ownBlock=some k∨RF G vr k∨RL H vh k) w vo an
  od:∀ k,O k→k<w.heap.size∧k≠Y∧¬ vb.ownBlock=some k∧¬ RF G vr k
section
variable {O O' S:Nat→Prop} {w w':World} {B G H Y most g dn dn' sn sn' kp kp' g':Nat} {r r':Rk} {Lf Lf':Fs} {vr vr' vh vh' vb vb' vo vo':Value} {P P':List Value} {T T' an an':List (List UInt8)} {bs bs':List UInt8}
theorem DI.lt (h:DI O w B G H Y r Lf vr P T g vh most bs vb dn an vo sn kp):Y<w.heap.size:=(Array.getElem?_eq_some_iff.1 h.row).1
theorem DI.cell (h:DI O w B G H Y r Lf vr P T g vh most bs vb dn an vo sn kp) (j:Nat):w.cell? ⟨Y,j,none⟩=(yCells H most vb dn vo sn kp)[j]?:=cell_of_row w Y j _ _ _ h.row
theorem DI.frozen (h:DI O w B G H Y r Lf vr P T g vh most bs vb dn an vo sn kp) (j:Nat):w.frozen? ⟨Y,j,none⟩=false:=by simp [World.frozen?,h.row]
theorem DI.foot_lt (h:DI O w B G H Y r Lf vr P T g vh most bs vb dn an vo sn kp) {k:Nat} (hk:DF17 G H Y vr vh vb vo k):B≤k∧k<w.heap.size:=by
  rcases hk with hk|hk|rfl|hk|hk
  · exact h.rk.foot_lt hk
  · exact h.rl.foot_lt hk
  · exact ⟨h.yb,h.lt⟩
  · exact Own.lt h.bs k hk
  · exact Rw.lt h.an hk
theorem DI.off (h:DI O w B G H Y r Lf vr P T g vh most bs vb dn an vo sn kp) {k:Nat} (ho:O k):¬ DF17 G H Y vr vh vb vo k:=fun hk=>by
  obtain ⟨_,h1,h2,h3⟩:=h.od k ho
  rcases hk with hk|hk|hk|hk|hk
  · exact h3 hk
  · exact h.rl.notT hk (.inl (.inl ho))
  · exact h1 hk
  · exact h2 hk
  · exact Rw.offT h.an hk (.inl ho)
theorem DI.yrf (h:DI O w B G H Y r Lf vr P T g vh most bs vb dn an vo sn kp):¬ RF G vr Y:=apart_tyR h.rk h.row (by decide) (by decide)
theorem DI.yvb (h:DI O w B G H Y r Lf vr P T g vh most bs vb dn an vo sn kp):¬ vb.ownBlock=some Y:=fun e=>own_ne h.bs h.row (by decide) e.symm
theorem DI.rfvb (h:DI O w B G H Y r Lf vr P T g vh most bs vb dn an vo sn kp) {k:Nat} (hr:RF G vr k):¬ vb.ownBlock=some k:=fun e=>by
  obtain ⟨cur,hc⟩:=own_ty h.bs k e
  exact apart_tyR h.rk hc (by decide) (by decide) hr
theorem DI.rfvo (h:DI O w B G H Y r Lf vr P T g vh most bs vb dn an vo sn kp) {k:Nat} (hr:RF G vr k):¬ vo.ownBlock=some k:=fun e=>Rw.offT h.an e (.inr (.inr (.inr (.inl hr))))
theorem DI.yfrf (h:DI O w B G H Y r Lf vr P T g vh most bs vb dn an vo sn kp) {k:Nat} (hr:RF G vr k):¬ YF Y vb vo k:=fun hk=>by
  rcases hk with rfl|hk|hk
  · exact h.yrf hr
  · exact h.rfvb hr hk
  · exact h.rfvo hr hk
theorem DI.other (h:DI O w B G H Y r Lf vr P T g vh most bs vb dn an vo sn kp) (c:Ch S w w') (hS:∀ k,k<w.heap.size→S k→O k) (hO:∀ k,O' k→k<w'.heap.size∧(O k∨w.heap.size≤k)):DI O' w' B G H Y r Lf vr P T g vh most bs vb dn an vo sn kp:=by
  have hO':∀ k,k<w.heap.size→O' k→O k:=fun k hk ho=>(hO k ho).2.resolve_right (by omega)
  have hs:∀ {k},DF17 G H Y vr vh vb vo k→¬ S k:=fun {k} hk hs=>h.off (hS k (h.foot_lt hk).2 hs) hk
  refine ⟨h.rk.next' c (fun k hk hs=>.inl (.inl (hS k hk hs))) (fun k hk=>hs (.inl hk)) (fun k hk ht=>ht.imp (fun a=>a.imp (hO' k hk) id) id),
    h.rl.ch c (fun k hk hs=>.inl (.inl (hS k hk hs))) (fun k hk ht=>ht.imp (fun a=>a.imp (hO' k hk) id) id),c.row h.row (hs (.inr (.inr (.inl rfl)))),h.yb,h.bs.ch c (fun k hk=>hs (.inr (.inr (.inr (.inl hk))))),
    h.an.ch c (fun k hk hs=>.inl (hS k hk hs)) (fun k hk ht=>ht.imp (hO' k hk) id),fun k hk=>?_⟩
  obtain ⟨h1,h2⟩:=hO k hk
  rcases h2 with h2|h2
  · exact ⟨h1,(h.od k h2).2⟩
  · refine ⟨h1,fun e=>?_,fun e=>?_,fun e=>?_⟩
    · have:=h.lt;omega
    · have:=(Own.lt h.bs k e).2;omega
    · have:=(h.rk.foot_lt e).2;omega
theorem DI.below (h:DI O w B G H Y r Lf vr P T g vh most bs vb dn an vo sn kp) (hb:Below w.heap.size w w'):DI O w' B G H Y r Lf vr P T g vh most bs vb dn an vo sn kp :=
  h.other (Ch.of_below (S:=fun _=>False) hb) (fun _ _ h=>h.elim) (fun k hk=>⟨Nat.lt_of_lt_of_le (h.od k hk).1 hb.size,.inl hk⟩)
theorem DI.nums (h:DI O w B G H Y r Lf vr P T g vh most bs vb dn an vo sn kp) (c:Ch (At1 Y) w w') (hr:w'.heap[Y]?=some (.cells (yCells H most vb dn' vo sn' kp') TY17)):DI O w' B G H Y r Lf vr P T g vh most bs vb dn' an vo sn' kp' :=
  ⟨h.rk.next' c (fun k _ hk=>.inl (.inr (.inl hk))) (fun k hk hs=>h.yrf (by rw [← show k=Y from hs];exact hk)) (fun _ _ ht=>ht),h.rl.ch c (fun k _ hk=>.inl (.inr (.inl hk))) (fun _ _ ht=>ht),hr,h.yb,
    h.bs.ch c (fun k hk hs=>h.yvb (by rw [← show k=Y from hs];exact hk)),h.an.ch c (fun k _ hk=>.inr (.inl hk)) (fun _ _ ht=>ht),fun k hk=>by
      obtain ⟨a,b⟩:=h.od k hk
      exact ⟨Nat.lt_of_lt_of_le a c.size,b⟩⟩
theorem DI.newB (h:DI O w B G H Y r Lf vr P T g vh most bs vb dn an vo sn kp) (c:Ch (At1 Y) w w') (hr:w'.heap[Y]?=some (.cells (yCells H most vb' dn' vo sn kp) TY17)) (hb:Own 5 w' B vb' bs') (hf:∀ k,vb'.ownBlock=some k→w.heap.size≤k):DI O w' B G H Y r Lf vr P T g vh most bs' vb' dn' an vo sn kp :=
  ⟨h.rk.next' c (fun k _ hk=>.inl (.inr (.inl hk))) (fun k hk hs=>h.yrf (by rw [← show k=Y from hs];exact hk)) (fun k hk ht=>by
      rcases ht with (ht|ht|ht|ht)|ht
      · exact .inl (.inl ht)
      · exact .inl (.inr (.inl ht))
      · have:=hf k ht;omega
      · exact .inl (.inr (.inr (.inr ht)))
      · exact .inr ht),h.rl.ch c (fun k _ hk=>.inl (.inr (.inl hk))) (fun k hk ht=>by
      rcases ht with (ht|ht|ht|ht)|ht
      · exact .inl (.inl ht)
      · exact .inl (.inr (.inl ht))
      · have:=hf k ht;omega
      · exact .inl (.inr (.inr (.inr ht)))
      · exact .inr ht),hr,h.yb,hb,h.an.ch c (fun k _ hk=>.inr (.inl hk)) (fun k hk ht=>by
      rcases ht with ht|ht|ht|ht
      · exact .inl ht
      · exact .inr (.inl ht)
      · have:=hf k ht;omega
      · exact .inr (.inr (.inr ht))),fun k hk=>by
      obtain ⟨a,b,c',d⟩:=h.od k hk
      exact ⟨Nat.lt_of_lt_of_le a c.size,b,fun e=>by have:=hf k e;omega,d⟩⟩
theorem DI.newO (h:DI O w B G H Y r Lf vr P T g vh most bs vb dn an vo sn kp) (c:Ch (fun k=>k=Y∨vo.ownBlock=some k) w w') (hr:w'.heap[Y]?=some (.cells (yCells H most vb dn vo' sn' kp) TY17)) (ha:Rw B (fun k=>O k∨k=Y∨vb.ownBlock=some k∨RF G vr k∨RL H vh k) w' vo' an')
    (hf:∀ k,vo'.ownBlock=some k→vo.ownBlock=some k∨w.heap.size≤k):DI O w' B G H Y r Lf vr P T g vh most bs vb dn an' vo' sn' kp :=
  ⟨h.rk.next' c (fun k _ hk=>.inl (.inr (hk.imp id .inr))) (fun k hk hs=>h.yfrf hk (hs.imp id .inr)) (fun k hk ht=>by
      rcases ht with (ht|ht|ht|ht)|ht
      · exact .inl (.inl ht)
      · exact .inl (.inr (.inl ht))
      · exact .inl (.inr (.inr (.inl ht)))
      · exact .inl (.inr (.inr (.inr ((hf k ht).resolve_right (by omega)))))
      · exact .inr ht),h.rl.ch c (fun k _ hk=>.inl (.inr (hk.imp id .inr))) (fun k hk ht=>by
      rcases ht with (ht|ht|ht|ht)|ht
      · exact .inl (.inl ht)
      · exact .inl (.inr (.inl ht))
      · exact .inl (.inr (.inr (.inl ht)))
      · exact .inl (.inr (.inr (.inr ((hf k ht).resolve_right (by omega)))))
      · exact .inr ht),hr,h.yb,h.bs.ch c (fun k hk hs=>hs.elim (fun e=>h.yvb (by rw [← e];exact hk)) (fun e=>Rw.offT h.an e (.inr (.inr (.inl hk))))),ha,fun k hk=>by
      obtain ⟨a,b⟩:=h.od k hk
      exact ⟨Nat.lt_of_lt_of_le a c.size,b⟩⟩
theorem DI.add (h:DI O w B G H Y r Lf vr P T g vh most bs vb dn an vo sn kp) (hr:RkAt w' B G (fun k=>(O k∨YF Y vb vo k)∨RL H vh' k) r' Lf' vr' P') (hl:RlAt (fun k=>(O k∨YF Y vb vo k)∨RF G vr' k) w' B H G nmI T' g' vh') (c:Ch (fun k=>RF G vr k∨RL H vh k) w w')
    (ho:∀ k,RF G vr' k∨RL H vh' k→(RF G vr k∨RL H vh k)∨w.heap.size≤k):DI O w' B G H Y r' Lf' vr' P' T' g' vh' most bs vb dn an vo sn kp:=by
  have hy:∀ {k},YF Y vb vo k→¬ (RF G vr k∨RL H vh k):=fun {k} hk hs=>hs.elim (fun a=>h.yfrf a hk) (fun a=>h.rl.notT a (.inl (.inr hk)))
  refine ⟨hr,hl,c.row h.row (hy (.inl rfl)),h.yb,h.bs.ch c (fun k hk=>hy (.inr (.inl hk))),h.an.ch c (fun k _ hk=>.inr (.inr (.inr hk))) (fun k hk ht=>?_),fun k hk=>?_⟩
  · rcases ht with ht|ht|ht|ht
    · exact .inl ht
    · exact .inr (.inl ht)
    · exact .inr (.inr (.inl ht))
    · exact .inr (.inr (.inr ((ho k ht).resolve_right (by omega))))
  · obtain ⟨a,b,c',d⟩:=h.od k hk
    refine ⟨Nat.lt_of_lt_of_le a c.size,b,c',fun e=>?_⟩
    rcases ho k (.inl e) with (e|e)|e
    · exact d e
    · exact h.rl.notT e (.inl (.inl hk))
    · omega
end
end
section
open Go.RowKit Go.MapKept
theorem feedM_step {d:Dk} {fs:Fs} {T:List (List UInt8)} {g kp:Nat} {La:List (List UInt8)} {m:List UInt8} {x:Int} (e:(keepD d fs g m).1=.inl x) {r:List (List UInt8)} :
    feedM d fs T g kp La (m :: r)=feedM (keepD d fs g m).2.1 (keepD d fs g m).2.2 (if x=0 then T++[m] else T) (if x=0 then g+(record m).length else g) (if x=0 then kp+1 else kp) (La++ansD m (.inl x)) r:=by
  show (match (keepD d fs g m).1 with
    | .inr op=>(⟨.inr op,(keepD d fs g m).2.1,(keepD d fs g m).2.2,T,g,kp,La⟩:InR)
    | .inl x=>feedM (keepD d fs g m).2.1 (keepD d fs g m).2.2 (if x=0 then T++[m] else T) (if x=0 then g+(record m).length else g) (if x=0 then kp+1 else kp) (La++ansD m (.inl x)) r)=_
  rw [e]
section
variable {Z:Nat→Prop} {w:World} {B D M L Q X most:Nat} {room:Int} {p:List UInt8} {O:Option Nat} {F:List Ent} {v va:Value}
end
end
end Go.Proofs.YtodjilljcjkacaaGreatDoor
