/- Laid together: DfI. -/
import Derived.Test.YtodjilljcjkacaaGreatDoorPkIB14
import Derived.RegionTactic
import Derived.BigRegion
import Derived.Laws.EntriesVeiled
import Derived.LoopTactic
import Derived.Conc.MuLone
import Derived.Deep.QuietTactic

namespace Go.Proofs.YtodjilljcjkacaaGreatDoor
open Lib (hid)
/- Layer 5: a deframer's cells;what may change. -/
section
open Go.RowKit
structure Dfr where
  most:Int
  fn:Value
  begun:Bool
  ending:Bool
  fv:Value
  junk:Int
  over:Int
  broken:Int
abbrev Dfr.cells (s:Dfr):Array Value:=#[.int .i64 s.most,s.fn,.bool s.begun,.bool s.ending,s.fv,.int .i64 s.junk,.int .i64 s.over,.int .i64 s.broken]
def IsDfr (w:World) (g:Nat) (s:Dfr):Prop:=w.heap[g]?=some (.cells s.cells 146)
theorem IsDfr.cell {w:World} {g:Nat} {s:Dfr} (h:IsDfr w g s) (j:Nat):w.cell? ⟨g,j,none⟩=s.cells[j]?:=cell_of_row w g j _ _ _ h
theorem IsDfr.frozen {w:World} {g:Nat} {s:Dfr} (h:IsDfr w g s) (j:Nat):w.frozen? ⟨g,j,none⟩=false:=by simp [World.frozen?,show w.heap[g]?=_ from h]
theorem IsDfr.lt {w:World} {g:Nat} {s:Dfr} (h:IsDfr w g s):g<w.heap.size:=(Array.getElem?_eq_some_iff.1 h).1
theorem IsDfr.set {w:World} {g:Nat} {s s':Dfr} (h:IsDfr w g s) (j:Nat) (v:Value) (hs:s.cells.setIfInBounds j v=s'.cells):IsDfr (w.setCell ⟨g,j,none⟩ v) g s':=by
  unfold IsDfr
  rw [heap_setCell_same w g j _ _ v h,hs]
theorem IsDfr.drew {w:World} {g:Nat} {s:Dfr} (h:IsDfr w g s):IsDfr w.drew g s:=h
theorem IsDfr.ch {S:Nat→Prop} {w w':World} {g:Nat} {s:Dfr} (h:IsDfr w g s) (c:Ch S w w') (hn:¬ S g):IsDfr w' g s:=c.row h hn
abbrev bfn (F:FuncId) (D:Nat):Value:=.func (.func F) #[.pointer (some ⟨D,0,none⟩)] #[]
inductive Md where
  | out
  | inn
  | beh
def Md.fn (D:Nat):Md→Value
  | .out=>bfn 109 D
  | .inn=>bfn 176 D
  | .beh=>bfn 188 D
def Md.begun:Md→Bool
  | .out=>false
  | _=>true
def Md.ending:Md→Bool
  | .beh=>true
  | _=>false
set_option maxRecDepth 100000 in
theorem dfLeave (w:World) (D:Nat) (s:Dfr) (h:IsDfr w D s):Calls Tryz.prog 81 #[.pointer (some ⟨D,0,none⟩)] w fun e w' =>
    e=.returned (.tuple #[])∧IsDfr w' D { s with fn:=Md.fn D .out,begun:=false,ending:=false,fv:=.slice none 0 0 }∧Ch (At1 D) w w'∧w'.heap.size=w.heap.size:=by
  have hmf:∀ (fn:Fn) (first cap:Array Value) (w:World),(Instr.makeFunc fn first cap).run Tryz.prog w=.ok (.func fn first cap) w:=fun _ _ _ _=>rfl
  have z1:=h.cell 1
  have z2:=h.cell 2
  have z3:=h.cell 3
  have z4:=h.cell 4
  simp at z1 z2 z3 z4
  have f1:=h.frozen 1
  have f2:=h.frozen 2
  have f3:=h.frozen 3
  have f4:=h.frozen 4
  have H:=hid h
  clear h
  go_enter Tryz.func81,Tryz.ntmps81
  go_wp2
  go_end0
  refine ⟨rfl,?_,?_,?_⟩
  · exact (((H.out.set (s':={ s with begun:=false }) 2 _ rfl).set (s':={ s with begun:=false,ending:=false }) 3 _ rfl).set (s':={ s with begun:=false,ending:=false,fv:=.slice none 0 0 }) 4 _ rfl).set 1 _ rfl
  · exact ((((Ch.refl _ w).set1 2 _).set1 3 _).set1 4 _).set1 1 _
  · simp [World.setCell]
set_option maxHeartbeats 1000000 in
set_option maxRecDepth 100000 in
theorem dfEnter (w:World) (D:Nat) (s:Dfr) (A:Option Addr) (n c:Nat) (hc:c≤9223372036854775807) (hf:s.fv=.slice A n c) (h:IsDfr w D s):Calls Tryz.prog 153 #[.pointer (some ⟨D,0,none⟩)] w fun e w' =>
    e=.returned (.tuple #[])∧IsDfr w' D { s with fn:=Md.fn D .inn,begun:=true,ending:=false,fv:=.slice A 0 c }∧Ch (At1 D) w w'∧w'.heap.size=w.heap.size:=by
  have hmf:∀ (fn:Fn) (first cap:Array Value) (w:World),(Instr.makeFunc fn first cap).run Tryz.prog w=.ok (.func fn first cap) w:=fun _ _ _ _=>rfl
  have z1:=h.cell 1
  have z2:=h.cell 2
  have z3:=h.cell 3
  have z4:=h.cell 4
  simp at z1 z2 z3 z4
  rw [hf] at z4
  have f1:=h.frozen 1
  have f2:=h.frozen 2
  have f3:=h.frozen 3
  have f4:=h.frozen 4
  have H:=hid h
  have hc0:(0:Int)≤(c:Int):=by omega
  clear h hf
  go_enter Tryz.func153,Tryz.ntmps153
  go_wp2
  go_region
  all_goals
    go_wp2
    go_end0
    refine ⟨rfl,?_,?_,?_⟩
    · exact ((((H.out.set (s':={ s with begun:=true }) 2 _ rfl).set (s':={ s with begun:=true,ending:=false }) 3 _ rfl).set (s':={ s with begun:=true,ending:=false,fv:=.slice A 0 c }) 4 _ rfl).set (s':={ s with fn:=Md.fn D .inn,begun:=true,ending:=false,fv:=.slice A 0 c }) 1 (Md.fn D .inn) rfl).drew
    · exact (((((Ch.refl _ w).set1 2 _).set1 3 _).set1 4 _).set1 1 _).drew
    · simp [World.setCell,World.drew]
end
/- Layer 5: a deframer as a state,its small methods. -/
section
open Go.RowKit
structure St where
  md:Md
  fr:List UInt8
  junk:Nat
  over:Nat
  broken:Nat
def St.low (s:St) (most D:Nat) (fv:Value):Dfr:=⟨most,s.md.fn D,s.md.begun,s.md.ending,fv,s.junk,s.over,s.broken⟩
def Df (B D:Nat) (O:Option Nat) (most:Nat) (s:St) (w:World):Prop :=
  ∃ fv,fv.ownBlock=O∧O≠some D∧B≤D∧Own 5 w B fv s.fr∧IsDfr w D (s.low most D fv)
abbrev dS (D:Nat) (O:Option Nat):Nat→Prop:=fun k=>k=D∨some k=O
def Mv (D:Nat) (O O':Option Nat) (w w':World):Prop:=Ch (dS D O) w w'∧∀ k,O'=some k→k<w.heap.size→O=some k
theorem Mv.refl (D:Nat) (O:Option Nat) (w:World):Mv D O O w w:=⟨Ch.refl _ _,fun _ h _=>h⟩
theorem Mv.trans {D:Nat} {O O' O'':Option Nat} {a b c:World} (h:Mv D O O' a b) (k:Mv D O' O'' b c):Mv D O O'' a c :=
  ⟨h.1.trans k.1 (fun x hx hs=>by
    rcases hs with hs|hs
    · exact .inl hs
    · exact .inr (h.2 x hs.symm hx).symm),fun x hx hl=>h.2 x (k.2 x hx (Nat.lt_of_lt_of_le hl h.1.size)) hl⟩
theorem Mv.of1 {D:Nat} {O:Option Nat} {w w':World} (h:Ch (At1 D) w w'):Mv D O O w w' :=
  ⟨⟨h.os,h.tape,h.output,h.size,fun k hk hn=>h.block k hk (fun e=>hn (.inl e))⟩,fun _ h _=>h⟩
theorem Mv.none1 {D:Nat} {O:Option Nat} {w w':World} (h:Ch (At1 D) w w'):Mv D O none w w' :=
  ⟨(Mv.of1 h).1,fun _ h _=>by cases h⟩
theorem Mv.of_below {D:Nat} {O:Option Nat} {w w':World} (h:Below w.heap.size w w'):Mv D O O w w':=⟨Ch.of_below h,fun _ h _=>h⟩
theorem Own.cut0 {w:World} {B:Nat} {A:Option Addr} {n c:Nat} {l:List UInt8} (h:Own 5 w B (.slice A n c) l):Own 5 w B (.slice A 0 c) []:=by
  refine ⟨by simp,?_⟩
  rcases h.2 with ⟨e,_⟩|⟨g,cap,cur,e,h1,h2,h3,h4,h5,_⟩
  · injection e with e1 e2 e3
    subst e1 e3
    exact .inl ⟨rfl,rfl⟩
  · injection e with e1 e2 e3
    subst e1 e3
    exact .inr ⟨g,c,cur,rfl,h1,h2,Nat.zero_le _,h4,h5,by simp⟩
section
variable {B D most:Nat} {O:Option Nat} {s:St} {w w':World}
theorem Df.lt (h:Df B D O most s w):D<w.heap.size:=by obtain ⟨fv,_,_,_,_,h⟩:=h;exact h.lt
theorem Df.base (h:Df B D O most s w):B≤D:=by obtain ⟨fv,_,_,h,_,_⟩:=h;exact h
theorem Df.own (h:Df B D O most s w) (k:Nat) (hk:O=some k):B≤k∧k<w.heap.size:=by
  obtain ⟨fv,e,_,_,h,_⟩:=h
  exact Own.lt h k (by rw [e];exact hk)
theorem Df.ch {S:Nat→Prop} (h:Df B D O most s w) (c:Ch S w w') (h1:¬ S D) (h2:∀ k,O=some k→¬ S k):Df B D O most s w':=by
  obtain ⟨fv,e,hne,hB,ho,hd⟩:=h
  exact ⟨fv,e,hne,hB,ho.ch c (fun k hk=>h2 k (by rw [← e];exact hk)),hd.ch c h1⟩
theorem Df.below (h:Df B D O most s w) (hb:Below w.heap.size w w'):Df B D O most s w' :=
  h.ch (Ch.of_below (S:=fun _=>False) hb) (fun h=>h) (fun _ _ h=>h)
theorem Df.set {s':St} (h:Df B D O most s w) (j:Nat) (v:Value) (hfr:s'.fr=s.fr) (hs:∀ fv,(s.low most D fv).cells.setIfInBounds j v=(s'.low most D fv).cells):Df B D O most s' (w.setCell ⟨D,j,none⟩ v):=by
  obtain ⟨fv,e,hne,hB,ho,hd⟩:=h
  refine ⟨fv,e,hne,hB,?_,hd.set j v (hs fv)⟩
  rw [hfr]
  exact ho.ch ((Ch.refl (At1 D) w).set1 j v) (fun k hk hk2=>hne (by rw [← e,hk,hk2]))
end
def enterS (s:St):St:={ s with md:=.inn,fr:=[] }
def leaveS (s:St):St:={ s with md:=.out,fr:=[] }
def DfRet (v:Value) (B D:Nat) (O:Option Nat) (most:Nat) (s:St) (w:World) (e:Ending) (w':World):Prop:=e=.returned v∧∃ O',Df B D O' most s w'∧Mv D O O' w w'
theorem dLeave (B D:Nat) (O:Option Nat) (most:Nat) (s:St) (w:World) (h:Df B D O most s w):Calls Tryz.prog 81 #[.pointer (some ⟨D,0,none⟩)] w (DfRet (.tuple #[]) B D O most (leaveS s) w):=by
  obtain ⟨fv,e,hne,hB,ho,hd⟩:=h
  refine (dfLeave w D _ hd).mono fun e2 w2 ⟨he,hd2,hc,_⟩=>⟨he,none,⟨.slice none 0 0,rfl,by simp,hB,Own.nil _ _ _,hd2⟩,Mv.none1 hc⟩
theorem dEnter (B D:Nat) (O:Option Nat) (most:Nat) (s:St) (w:World) (h:Df B D O most s w):Calls Tryz.prog 153 #[.pointer (some ⟨D,0,none⟩)] w (DfRet (.tuple #[]) B D O most (enterS s) w):=by
  obtain ⟨fv,e,hne,hB,ho,hd⟩:=h
  obtain ⟨A,c,rfl,hbs,_⟩:=Own.bs ho
  refine (dfEnter w D _ A s.fr.length c hbs.max rfl hd).mono fun e2 w2 ⟨he,hd2,hc,_⟩=>⟨he,O,⟨.slice A 0 c,by rw [← e];cases A <;> rfl,hne,hB,?_,hd2⟩,Mv.of1 hc⟩
  exact ho.cut0.ch hc (fun k hk hk2=>hne (by rw [← e,← hk2,← hk];cases A <;> rfl))
set_option maxRecDepth 100000 in
theorem dBreak (B D:Nat) (O:Option Nat) (most:Nat) (s:St) (w:World) (h:Df B D O most s w) (hb:s.broken≤1099511627776):Calls Tryz.prog 187 #[.pointer (some ⟨D,0,none⟩)] w (DfRet (.tuple #[]) B D O most (enterS { s with broken:=s.broken+1 }) w):=by
  have H:=hid h
  obtain ⟨fv,_,_,_,_,hd⟩:=h
  have z7:=hd.cell 7
  simp [St.low] at z7
  have f7:=hd.frozen 7
  have ew:IntKind.i64.wrap ((s.broken:Int)+1)=((s.broken+1:Nat):Int):=by rw [IntKind.wrap_i64];omega
  clear hd
  go_enter Tryz.func187,Tryz.ntmps187
  go_wp2_with (fail)
  have H2:Hid (Df B D O most { s with broken:=s.broken+1 } (w.setCell ⟨D,7,none⟩ (.int .i64 ((s.broken:Int)+1)))):=hid (H.out.set 7 _ rfl (fun fv=>rfl))
  refine (dEnter B D O most _ _ H2.out).mono ?_
  rintro e w2 ⟨rfl,O2,hd2,hm2⟩
  have HD2:=hid hd2
  have HM2:Hid (Mv D O O2 w w2):=hid ((Mv.of1 ((Ch.refl _ w).set1 7 _)).trans hm2)
  clear hd2 hm2 H2
  go_wp2_with (fail)
  go_end0
  exact ⟨rfl,O2,HD2.out,HM2.out⟩
def layS (most:Nat) (s:St) (bs:List UInt8):St:=if most<s.fr.length+bs.length then leaveS { s with over:=s.over+1 } else { s with fr:=s.fr++bs }
set_option maxHeartbeats 1000000 in
set_option maxRecDepth 100000 in
theorem dLay (B D:Nat) (O:Option Nat) (most:Nat) (s:St) (w:World) (h:Df B D O most s w) (bs:List UInt8) (b o c:Nat) (hbs:Bs w (some ⟨b,o,none⟩) bs.length c bs) (h0:0<bs.length) (h2:bs.length≤2) (hB:B≤w.heap.size) (ho:s.over≤1099511627776) (hfr:s.fr.length≤1000000) :
    Calls Tryz.prog 189 #[.pointer (some ⟨D,0,none⟩),.slice (some ⟨b,o,none⟩) bs.length c] w (DfRet (.tuple #[]) B D O most (layS most s bs) w):=by
  have H:=hid h
  obtain ⟨fv,hfv,hne,hBD,hown,hd⟩:=h
  obtain ⟨A,cp,rfl,hfb,_⟩:=Own.bs hown
  have hfm:=hfb.nmax
  have z0:=hd.cell 0
  have z4:=hd.cell 4
  have z6:=hd.cell 6
  simp [St.low] at z0 z4 z6
  have f4:=hd.frozen 4
  have f6:=hd.frozen 6
  have ew:IntKind.i64.wrap ((s.over:Int)+1)=((s.over+1:Nat):Int):=by rw [IntKind.wrap_i64];omega
  obtain ⟨m,hm⟩:∃ m,m=s.fr.length+bs.length:=⟨_,rfl⟩
  have es:IntKind.i64.wrap ((s.fr.length:Int)+(bs.length:Int))=(m:Int):=by rw [IntKind.wrap_i64];omega
  have HBS:=hid hbs
  have HOWN:=hid hown
  have HD:=hid hd
  have HFV:=hid hfv
  have HNE:=hid hne
  have HM:=hid hm
  have H2:=hid h2
  have HF:=hid hfr
  clear hd hfb hown hbs hfv hne hm h2 hfr
  by_cases hlt:most<m
  · have d1:decide (most<m)=true:=by simpa using hlt
    have HL:=hid hlt
    clear hlt
    go_enter Tryz.func189,Tryz.ntmps189
    go_wp2_with (fail)
    go_quiet (fail)
    go_wp2_with (fail)
    have HD0:=hid (H.out.below (drawN_below (Below.refl _ w) nq))
    have HD1:Hid (Df B D O most { s with over:=s.over+1 } ((w.drewN nq).setCell ⟨D,6,none⟩ (.int .i64 ((s.over:Int)+1)))):=hid (HD0.out.set 6 _ rfl (fun fv=>rfl))
    refine (dLeave B D O most _ _ HD1.out).mono ?_
    rintro e w2 ⟨rfl,O2,hd2,hm2⟩
    have HD2:=hid hd2
    have HM2:Hid (Mv D O O2 w w2):=hid (((Mv.of_below (drawN_below (Below.refl _ w) nq)).trans (Mv.of1 ((Ch.refl _ (w.drewN nq)).set1 6 _))).trans hm2)
    clear hd2 hm2 HD1 HD0
    go_wp2_with (fail)
    go_end0
    refine ⟨rfl,O2,?_,HM2.out⟩
    unfold layS
    rw [if_pos (by have:=HM.out;have:=HL.out;omega)]
    exact HD2.out
  · have d1:decide (most<m)=false:=by simpa using hlt
    have HL:=hid hlt
    clear hlt
    go_enter Tryz.func189,Tryz.ntmps189
    go_wp2_with (fail)
    go_quiet (fail)
    have hb0:=drawN_below (Below.refl w.heap.size w) nq
    have HB0:=hid hb0
    have HOWN0:=hid (HOWN.out.below hb0)
    have HBS0:=hid (HBS.out.below hb0)
    have HD0:Hid (IsDfr (w.drewN nq) D (s.low most D (.slice A s.fr.length cp))):=hid ((hb0.block D HD.out.lt).trans HD.out)
    have hz0:(w.drewN nq).heap.size=w.heap.size:=by simp
    clear hb0
    have tok1:Hid True:=hid trivial
    have hnews:∀ (j:Nat) (u:Value),(u8s bs)[j]?=some u→(w.drewN nq).cell? ((⟨b,o,none⟩:Addr).add j)=some u:=fun j u hu=>by
      obtain ⟨x,hx,rfl⟩:=u8s_get hu
      rw [Addr.add_lit]
      obtain ⟨b',o',e,_,hc⟩:=HBS0.out.at_ h0
      injection e with e
      injection e with e1 e2
      subst e1 e2
      exact hc j x hx
    have HNW:=hid hnews
    clear hnews
    go_wp2_with (at_builtin;have _t:=tok1;go_loud ((refine wpList_appAt rfl (.tmp 30) (.tmp 31) 40 rfl B 5 (.int .u8 0) 1 Tryz.underlying40 byteInfo rfl (by decide) (.slice A s.fr.length cp) s.fr.length (u8s s.fr) rfl HOWN0.out ⟨b,o,none⟩ bs.length c (u8s bs) rfl (by simp) HNW.out (u8s_one bs) (by have:=H2.out;have:=HF.out;omega) (by rw [hz0];exact hB) ?_;intro v' w' hown' hgr hfresh;obtain ⟨A',c',rfl⟩:=own_form hown';have hd':IsDfr w' D (s.low most D (.slice A s.fr.length cp)):=(hgr.block D (by rw [hz0];exact HD.out.lt) (by rw [HFV.out];exact HNE.out.symm)).trans HD0.out;have z4':=hd'.cell 4;simp [St.low] at z4';have f4':=hd'.frozen 4;have HD':=hid hd';have HOWN':=hid hown';have HGR:=hid hgr;have HFR:=hid hfresh;clear tok1 hown' hgr hfresh hd' _t)))
    go_end0
    have hne':(Value.slice A' (s.fr.length+bs.length) c').ownBlock≠some D:=by
      rcases HFR.out with e|e
      · rw [e,HFV.out];exact HNE.out
      · rw [e,hz0];intro e2;injection e2 with e2;have:=HD.out.lt;omega
    have hch:Ch (dS D O) w w':=(Ch.of_below (S:=dS D O) HB0.out).trans (Ch.of_grown (S:=dS D O) HGR.out (fun k hk=>.inr (by rw [← hk,HFV.out]))) (fun _ _ h=>h)
    refine ⟨rfl,(Value.slice A' (s.fr.length+bs.length) c').ownBlock,⟨.slice A' (s.fr.length+bs.length) c',rfl,hne',hBD,?_,?_⟩,⟨hch.set (a:=⟨D,4,none⟩) (.inl rfl) _,?_⟩⟩
    · unfold layS
      rw [if_neg (by have:=HM.out;have:=HL.out;omega)]
      have ho2:Own 5 w' B (.slice A' (s.fr.length+bs.length) c') (s.fr++bs):=by unfold Own;rw [List.length_append];simpa using HOWN'.out
      exact ho2.ch ((Ch.refl (At1 D) w').set1 4 _) (fun k hk hk2=>hne' (by rw [hk,hk2]))
    · unfold layS
      rw [if_neg (by have:=HM.out;have:=HL.out;omega)]
      exact HD'.out.set 4 _ rfl
    · intro k hk hlt
      rcases HFR.out with e|e
      · rw [← HFV.out,← e];exact hk
      · rw [e,hz0] at hk;injection hk with hk;omega
end
/- Layer 5: what is done with one byte. -/
section
open Go.RowKit
def stepD (most:Nat) (s:St) (c:UInt8):St × Bool :=
  match s.md with
  | .out=>if c=11 then (enterS s,false) else ({ s with junk:=s.junk+1 },false)
  | .inn=>if c=11 then (enterS { s with broken:=s.broken+1 },false) else if c=28 then ({ s with md:=.beh },false) else (layS most s [c],false)
  | .beh=>if c=13 then (s,true) else if c=11 then (enterS { s with broken:=s.broken+1 },false) else if c=28 then (layS most s [28],false) else (layS most { s with md:=.inn } [28,c],false)
theorem ne_num {c:UInt8} {k:UInt8} (h:¬ c=k):(((c.toNat:Nat):Int) == ((k.toNat:Nat):Int))=false:=by
  rw [beq_eq_false_iff_ne]
  intro e
  exact h (UInt8.toNat_inj.1 (by omega))
structure St.Ok (s:St):Prop where
  junk:s.junk≤1099511627776
  over:s.over≤1099511627776
  broken:s.broken≤1099511627776
  fr:s.fr.length≤1000000
set_option maxRecDepth 100000 in
theorem dOutside (B D:Nat) (O:Option Nat) (most:Nat) (s:St) (w:World) (h:Df B D O most s w) (ok:s.Ok) (c:UInt8) (hm:s.md=.out):Calls Tryz.prog 109 #[.pointer (some ⟨D,0,none⟩),.int .u8 (c.toNat:Int)] w (DfRet (.bool (stepD most s c).2) B D O most (stepD most s c).1 w):=by
  have H:=hid h
  have HM:=hid hm
  obtain ⟨fv,_,_,_,_,hd⟩:=h
  have z5:=hd.cell 5
  simp [St.low] at z5
  have f5:=hd.frozen 5
  have ew:IntKind.i64.wrap ((s.junk:Int)+1)=((s.junk+1:Nat):Int):=by have:=ok.junk;rw [IntKind.wrap_i64];omega
  clear hd hm
  by_cases hc:c=11
  · have d11:(((c.toNat:Nat):Int) == 11)=true:=by rw [hc];rfl
    have HC:=hid hc
    clear hc
    go_enter Tryz.func109,Tryz.ntmps109
    go_wp2_with (fail)
    refine (dEnter B D O most s w H.out).mono ?_
    rintro e w2 ⟨rfl,O2,hd2,hm2⟩
    have HD2:=hid hd2
    have HM2:=hid hm2
    clear hd2 hm2
    go_wp2_with (fail)
    go_ret
    have e1:stepD most s c=(enterS s,false):=by simp [stepD,HM.out,HC.out]
    rw [e1]
    exact ⟨rfl,O2,HD2.out,HM2.out⟩
  · have d11:(((c.toNat:Nat):Int) == 11)=false:=ne_num hc
    have HC:=hid hc
    clear hc
    go_enter Tryz.func109,Tryz.ntmps109
    go_wp2_with (fail)
    go_ret
    have e1:stepD most s c=({ s with junk:=s.junk+1 },false):=by simp [stepD,HM.out,HC.out]
    rw [e1]
    exact ⟨rfl,O,H.out.set 5 _ rfl (fun fv=>rfl),Mv.of1 ((Ch.refl _ w).set1 5 _)⟩
set_option maxHeartbeats 1000000 in
set_option maxRecDepth 100000 in
theorem dInside (B D:Nat) (O:Option Nat) (most:Nat) (s:St) (w:World) (h:Df B D O most s w) (ok:s.Ok) (hB:B≤w.heap.size) (c:UInt8) (hm:s.md=.inn):Calls Tryz.prog 176 #[.pointer (some ⟨D,0,none⟩),.int .u8 (c.toNat:Int)] w (DfRet (.bool (stepD most s c).2) B D O most (stepD most s c).1 w):=by
  have hmf:∀ (fn:Fn) (first cap:Array Value) (w:World),(Instr.makeFunc fn first cap).run Tryz.prog w=.ok (.func fn first cap) w:=fun _ _ _ _=>rfl
  have H:=hid h
  have HM:=hid hm
  obtain ⟨fv,_,_,_,_,hd⟩:=h
  have z1:=hd.cell 1
  have z3:=hd.cell 3
  simp [St.low] at z1 z3
  have f1:=hd.frozen 1
  have f3:=hd.frozen 3
  clear hd hm
  by_cases hc:c=11
  · have d11:(((c.toNat:Nat):Int) == 11)=true:=by rw [hc];rfl
    have HC:=hid hc
    clear hc
    go_enter Tryz.func176,Tryz.ntmps176
    go_wp2_with (fail)
    refine (dBreak B D O most s w H.out ok.broken).mono ?_
    rintro e w2 ⟨rfl,O2,hd2,hm2⟩
    have HD2:=hid hd2
    have HM2:=hid hm2
    clear hd2 hm2
    go_wp2_with (fail)
    go_ret
    have e1:stepD most s c=(enterS { s with broken:=s.broken+1 },false):=by simp [stepD,HM.out,HC.out]
    rw [e1]
    exact ⟨rfl,O2,HD2.out,HM2.out⟩
  · have d11:(((c.toNat:Nat):Int) == 11)=false:=ne_num hc
    by_cases hc2:c=28
    · have d28:(((c.toNat:Nat):Int) == 28)=true:=by rw [hc2];rfl
      have HC:=hid hc2
      clear hc hc2
      go_enter Tryz.func176,Tryz.ntmps176
      go_wp2_with (fail)
      go_ret
      have e1:stepD most s c=({ s with md:=.beh },false):=by simp [stepD,HM.out,HC.out]
      rw [e1]
      refine ⟨rfl,O,?_,Mv.of1 (((Ch.refl _ w).set1 3 _).set1 1 _)⟩
      obtain ⟨fv,e,hne,hB2,ho,hd⟩:=H.out
      refine ⟨fv,e,hne,hB2,ho.ch (((Ch.refl (At1 D) w).set1 3 _).set1 1 _) (fun k hk hk2=>hne (by rw [← e,hk,hk2])),?_⟩
      have hb:(s.low most D fv).begun=true:=by simp [St.low,HM.out,Md.begun]
      exact (hd.set (s':={ s.low most D fv with ending:=true }) 3 _ rfl).set (s':=({ s with md:=.beh }:St).low most D fv) 1 (Md.fn D .beh) (by simp [St.low,HM.out,Md.begun,Md.ending])
    · have d28:(((c.toNat:Nat):Int) == 28)=false:=ne_num hc2
      have HC:=hid hc
      have HC2:=hid hc2
      clear hc hc2
      go_enter Tryz.func176,Tryz.ntmps176
      go_wp2_with (fail)
      have hb0:Below w.heap.size w (w.alloc (.cells #[.int .u8 (c.toNat:Int)] 5)):=(Below.refl _ w).alloc (Nat.le_refl _) _
      refine (dLay B D O most s _ (H.out.below hb0) [c] w.heap.size 0 1 (Bs.lit w [c] 5 _ w.heap.size rfl rfl rfl (by simp [maxLen])) (by simp) (by simp) (Nat.le_trans hB hb0.size) ok.over ok.fr).mono ?_
      rintro e w2 ⟨rfl,O2,hd2,hm2⟩
      have HD2:=hid hd2
      have HM2:Hid (Mv D O O2 w w2):=hid ((Mv.of_below hb0).trans hm2)
      clear hd2 hm2 hb0
      go_wp2_with (fail)
      go_ret
      have e1:stepD most s c=(layS most s [c],false):=by simp [stepD,HM.out,HC.out,HC2.out]
      rw [e1]
      exact ⟨rfl,O2,HD2.out,HM2.out⟩
end
/- Layer 5: behind an End;what is taken. -/
section
open Go.RowKit
set_option maxHeartbeats 1000000 in
set_option maxRecDepth 100000 in
theorem dBehind (B D:Nat) (O:Option Nat) (most:Nat) (s:St) (w:World) (h:Df B D O most s w) (ok:s.Ok) (hB:B≤w.heap.size) (c:UInt8) (hm:s.md=.beh):Calls Tryz.prog 188 #[.pointer (some ⟨D,0,none⟩),.int .u8 (c.toNat:Int)] w (DfRet (.bool (stepD most s c).2) B D O most (stepD most s c).1 w):=by
  have hmf:∀ (fn:Fn) (first cap:Array Value) (w:World),(Instr.makeFunc fn first cap).run Tryz.prog w=.ok (.func fn first cap) w:=fun _ _ _ _=>rfl
  have H:=hid h
  have HM:=hid hm
  obtain ⟨fv,_,_,_,_,hd⟩:=h
  have z1:=hd.cell 1
  have z3:=hd.cell 3
  simp [St.low] at z1 z3
  have f1:=hd.frozen 1
  have f3:=hd.frozen 3
  clear hd hm
  by_cases hc3:c=13
  · have d13:(((c.toNat:Nat):Int) == 13)=true:=by rw [hc3];rfl
    have HC:=hid hc3
    clear hc3
    go_enter Tryz.func188,Tryz.ntmps188
    go_wp2_with (fail)
    go_ret
    have e1:stepD most s c=(s,true):=by simp [stepD,HM.out,HC.out]
    rw [e1]
    exact ⟨rfl,O,H.out,Mv.refl _ _ _⟩
  have d13:(((c.toNat:Nat):Int) == 13)=false:=ne_num hc3
  have HC3:=hid hc3
  clear hc3
  by_cases hc:c=11
  · have d11:(((c.toNat:Nat):Int) == 11)=true:=by rw [hc];rfl
    have HC:=hid hc
    clear hc
    go_enter Tryz.func188,Tryz.ntmps188
    go_wp2_with (fail)
    refine (dBreak B D O most s w H.out ok.broken).mono ?_
    rintro e w2 ⟨rfl,O2,hd2,hm2⟩
    have HD2:=hid hd2
    have HM2:=hid hm2
    clear hd2 hm2
    go_wp2_with (fail)
    go_ret
    have e1:stepD most s c=(enterS { s with broken:=s.broken+1 },false):=by simp [stepD,HM.out,HC.out]
    rw [e1]
    exact ⟨rfl,O2,HD2.out,HM2.out⟩
  · have d11:(((c.toNat:Nat):Int) == 11)=false:=ne_num hc
    have HC:=hid hc
    clear hc
    by_cases hc2:c=28
    · have d28:(((c.toNat:Nat):Int) == 28)=true:=by rw [hc2];rfl
      have HC2:=hid hc2
      clear hc2
      go_enter Tryz.func188,Tryz.ntmps188
      go_wp2_with (fail)
      have hb0:Below w.heap.size w (w.alloc (.cells #[.int .u8 28] 5)):=(Below.refl _ w).alloc (Nat.le_refl _) _
      refine (dLay B D O most s _ (H.out.below hb0) [28] w.heap.size 0 1 (Bs.lit w [28] 5 _ w.heap.size rfl rfl rfl (by simp [maxLen])) (by simp) (by simp) (Nat.le_trans hB hb0.size) ok.over ok.fr).mono ?_
      rintro e w2 ⟨rfl,O2,hd2,hm2⟩
      have HD2:=hid hd2
      have HM2:Hid (Mv D O O2 w w2):=hid ((Mv.of_below hb0).trans hm2)
      clear hd2 hm2 hb0
      go_wp2_with (fail)
      go_ret
      have e1:stepD most s c=(layS most s [28],false):=by simp [stepD,HM.out,HC2.out]
      rw [e1]
      exact ⟨rfl,O2,HD2.out,HM2.out⟩
    · have d28:(((c.toNat:Nat):Int) == 28)=false:=ne_num hc2
      have HC2:=hid hc2
      clear hc2
      go_enter Tryz.func188,Tryz.ntmps188
      go_wp2_with (fail)
      have H1:Hid (Df B D O most { s with md:=.inn } ((w.setCell ⟨D,3,none⟩ (.bool false)).setCell ⟨D,1,none⟩ (Md.fn D .inn))):=hid (by
        obtain ⟨fv,e,hne,hB2,ho,hd⟩:=H.out
        refine ⟨fv,e,hne,hB2,ho.ch (((Ch.refl (At1 D) w).set1 3 _).set1 1 _) (fun k hk hk2=>hne (by rw [← e,hk,hk2])),?_⟩
        exact (hd.set (s':={ s.low most D fv with ending:=false }) 3 _ rfl).set (s':=({ s with md:=.inn }:St).low most D fv) 1 (Md.fn D .inn) (by simp [St.low,HM.out,Md.begun,Md.ending]))
      have HM1:Hid (Mv D O O w ((w.setCell ⟨D,3,none⟩ (.bool false)).setCell ⟨D,1,none⟩ (Md.fn D .inn))):=hid (Mv.of1 (((Ch.refl _ w).set1 3 _).set1 1 _))
      change Calls _ _ _ (World.alloc ((w.setCell ⟨D,3,none⟩ (.bool false)).setCell ⟨D,1,none⟩ (Md.fn D .inn)) _) _
      have hs1:B≤((w.setCell ⟨D,3,none⟩ (.bool false)).setCell ⟨D,1,none⟩ (Md.fn D .inn)).heap.size:=Nat.le_trans hB HM1.out.1.size
      have hz1:((w.setCell ⟨D,3,none⟩ (.bool false)).setCell ⟨D,1,none⟩ (Md.fn D .inn)).heap.size=w.heap.size:=by simp [World.setCell]
      rw [← hz1]
      obtain ⟨W,hW⟩:∃ W,W=(w.setCell ⟨D,3,none⟩ (.bool false)).setCell ⟨D,1,none⟩ (Md.fn D .inn):=⟨_,rfl⟩
      rw [← hW] at H1 HM1 hs1 ⊢
      clear hW hz1 z1 z3 f1 f3
      have hb0:Below W.heap.size W (W.alloc (.cells #[.int .u8 28,.int .u8 (c.toNat:Int)] 5)):=(Below.refl _ W).alloc (Nat.le_refl _) _
      refine (dLay B D O most { s with md:=.inn } _ (H1.out.below hb0) [28,c] W.heap.size 0 2 (Bs.lit W [28,c] 5 _ W.heap.size rfl rfl rfl (by simp [maxLen])) (by simp) (by simp) (Nat.le_trans hs1 hb0.size) ok.over ok.fr).mono ?_
      rintro e w2 ⟨rfl,O2,hd2,hm2⟩
      have HD2:=hid hd2
      have HM2:Hid (Mv D O O2 w w2):=hid ((HM1.out.trans (Mv.of_below hb0)).trans hm2)
      clear hd2 hm2 hb0 hs1
      go_wp2_with (fail)
      go_ret
      have e1:stepD most s c=(layS most { s with md:=.inn } [28,c],false):=by simp [stepD,HM.out,HC3.out,HC.out,HC2.out]
      rw [e1]
      exact ⟨rfl,O2,HD2.out,HM2.out⟩
def Fresh (w:World) (l:List UInt8) (e:Ending) (w':World):Prop:=∃ g,e=.returned (.slice (some ⟨g,0,none⟩) l.length l.length)∧w.heap.size≤g∧w'.heap[g]?=some (.cells (u8s l).toArray 5)∧Below w.heap.size w w'
set_option maxHeartbeats 1000000 in
set_option maxRecDepth 100000 in
theorem dTaken (B D:Nat) (O:Option Nat) (most:Nat) (s:St) (w:World) (h:Df B D O most s w) (ok:s.Ok):Calls Tryz.prog 80 #[.pointer (some ⟨D,0,none⟩)] w (Fresh w s.fr):=by
  obtain ⟨fv,hfv,hne,hBD,hown,hd⟩:=h
  obtain ⟨A,cp,rfl,hfb,_⟩:=Own.bs hown
  have hfm:=hfb.nmax
  have z4:=hd.cell 4
  simp [St.low] at z4
  have HD:=hid hd
  have HB:=hid hfb
  obtain ⟨Z,HZ,hzl,hmk⟩:=mk_zeros ((s.fr.length:Nat):Int) s.fr.length rfl (by have:=ok.fr;omega)
  have HZL:=hid hzl
  have z4':∀ o,(w.alloc o).cell? ⟨D,4,none⟩=some (.slice A s.fr.length cp):=fun o=>(((Below.refl w.heap.size w).alloc (Nat.le_refl _) o).cell (p:=⟨D,4,none⟩) HD.out.lt).trans z4
  clear hd hfb hown hfv hne hzl
  go_enter Tryz.func80,Tryz.ntmps80
  go_wp2_with (with_reducible show wpList _ _ _ _ _ _;refine wpList_cpyTo rfl (.tmp 10) (.tmp 14) 40 40 rfl 5 Tryz.underlying40 byteInfo w.heap.size 0 _ _ _ rfl Z 5 (heap_alloc_new w _) A s.fr.length s.fr.length cp s.fr rfl (HB.out.alloc _) (fun _=>rfl) (by omega) (by rw [HZL.out];omega) ?_;intro w1 hw1 hb1;have HB1:=hid hb1;clear hb1)
  go_ret
  have hr:=hw1.out
  rw [List.take_zero,List.nil_append,List.drop_of_length_le (by rw [HZL.out];omega),List.append_nil] at hr
  exact ⟨w.heap.size,rfl,Nat.le_refl _,hr,((Below.refl _ w).alloc (Nat.le_refl _) _).trans (HB1.out.mono (Nat.le_refl _))⟩
end
/- Layer 5: bytes in a row. -/
section
open Go.RowKit
def eatD (most:Nat) (p:St × List (List UInt8)) (c:UInt8):St × List (List UInt8) :=
  if (stepD most p.1 c).2 then (leaveS (stepD most p.1 c).1,p.2++[(stepD most p.1 c).1.fr]) else ((stepD most p.1 c).1,p.2)
def feedD (most:Nat) (s:St) (l:List UInt8):St × List (List UInt8):=l.foldl (eatD most) (s,[])
theorem feedD_snoc (most:Nat) (s:St) (l:List UInt8) (c:UInt8):feedD most s (l++[c])=eatD most (feedD most s l) c:=by
  simp [feedD,List.foldl_append]
theorem eat_one (most:Nat) (s:St) (X:List (List UInt8)) (c:UInt8):eatD most (s,X) c=((eatD most (s,[]) c).1,X++(eatD most (s,[]) c).2):=by
  simp only [eatD]
  split <;> simp
theorem eat_shift (most:Nat):∀ (l:List UInt8) (s:St) (X:List (List UInt8)),l.foldl (eatD most) (s,X)=((feedD most s l).1,X++(feedD most s l).2)
  | [],s,X=>by simp [feedD]
  | c :: r,s,X=>by
    rw [List.foldl_cons,eat_one,eat_shift most r,show feedD most s (c :: r)=r.foldl (eatD most) ((eatD most (s,[]) c).1,(eatD most (s,[]) c).2) from rfl,eat_shift most r (eatD most (s,[]) c).1 (eatD most (s,[]) c).2]
    simp
theorem feedD_append (most:Nat) (s:St) (a b:List UInt8):feedD most s (a++b)=((feedD most (feedD most s a).1 b).1,(feedD most s a).2++(feedD most (feedD most s a).1 b).2):=by
  rw [feedD,List.foldl_append,show a.foldl (eatD most) (s,[])=feedD most s a from rfl]
  exact eat_shift most b (feedD most s a).1 (feedD most s a).2
structure St.Up (most M:Nat) (s:St):Prop where
  junk:s.junk≤M
  over:s.over≤M
  broken:s.broken≤M
  fr:s.fr.length≤most
theorem St.Up.more {most M M':Nat} {s:St} (h:St.Up most M s) (hm:M≤M'):St.Up most M' s:=⟨Nat.le_trans h.junk hm,Nat.le_trans h.over hm,Nat.le_trans h.broken hm,h.fr⟩
theorem St.Up.ok {most M:Nat} {s:St} (h:St.Up most M s) (hM:M≤1099511627776) (hm:most≤1000000):s.Ok:=⟨Nat.le_trans h.junk hM,Nat.le_trans h.over hM,Nat.le_trans h.broken hM,Nat.le_trans h.fr hm⟩
theorem layS_up {most M:Nat} {s:St} (h:St.Up most M s) (bs:List UInt8):St.Up most (M+1) (layS most s bs):=by
  have:=h.junk;have:=h.over;have:=h.broken;have:=h.fr
  unfold layS
  split
  · exact ⟨by simp [leaveS];omega,by simp [leaveS];omega,by simp [leaveS];omega,by simp [leaveS]⟩
  · exact ⟨by simp;omega,by simp;omega,by simp;omega,by simp;omega⟩
theorem step_up {most M:Nat} {s:St} (h:St.Up most M s) (c:UInt8):St.Up most (M+1) (stepD most s c).1:=by
  have hj:=h.junk;have ho:=h.over;have hb:=h.broken;have hf:=h.fr
  have e1:St.Up most (M+1) (enterS { s with broken:=s.broken+1 }):=⟨by simp [enterS];omega,by simp [enterS];omega,by simp [enterS];omega,by simp [enterS]⟩
  unfold stepD
  cases s.md <;> simp only
  · split
    · exact ⟨by simp [enterS];omega,by simp [enterS];omega,by simp [enterS];omega,by simp [enterS]⟩
    · exact ⟨by simp;omega,by simp;omega,by simp;omega,hf⟩
  · split
    · exact e1
    · split
      · exact ⟨by simp;omega,by simp;omega,by simp;omega,hf⟩
      · exact layS_up h [c]
  · split
    · exact h.more (by omega)
    · split
      · exact e1
      · split
        · exact layS_up h [28]
        · exact layS_up (s:={ s with md:=.inn }) ⟨hj,ho,hb,hf⟩ [28,c]
theorem eat_up {most M:Nat} {p:St × List (List UInt8)} (h:St.Up most M p.1) (c:UInt8):St.Up most (M+1) (eatD most p c).1:=by
  have:=step_up h c
  unfold eatD
  split
  · exact ⟨this.junk,this.over,this.broken,Nat.zero_le _⟩
  · exact this
theorem feed_up {most M:Nat} {s:St} (h:St.Up most M s) (l:List UInt8):∀ k,k≤l.length→St.Up most (M+k) (feedD most s (l.take k)).1
  | 0,_=>by simpa [feedD] using h
  | k+1,hk=>by
    have:=eat_up (feed_up h l k (by omega)) (l[k]'(by omega))
    rw [List.take_succ_eq_append_getElem (by omega),feedD_snoc]
    exact this
theorem feed_len (most:Nat) (s:St) (l:List UInt8):∀ k,k≤l.length→(feedD most s (l.take k)).2.length≤k
  | 0,_=>by simp [feedD]
  | k+1,hk=>by
    have:=feed_len most s l k (by omega)
    rw [List.take_succ_eq_append_getElem (by omega),feedD_snoc]
    unfold eatD
    split
    · simp;omega
    · simp;omega
end
/- Layer 5: rows of bytes in blocks of their own. -/
section
open Go.RowKit
abbrev bv (g:Nat) (x:List UInt8):Value:=.slice (some ⟨g,0,none⟩) x.length x.length
def RowsG (B:Nat) (S:Nat→Prop) (w:World) (v:Value) (L:List (List UInt8)) (gs:List Nat):Prop :=
  gs.length=L.length∧w.ownsRow B 40 1 v L.length (List.zipWith bv gs L)∧(∀ k,v.ownBlock=some k→¬ S k) ∧
    ∀ (i g:Nat) (x:List UInt8),gs[i]?=some g→L[i]?=some x→B≤g∧¬ S g∧w.heap[g]?=some (.cells (u8s x).toArray 5)
def RowsAt (B:Nat) (S:Nat→Prop) (w:World) (v:Value) (L:List (List UInt8)):Prop:=∃ gs,RowsG B S w v L gs
theorem RowsAt.nil (B:Nat) (S:Nat→Prop) (w:World):RowsAt B S w (.slice none 0 0) []:=⟨[],rfl,World.ownsRow_nil w B 40 1,(fun k h=>by cases h),(fun i g x h=>by cases h)⟩
theorem RowsAt.ch {B:Nat} {S S':Nat→Prop} {w w':World} {v:Value} {L:List (List UInt8)} (h:RowsAt B S w v L) (c:Ch S w w') (hS:∀ k,k<w.heap.size→S' k→S k):RowsAt B S' w' v L:=by
  obtain ⟨gs,hl,ho,hv,hg⟩:=h
  refine ⟨gs,hl,⟨ho.1,?_⟩,fun k hk hs=>hv k hk (hS k (World.ownsRow.lt ho k hk).2 hs),fun i g x h1 h2=>?_⟩
  · rcases ho.2 with hn|⟨g,cap,cur,e,h1,h2,h3⟩
    · exact .inl hn
    · exact .inr ⟨g,cap,cur,e,h1,c.row h2 (hv g (by rw [e];rfl)),h3⟩
  · obtain ⟨a,b,d⟩:=hg i g x h1 h2
    exact ⟨a,fun hs=>b (hS g (Array.getElem?_eq_some_iff.1 d).1 hs),c.row d b⟩
theorem RowsAt.below {B:Nat} {S:Nat→Prop} {w w':World} {v:Value} {L:List (List UInt8)} (h:RowsAt B S w v L) (hb:Below w.heap.size w w'):RowsAt B S w' v L:=h.ch (Ch.of_below hb) (fun _ _ h=>h)
theorem RowsG.more {B:Nat} {S:Nat→Prop} {w w':World} {v v':Value} {L:List (List UInt8)} {gs:List Nat} {x:List UInt8} {G:Nat} (h:RowsG B S w v L gs) (hG:w.heap[G]?=some (.cells (u8s x).toArray 5)) (hB:B≤G) (hS:¬ S G) (hSn:¬ S w.heap.size)
    (hown:w'.ownsRow B 40 1 v' (L.length+1) (List.zipWith bv gs L++[bv G x])) (hgr:w.grownBy w' v.ownBlock) (hfr:v'.ownBlock=v.ownBlock∨v'.ownBlock=some w.heap.size):RowsG B S w' v' (L++[x]) (gs++[G]):=by
  obtain ⟨hl,ho,hv,hg⟩:=h
  have keep:∀ (g:Nat) (y:List UInt8),w.heap[g]?=some (.cells (u8s y).toArray 5)→w'.heap[g]?=some (.cells (u8s y).toArray 5):=fun g y hy=>by
    rw [hgr.block g (Array.getElem?_eq_some_iff.1 hy).1 (own_ne ho hy (by decide))]
    exact hy
  refine ⟨by simp [hl],?_,fun k hk=>?_,fun i g y h1 h2=>?_⟩
  · rw [List.length_append,List.zipWith_append hl]
    exact hown
  · rcases hfr with e|e
    · exact hv k (by rw [← e];exact hk)
    · rw [e] at hk;injection hk with hk;rw [← hk];exact hSn
  · by_cases hi:i<L.length
    · rw [List.getElem?_append_left (by rw [hl];exact hi)] at h1
      rw [List.getElem?_append_left hi] at h2
      obtain ⟨a,b,d⟩:=hg i g y h1 h2
      exact ⟨a,b,keep _ _ d⟩
    · rw [List.getElem?_append_right (by rw [hl];omega),hl] at h1
      rw [List.getElem?_append_right (by omega)] at h2
      have:i-L.length=0:=by
        rcases Nat.lt_or_ge (i-L.length) 1 with h|h
        · omega
        · rw [List.getElem?_eq_none (by simpa using h)] at h2;cases h2
      rw [this] at h1 h2
      simp at h1 h2
      subst h1 h2
      exact ⟨hB,hS,keep _ _ hG⟩
end
/- Layer 5: Feed. -/
section
open Go.RowKit
def FnOkF (k:FuncId):Prop:=∀ (args:Array Value) (w:World),(callFunc k args).run Tryz.prog w=.ok (.enter k args) w
theorem okOut:FnOkF 109:=fun args w=>Go.MuLone.run_callFunc_enter Tryz.func109 (by kernel_rfl) rfl args w
theorem okInn:FnOkF 176:=fun args w=>Go.MuLone.run_callFunc_enter Tryz.func176 (by kernel_rfl) rfl args w
theorem okBeh:FnOkF 188:=fun args w=>Go.MuLone.run_callFunc_enter Tryz.func188 (by kernel_rfl) rfl args w
theorem nextFn (B D most:Nat) (t:St):∃ F,Md.fn D t.md=bfn F D∧FnOkF F∧∀ (O:Option Nat) (w:World) (x:UInt8),Df B D O most t w→t.Ok→B≤w.heap.size→Calls Tryz.prog F #[.pointer (some ⟨D,0,none⟩),.int .u8 (x.toNat:Int)] w (DfRet (.bool (stepD most t x).2) B D O most (stepD most t x).1 w):=by
  cases hm:t.md
  · exact ⟨_,rfl,okOut,fun O w x h ok hB=>dOutside B D O most t w h ok x hm⟩
  · exact ⟨_,rfl,okInn,fun O w x h ok hB=>dInside B D O most t w h ok hB x hm⟩
  · exact ⟨_,rfl,okBeh,fun O w x h ok hB=>dBehind B D O most t w h ok hB x hm⟩
def FeedPost (B D:Nat) (O:Option Nat) (most:Nat) (s:St) (fs:List (List UInt8)) (w:World) (e:Ending) (w':World):Prop :=
  ∃ v O',e=.returned (.tuple #[v,.int .i64 0])∧RowsAt w.heap.size (dS D O') w' v fs∧Df B D O' most s w'∧Mv D O O' w w'
theorem Mv.fresh {D:Nat} {O O':Option Nat} {S':Nat→Prop} {w a b:World} (h:Mv D O O' w a) (c:Ch S' a b) (hS:∀ x,S' x→w.heap.size≤x):Mv D O O' w b :=
  ⟨h.1.trans c (fun x hx hs=>by have:=hS x hs;omega),h.2⟩
set_option maxHeartbeats 2000000 in
set_option maxRecDepth 100000 in
theorem dFeed (B D:Nat) (O:Option Nat) (most M:Nat) (s:St) (w:World) (h:Df B D O most s w) (hB:B≤w.heap.size) (hm:most≤1000000) (up:St.Up most M s) (A:Option Addr) (n c:Nat) (l:List UInt8) (hbs:Bs w A n c l) (hA:0<n→∀ b,A=some b→¬ dS D O b.block) (hM:M+n≤1099511627776) :
    Calls Tryz.prog 50 #[.pointer (some ⟨D,0,none⟩),.slice A n c] w (FeedPost B D O most (feedD most s l).1 (feedD most s l).2 w):=by
  have H:=hid h
  have HBS:=hid hbs
  have UP:=hid up
  have HA:=hid hA
  have HMM:=hid hM
  have hmax:=hbs.nmax
  have hLn:=hid hbs.len
  clear h hbs up hA hM
  go_enter Tryz.func50,Tryz.ntmps50
  go_wp2_with (fail)
  go_loopw [6,13,8] (fun v i _ wr=>∃ k:Nat,k≤n∧i=.int .i64 k∧∃ O',RowsAt w.heap.size (dS D O') wr v (feedD most s (l.take k)).2∧Df B D O' most (feedD most s (l.take k)).1 wr∧Mv D O O' w wr) (fun _ i _ _=>n-(intOf i).toNat)
  case atStart=>exact ⟨0,Nat.zero_le _,rfl,O,by rw [List.take_zero];exact RowsAt.nil _ _ _,by rw [List.take_zero];exact H.out,Mv.refl _ _ _⟩
  case round =>
    obtain ⟨wo,rfl⟩:∃ wo:World,wo=wr:=⟨_,rfl⟩
    obtain ⟨k,hk,rfl,O1,hr,hd,hmv⟩:=hrel
    have HR:=hid hr
    have HD:=hid hd
    have HM:=hid hmv
    clear hr hd hmv
    by_cases hlt:k<n
    · have hlk:k<l.length:=by rw [hLn.out];exact hlt
      obtain ⟨b,o,rfl,_,hcell⟩:=(HBS.out.ch HM.out.1 HA.out).at_ (by omega)
      have hcc:=hcell k l[k] (List.getElem?_eq_getElem hlk)
      have e1:(k:Int)<(n:Int):=by omega
      have hup:=feed_up UP.out l k (by omega)
      have hfl:=feed_len most s l k (by omega)
      have HOK:Hid ((feedD most s (l.take k)).1.Ok):=hid (hup.ok (by have:=HMM.out;omega) hm)
      have HSN:=hid (show feedD most s (l.take (k+1))=eatD most (feedD most s (l.take k)) l[k] by rw [List.take_succ_eq_append_getElem hlk,feedD_snoc])
      obtain ⟨x,hx⟩:∃ x,x=l[k]:=⟨_,rfl⟩
      obtain ⟨t,X,ht⟩:∃ t X,feedD most s (l.take k)=(t,X):=⟨_,_,rfl⟩
      rw [← hx] at hcc HSN
      rw [ht] at HR HD HOK HSN hfl
      simp only at HR HD HOK HSN hfl
      have HFL:Hid (X.length≤k):=hid hfl
      have HLT:=hid hlt
      have hBo:B≤wo.heap.size:=Nat.le_trans hB HM.out.1.size
      have HBO:=hid hBo
      obtain ⟨fv,_,_,_,_,hdd⟩:=HD.out
      have z1:=hdd.cell 1
      simp [St.low] at z1
      have hup2:St.Up most (M+k) t:=by rw [ht] at hup;exact hup
      have HUP:=hid hup2
      clear hcell hlt hlk hup hup2 hfl hx ht hdd hBo
      obtain ⟨F,hF,kF,hcall⟩:=nextFn B D most t
      unfold FnOkF at kF
      rw [hF] at z1
      have HC:=hid hcall
      clear hF hcall
      simp only [bfn] at z1
      go_wp2_with (fail)
      refine (HC.out O1 wo x HD.out HOK.out HBO.out).mono ?_
      rintro e w2 ⟨rfl,O2,hd2,hm2⟩
      have HD2:=hid hd2
      have HM2:=hid hm2
      have HR2:Hid (RowsAt w.heap.size (dS D O2) w2 u6 X):=hid (HR.out.ch hm2.1 (fun j hj hs=>by
        rcases hs with hs|hs
        · exact .inl hs
        · exact .inr (hm2.2 j hs.symm hj).symm))
      have HBO2:Hid (B≤w2.heap.size):=hid (Nat.le_trans HBO.out hm2.1.size)
      have HWO2:Hid (wo.heap.size≤w2.heap.size):=hid hm2.1.size
      clear hd2 hm2 HR HC kF z1 hcc
      cases he:(stepD most t x).2
      · have HE:Hid (feedD most s (l.take (k+1))=((stepD most t x).1,X)):=hid (by rw [HSN.out,eatD,if_neg (by simp [he])])
        clear he
        go_wp2_with (fail)
        refine ⟨⟨k+1,HLT.out,by go_num,O2,?_,?_,HM.out.trans HM2.out⟩,by have:=HLT.out;simp [intOf];omega⟩
        · rw [HE.out];exact HR2.out
        · rw [HE.out];exact HD2.out
      · have HE:Hid (feedD most s (l.take (k+1))=(leaveS (stepD most t x).1,X++[(stepD most t x).1.fr])):=hid (by rw [HSN.out,eatD,if_pos (by simp [he])])
        have HOK2:Hid ((stepD most t x).1.Ok):=hid ((step_up HUP.out x).ok (by have:=HMM.out;have:=HLT.out;omega) hm)
        clear he
        generalize (stepD most t x).1=t2 at *
        go_wp2_with (fail)
        refine (dTaken B D O2 most t2 w2 HD2.out HOK2.out).mono ?_
        rintro e w3 ⟨g,rfl,hg1,hg2,hb3⟩
        have hb4:Below w2.heap.size w2 (w3.alloc (.cells #[bv g t2.fr] 40)):=hb3.alloc hb3.size _
        obtain ⟨gs,hG⟩:=HR2.out.below hb4
        have HG:=hid hG
        have HB4:=hid hb4
        have HG1:=hid hg1
        have HG2:Hid ((w3.alloc (.cells #[bv g t2.fr] 40)).heap[g]?=some (.cells (u8s t2.fr).toArray 5)):=hid ((((Below.refl w3.heap.size w3).alloc (Nat.le_refl _) _).block g (Array.getElem?_eq_some_iff.1 hg2).1).trans hg2)
        have HSW:Hid (w.heap.size≤w2.heap.size):=hid (Nat.le_trans HM.out.1.size HWO2.out)
        have HD4:=hid (HD2.out.below hb4)
        have HSZ3:Hid (w2.heap.size≤w3.heap.size):=hid hb3.size
        have HNW:Hid (∀ (j:Nat) (u:Value),[bv g t2.fr][j]?=some u→(w3.alloc (.cells #[bv g t2.fr] 40)).cell? ((⟨w3.heap.size,0,none⟩:Addr).add j)=some u):=hid (fun j u hu=>by
          have hj:j=0:=by
            rcases Nat.lt_or_ge j 1 with h|h
            · omega
            · rw [List.getElem?_eq_none (by simpa using h)] at hu;cases hu
          subst hj
          rw [Addr.add_lit,Nat.zero_add,cell_of_row _ w3.heap.size 0 _ _ _ (heap_alloc_new w3 _)]
          exact hu)
        have HOC:Hid (∀ u ∈ [bv g t2.fr],u.oneCell'=true):=hid (fun u hu=>by simp at hu;subst hu;rfl)
        clear hG hb4 hg1 hg2 hb3
        have tok1:Hid True:=hid trivial
        go_wp2_with (at_builtin;have _t:=tok1;go_loud ((refine wpList_appAt rfl (.tmp 23) (.tmp 26) 41 rfl w.heap.size 40 (.slice none 0 0) 24 Tryz.underlying41 rowsInfo rfl (by decide) u6 X.length (List.zipWith bv gs X) rfl HG.out.2.1 ⟨w3.heap.size,0,none⟩ 1 1 [bv g t2.fr] rfl rfl HNW.out HOC.out (by have:=HFL.out;have:=HLT.out;have:=HMM.out;omega) (by have:=HSW.out;have:=HSZ3.out;simp;omega) ?_;intro v' w5 hown' hgr hfresh;have HOWN:=hid hown';have HGR:=hid hgr;have HFR:=hid hfresh;clear tok1 hown' hgr hfresh _t)))
        have hz4:(w3.alloc (.cells #[bv g t2.fr] 40)).heap.size=w3.heap.size+1:=by simp
        have hnS:∀ k,w2.heap.size≤k→¬ dS D O2 k:=fun k hk hs=>by
          rcases hs with hs|hs
          · have:=HD2.out.lt;omega
          · have:=(HD2.out.own k hs.symm).2;omega
        have hrow:=HG.out.more HG2.out (by have:=HSW.out;have:=HG1.out;omega) (hnS g HG1.out) (hnS _ (by rw [hz4];have:=HSZ3.out;omega)) HOWN.out HGR.out HFR.out
        have hch5:Ch (fun k=>u6.ownBlock=some k) (w3.alloc (.cells #[bv g t2.fr] 40)) w5:=Ch.of_grown HGR.out (fun k hk=>hk)
        have hd5:Df B D O2 most t2 w5:=HD4.out.ch hch5 (fun h=>HG.out.2.2.1 D h (.inl rfl)) (fun k hk h=>HG.out.2.2.1 k h (.inr hk.symm))
        have hm5:Mv D O O2 w w5:=((HM.out.trans HM2.out).trans (Mv.of_below HB4.out)).fresh hch5 (fun x hx=>(World.ownsRow.lt HG.out.2.1 x hx).1)
        have HD5:=hid hd5
        have HM5:=hid hm5
        have HROW:=hid hrow
        clear hrow hch5 hd5 hm5 hz4 hnS HG HB4 HG1 HG2 HD4 HSZ3 HNW HOC HOWN HGR HFR HR2 HD2 HM2
        refine (dLeave B D O2 most t2 w5 HD5.out).mono ?_
        rintro e w6 ⟨rfl,O6,hd6,hm6⟩
        have HD6:=hid hd6
        have HM6:Hid (Mv D O O6 w w6):=hid (HM5.out.trans hm6)
        have HR6:Hid (RowsAt w.heap.size (dS D O6) w6 v' (X++[t2.fr])):=hid (RowsAt.ch ⟨_,HROW.out⟩ hm6.1 (fun j hj hs=>by
          rcases hs with hs|hs
          · exact .inl hs
          · exact .inr (hm6.2 j hs.symm hj).symm))
        clear hd6 hm6 HROW HD5 HM5
        go_wp2_with (fail)
        refine ⟨⟨k+1,HLT.out,by go_num,O6,?_,?_,HM6.out⟩,by have:=HLT.out;simp [intOf];omega⟩
        · rw [HE.out];exact HR6.out
        · rw [HE.out];exact HD6.out
    · obtain rfl:k=n:=by omega
      rw [List.take_of_length_le (by rw [hLn.out];exact Nat.le_refl _)] at HR HD
      obtain ⟨A6,c6,rfl⟩:∃ A6 c6,u6=.slice A6 (feedD most s l).2.length c6:=by
        obtain ⟨gs,hg⟩:=HR.out
        exact own_form hg.2.1
      go_wp2_with (fail)
      exact bodyPost_ret (v:=.tuple #[.slice A6 (feedD most s l).2.length c6,.int .i64 0]) (by simp [results,Tryz.results50,go_sem]) rfl ⟨_,O1,rfl,HR.out,HD.out,HM.out⟩
end
/- Layer 5: New,Reset,and what is only told. -/
section
open Go.RowKit
def newS:St:=⟨.out,[],0,0,0⟩
def heldD (s:St):Nat:=match s.md with
  | .out=>0
  | .inn=>1+s.fr.length
  | .beh=>1+s.fr.length+1
set_option maxRecDepth 100000 in
theorem dNew (m:Nat) (h0:1≤m) (h1:m≤65536) (w:World):Calls Tryz.prog 63 #[.int .i64 (m:Int)] w fun e w' =>
    ∃ D,e=.returned (.tuple #[.pointer (some ⟨D,0,none⟩),.int .i64 0])∧Df w.heap.size D none m newS w'∧Below w.heap.size w w':=by
  have d0:¬ (m:Int)<1:=by omega
  have d1:¬ (65536:Int)<(m:Int):=by omega
  have H:Hid (IsDfr (w.alloc (.cells (Dfr.cells ⟨m,.nilFunc,false,false,.slice none 0 0,0,0,0⟩) 146)) w.heap.size ⟨m,.nilFunc,false,false,.slice none 0 0,0,0,0⟩):=hid (heap_alloc_new w _)
  go_enter Tryz.func63,Tryz.ntmps63
  go_wp2_with (fail)
  refine (dfLeave _ w.heap.size _ H.out).mono ?_
  rintro e w2 ⟨rfl,hd,hc,_⟩
  have HD:Hid (Df w.heap.size w.heap.size none m newS w2):=hid ⟨.slice none 0 0,rfl,by simp,Nat.le_refl _,Own.nil _ _ _,hd⟩
  have HB:Hid (Below w.heap.size w w2):=hid (((Below.refl _ w).alloc (Nat.le_refl _) _).trans (hc.below (fun k hk=>by rw [hk];exact Nat.le_refl _) (by simp)))
  clear hd hc H
  go_wp2_with (fail)
  exact bodyPost_ret (v:=.tuple #[.pointer (some ⟨w.heap.size,0,none⟩),.int .i64 0]) (by simp [results,Tryz.results63,go_sem]) rfl ⟨w.heap.size,rfl,HD.out,HB.out⟩
section
variable (B D:Nat) (O:Option Nat) (most:Nat) (s:St) (w:World)
set_option maxRecDepth 100000 in
theorem dHeld (h:Df B D O most s w) (hfl:s.fr.length≤1000000):Calls Tryz.prog 62 #[.pointer (some ⟨D,0,none⟩)] w fun e w'=>e=.returned (.int .i64 (heldD s:Int))∧w=w':=by
  obtain ⟨fv,_,_,_,hown,hd⟩:=h
  obtain ⟨A,cp,rfl,hfb,_⟩:=Own.bs hown
  have hfm:=hfb.nmax
  have z2:=hd.cell 2
  have z3:=hd.cell 3
  have z4:=hd.cell 4
  simp [St.low] at z2 z3 z4
  clear hd hfb hown
  cases hmd:s.md
  · have HM:=hid hmd
    rw [hmd] at z2 z3
    simp only [Md.begun,Md.ending] at z2 z3
    clear hmd
    go_enter Tryz.func62,Tryz.ntmps62
    go_wp2
    go_ret
    exact ⟨by simp [heldD,HM.out],rfl⟩
  · have HM:=hid hmd
    rw [hmd] at z2 z3
    simp only [Md.begun,Md.ending] at z2 z3
    clear hmd
    go_enter Tryz.func62,Tryz.ntmps62
    go_wp2
    go_ret
    exact ⟨by simp [heldD,HM.out],rfl⟩
  · have HM:=hid hmd
    rw [hmd] at z2 z3
    simp only [Md.begun,Md.ending] at z2 z3
    clear hmd
    go_enter Tryz.func62,Tryz.ntmps62
    go_wp2
    go_ret
    exact ⟨by simp [heldD,HM.out],rfl⟩
end
end
/- Layer 5: rows that are read;are they the same? -/
section
open Go.RowKit
theorem RowsAt.rd {B:Nat} {S:Nat→Prop} {w:World} {v:Value} {L:List (List UInt8)} (h:RowsAt B S w v L) (hx:∀ x ∈ L,x.length≤maxLen):∃ A c,v=.slice A L.length c∧Rd w A L.length c L:=by
  obtain ⟨gs,hl,ho,_,hg⟩:=h
  rcases ho.2 with ⟨rfl,h0⟩|⟨g,cap,cur,rfl,h1,h2,h3,h4,h5,h6⟩
  · exact ⟨none,0,by rw [h0],rfl,by omega,by simp [maxLen],fun hn=>by omega⟩
  · refine ⟨_,cap,rfl,rfl,h3,h4,fun _=>⟨g,0,rfl,(Array.getElem?_eq_some_iff.1 h2).1,fun i x hi=>?_⟩⟩
    have hil:i<L.length:=(List.getElem?_eq_some_iff.1 hi).1
    have hgl:i<gs.length:=by rw [hl];exact hil
    obtain ⟨_,_,hr⟩:=hg i gs[i] x (List.getElem?_eq_getElem hgl) hi
    refine ⟨some ⟨gs[i],0,none⟩,x.length,?_,Bs.block hr rfl (hx x (List.mem_of_getElem? hi))⟩
    rw [Nat.zero_add,cell_of_row w g i cur _ _ h2]
    have e:(cur.toList.take (L.length*1))[i]?=(List.zipWith bv gs L)[i]?:=by rw [h6]
    rw [Nat.mul_one,List.getElem?_take,if_pos hil,List.getElem?_zipWith,List.getElem?_eq_getElem hgl,hi] at e
    simpa using e
theorem feed_short {most M:Nat} {s:St} (h:St.Up most M s) (l:List UInt8):∀ k,k≤l.length→∀ x ∈ (feedD most s (l.take k)).2,x.length≤most
  | 0,_,x,hx=>by simp [feedD] at hx
  | k+1,hk,x,hx=>by
    have ih:=feed_short h l k (by omega) x
    have hu:=step_up (feed_up h l k (by omega)) (l[k]'(by omega))
    rw [List.take_succ_eq_append_getElem (by omega),feedD_snoc] at hx
    unfold eatD at hx
    split at hx
    · simp only [List.mem_append,List.mem_singleton] at hx
      rcases hx with hx|rfl
      · exact ih hx
      · exact hu.fr
    · exact ih hx
end
/- Layer 5: Reset. -/
section
open Go.RowKit
section
variable (B D:Nat) (O:Option Nat) (most:Nat) (s:St) (w:World)
set_option maxRecDepth 100000 in
theorem dReset (h:Df B D O most s w):Calls Tryz.prog 59 #[.pointer (some ⟨D,0,none⟩)] w (DfRet (.tuple #[]) B D O most (leaveS s) w):=by
  have H:=hid h
  clear h
  go_enter Tryz.func59,Tryz.ntmps59
  go_wp2_with (fail)
  refine (dLeave B D O most s w H.out).mono ?_
  rintro e w2 ⟨rfl,O2,hd2,hm2⟩
  have HD2:=hid hd2
  have HM2:=hid hm2
  clear hd2 hm2
  go_wp2_with (fail)
  go_end0
  exact ⟨rfl,O2,HD2.out,HM2.out⟩
end
end
end Go.Proofs.YtodjilljcjkacaaGreatDoor
