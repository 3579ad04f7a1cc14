/- Laid together: GuardC, In1, CutMath. -/
import Derived.Test.YtodjilljcjkacaaGreatDoorPkIB10
import Derived.Tactics
import Derived.Tactics2
import Derived.Defers
import Derived.Recover
import Derived.Laws.Pointers
import Derived.RegionTactic
import Derived.Conc.MuLone
import Derived.Conc.LoneCalls
import Derived.Test.YtodjilljcjkacaaGreatDoorRows
import Derived.Lib.SplitLaws
import Derived.Lib.Join

namespace Go.Proofs.YtodjilljcjkacaaGreatDoor
open Lib (hid)
/- Layer 3: a crash,lost and told;what Run defers. -/
section
open Go.RowKit
theorem assert_yesG (v:Value) (w:World):(Instr.typeAssert (.iface 48 v) 20 48 true).run Tryz.prog w=.ok (.tuple #[v,.bool true]) w:=by
  simp [Instr.typeAssert,go_sem,run_underlying Tryz.underlying48]
end
/- Layer 3: what Run defers. -/
section
open Go.RowKit
set_option maxRecDepth 100000 in
theorem guardLost_yes (op:Int) (w:World):Calls Tryz.prog 79 #[crashI op] w fun e w'=>e=.returned (.tuple #[crash op,.bool true])∧Below w.heap.size w w':=by
  have hta:=assert_yesG (crash op)
  go_enter Tryz.func79,Tryz.ntmps79
  go_wp2
  exact bodyPost_ret (v:=.tuple #[crash op,.bool true]) (by simp [results,Tryz.results79,go_sem]) rfl ⟨rfl,((Below.refl _ w).alloc (Nat.le_refl _) _).alloc (by simp) _⟩
theorem tm37 (P Q v:Value):(#[P,Q]++((Array.replicate 12 undef).setIfInBounds 1 v).setIfInBounds 0 v)=#[P,Q,v,v,undef,undef,undef,undef,undef,undef,undef,undef,undef,undef]:=rfl
theorem run1_idle (p q:Addr) (w:World) :
    CallsD Tryz.prog 78 #[.pointer (some p),.pointer (some q)] .returning w fun e u' w'=>e=.returned (.tuple #[])∧u'=.returning∧w'=w:=by
  refine callsD_of_wpS Tryz.func78 rfl fun c₀ cs hu=>?_
  apply wpS_seq
  apply wpS_region
  simp [wpOpsS,go_sem,recoverD,hu,Tryz.ntmps78,Exit.thenS]
  rw [tm37]
  refine wpS_of_wp ?_
  go_wp2_with (fail)
  cases c₀
  simp_all [bodyPostS,results,Tryz.results78]
set_option maxHeartbeats 1000000 in
theorem run1_crash (C G:Nat) (op x:Int) (y:Bool) (older:List PanicEntry) (B:Nat) (hC:B≤C) (hG:B≤G) (hne:C≠G) (w:World) (rC:w.heap[C]?=some (.cells #[.int .i64 x] 48)) (rG:w.heap[G]?=some (.cells #[.bool y] 4)) :
    CallsD Tryz.prog 78 #[.pointer (some ⟨C,0,none⟩),.pointer (some ⟨G,0,none⟩)] (.panicking ({ v:=crashI op,recovered:=false } :: older)) w fun e u' w' =>
      e=.returned (.tuple #[])∧u'=.panicking ({ v:=crashI op,recovered:=true } :: older)∧Below B w w'∧w'.heap[C]?=some (.cells #[.int .i64 op] 48)∧w'.heap[G]?=some (.cells #[.bool true] 4):=by
  have hl1:C<w.heap.size:=(Array.getElem?_eq_some_iff.1 rC).1
  have hl2:G<w.heap.size:=(Array.getElem?_eq_some_iff.1 rG).1
  refine callsD_of_wpS Tryz.func78 rfl fun c₀ cs hu=>?_
  apply wpS_seq
  apply wpS_region
  simp [wpOpsS,go_sem,recoverD,hu,Tryz.ntmps78,Exit.thenS]
  rw [tm37]
  refine wpS_of_wp ?_
  go_wp2_with (fail)
  refine (guardLost_yes op w).mono ?_
  rintro e w1 ⟨rfl,hb1⟩
  have r1:w1.heap[C]?=some (.cells #[.int .i64 x] 48):=by rw [hb1.block _ hl1];exact rC
  have r2:w1.heap[G]?=some (.cells #[.bool y] 4):=by rw [hb1.block _ hl2];exact rG
  have c1:=cell_of_row w1 C 0 _ _ _ r1
  have c2:=cell_of_row w1 G 0 _ _ _ r2
  simp only [List.getElem?_toArray,List.getElem?_cons_zero] at c1 c2
  have f1:w1.frozen? ⟨C,0,none⟩=false:=by simp [World.frozen?,r1]
  have f2:w1.frozen? ⟨G,0,none⟩=false:=by simp [World.frozen?,r2]
  have hne':G≠C:=fun h=>hne h.symm
  have L1:=hid rC
  have L2:=hid rG
  have L3:=hid r1
  have L4:=hid r2
  have L5:=hid hb1
  have L6:=hid hl1
  clear rC rG r1 r2 hb1 hu hl1 hl2
  go_wp2_with (fail)
  refine ⟨rfl,_,rfl,_,by simp [results,Tryz.results78],rfl,rfl,?_,?_,?_⟩
  · have hb:Below B w w1:=⟨L5.out.os,L5.out.tape,L5.out.output,L5.out.size,fun k hk=>L5.out.block k (Nat.lt_of_lt_of_le (Nat.lt_of_lt_of_le hk hC) (Nat.le_of_lt L6.out))⟩
    exact (hb.setCell (p:=⟨C,0,none⟩) hC _).setCell (p:=⟨G,0,none⟩) hG _
  · rw [heap_setCell_other _ _ _ _ (by show C≠G;exact hne)]
    exact heap_setCell_same _ _ _ _ _ _ L3.out
  · exact heap_setCell_same (w1.setCell ⟨C,0,none⟩ (.int .i64 op)) G 0 _ _ _ (by rw [heap_setCell_other _ _ _ _ (by show G≠C;exact fun h=>hne h.symm)];exact L4.out)
end
/- Layer 3: Run of any function. -/
section
open Go.RowKit
set_option maxRecDepth 100000 in
theorem func_nil (fn:Fn) (first cap:Array Value) (w:World):(binOp .eql 1 (.func fn first cap) .nilFunc).run Tryz.prog w=.ok (.bool false) w:=by
  first
  | rfl
  | simp [binOp,go_sem,run_underlying Tryz.underlying1]
def FnOkG (k:FuncId):Prop:=∀ (args:Array Value) (w:World),(callFunc k args).run Tryz.prog w=.ok (.enter k args) w
theorem rows_twoG (h:Array Obj) (X Y:Obj):((h.push X).push Y)[h.size]?=some X∧((h.push X).push Y)[h.size+1]?=some Y:=by
  constructor
  · rw [Array.getElem?_push,if_neg (by simp)];simp
  · rw [Array.getElem?_push,if_pos (by simp)]
def RunPost (B:Nat) (Ret:World→Prop) (Pan:Int→World→Prop) (e:Ending) (w'':World):Prop :=
  ∃ w',Below B w' w''∧((e=.returned (.tuple #[crash 0,.bool false])∧Ret w')∨∃ op,e=.returned (.tuple #[crash op,.bool true])∧Pan op w')
def RunPre (B:Nat) (w1:World) (Ret:World→Prop) (Pan:Int→World→Prop) (e:Ending) (w':World):Prop :=
  (∀ b,B≤b→b<w1.heap.size→w'.heap[b]?=w1.heap[b]?)∧w1.heap.size≤w'.heap.size∧((e=.returned (.tuple #[])∧Ret w')∨∃ op,e=.panicked [{ v:=crashI op,recovered:=false }]∧Pan op w')
set_option maxHeartbeats 1000000 in
set_option maxRecDepth 100000 in
theorem guardRun (k:FuncId) (caps:Array Value) (hk:FnOkG k) (w:World) (Ret:World→Prop) (Pan:Int→World→Prop)
    (h:∀ w1,Below w.heap.size w w1→Calls Tryz.prog k caps w1 (RunPre w.heap.size w1 Ret Pan)) :
    Calls Tryz.prog 48 #[.func (.func k) #[] caps] w (RunPost w.heap.size Ret Pan):=by
  have hmf:∀ (fn:Fn) (first cap:Array Value) (w:World),(Instr.makeFunc fn first cap).run Tryz.prog w=.ok (.func fn first cap) w:=fun _ _ _ _=>rfl
  have hfn:=func_nil
  have H:=hid h
  have hkk:∀ (args:Array Value) (w:World),(callFunc k args).run Tryz.prog w=.ok (.enter k args) w:=hk
  clear hk
  clear h
  go_enter_defers Tryz.func48,Tryz.ntmps48
  go_wp2_with (fail)
  have hr:=rows_twoG w.heap (.cells #[.int .i64 0] 48) (.cells #[.bool false] 4)
  have hb1:Below w.heap.size w ((w.alloc (.cells #[.int .i64 0] 48)).alloc (.cells #[.bool false] 4)):=((Below.refl _ w).alloc (Nat.le_refl _) _).alloc (by simp) _
  have hr1:((w.alloc (.cells #[.int .i64 0] 48)).alloc (.cells #[.bool false] 4)).heap[w.heap.size]?=some (.cells #[.int .i64 0] 48):=hr.1
  have hr2:((w.alloc (.cells #[.int .i64 0] 48)).alloc (.cells #[.bool false] 4)).heap[w.heap.size+1]?=some (.cells #[.bool false] 4):=hr.2
  have hs1:((w.alloc (.cells #[.int .i64 0] 48)).alloc (.cells #[.bool false] 4)).heap.size=w.heap.size+2:=by simp
  clear hr
  have HK:=H.out _ hb1
  clear H hb1
  generalize (w.alloc (.cells #[.int .i64 0] 48)).alloc (.cells #[.bool false] 4)=w1 at *
  obtain ⟨B,hB⟩:∃ B,B=w.heap.size:=⟨_,rfl⟩
  rw [← hB] at hr1 hr2 hs1 HK ⊢
  have HBB:=hid hB
  clear hB
  refine HK.mono ?_
  rintro e w2 ⟨hkeep,hsz,hcase⟩
  have rC:w2.heap[B]?=some (.cells #[.int .i64 0] 48):=by rw [hkeep B (Nat.le_refl _) (by omega)];exact hr1
  have rG:w2.heap[B+1]?=some (.cells #[.bool false] 4):=by rw [hkeep (B+1) (by omega) (by omega)];exact hr2
  have HS:=hid hsz
  clear hkeep hr1 hr2 hs1 hsz HK
  rcases hcase with ⟨rfl,hRet⟩|⟨op,rfl,hPan⟩
  · have HR:=hid hRet
    clear hRet
    have c1:=cell_of_row w2 B 0 _ _ _ rC
    have c2:=cell_of_row w2 (B+1) 0 _ _ _ rG
    simp only [List.getElem?_toArray,List.getElem?_cons_zero] at c1 c2
    have f1:w2.frozen? ⟨B,0,none⟩=false:=by simp [World.frozen?,rC]
    have f2:w2.frozen? ⟨B+1,0,none⟩=false:=by simp [World.frozen?,rG]
    have L1:=hid rC
    have L2:=hid rG
    clear rC rG
    go_wp2_with (fail)
    clear c1 c2 f1 f2
    have R2:((w2.setCell ⟨B,0,none⟩ (.int .i64 0)).setCell ⟨B+1,0,none⟩ (.bool false)).heap[B+1]?=some (.cells #[.bool false] 4) :=
      heap_setCell_same (w2.setCell ⟨B,0,none⟩ (.int .i64 0)) (B+1) 0 _ _ _ (by rw [heap_setCell_other _ _ _ _ (by show B+1≠B;omega)];exact L2.out)
    have R1:((w2.setCell ⟨B,0,none⟩ (.int .i64 0)).setCell ⟨B+1,0,none⟩ (.bool false)).heap[B]?=some (.cells #[.int .i64 0] 48):=by
      rw [heap_setCell_other _ _ _ _ (by show B≠B+1;omega)]
      exact heap_setCell_same _ _ _ _ _ _ L1.out
    have hbb:Below B w2 ((w2.setCell ⟨B,0,none⟩ (.int .i64 0)).setCell ⟨B+1,0,none⟩ (.bool false)):=((Below.refl B w2).setCell (p:=⟨B,0,none⟩) (Nat.le_refl _) _).setCell (p:=⟨B+1,0,none⟩) (Nat.le_succ _) _
    generalize (w2.setCell ⟨B,0,none⟩ (.int .i64 0)).setCell ⟨B+1,0,none⟩ (.bool false)=w3 at *
    refine leaves_cons (f:=78) (args:=#[.pointer (some ⟨B,0,none⟩),.pointer (some ⟨B+1,0,none⟩)]) (by simp) (by simp [go_sem]) ?_
    refine (run1_idle ⟨B,0,none⟩ ⟨B+1,0,none⟩ w3).mono ?_
    rintro e u' w'' ⟨rfl,rfl,rfl⟩
    have c1:=cell_of_row w'' B 0 _ _ _ R1
    have c2:=cell_of_row w'' (B+1) 0 _ _ _ R2
    simp only [List.getElem?_toArray,List.getElem?_cons_zero] at c1 c2
    have hP:RunPost w.heap.size Ret Pan (.returned (.tuple #[crash 0,.bool false])) w'':=⟨w2,HBB.out ▸ hbb,.inl ⟨rfl,HR.out⟩⟩
    simp [Leaves,settle,results,Tryz.results48,go_sem,c1,c2]
    exact hP
  · show Leaves _ _ _ _ _ _ _
    have hne:B≠B+1:=by omega
    refine leaves_cons (f:=78) (args:=#[.pointer (some ⟨B,0,none⟩),.pointer (some ⟨B+1,0,none⟩)]) (by simp) (by simp [go_sem]) ?_
    refine (run1_crash B (B+1) op 0 false [] B (Nat.le_refl _) (Nat.le_succ _) hne w2 rC rG).mono ?_
    rintro e u' w'' ⟨rfl,rfl,hbb,R1,R2⟩
    have c1:=cell_of_row w'' B 0 _ _ _ R1
    have c2:=cell_of_row w'' (B+1) 0 _ _ _ R2
    simp only [List.getElem?_toArray,List.getElem?_cons_zero] at c1 c2
    have hP:RunPost B Ret Pan (.returned (.tuple #[crash op,.bool true])) w'':=⟨w2,hbb,.inr ⟨op,rfl,hPan⟩⟩
    simp [Leaves,settle,results,Tryz.results48,go_sem,c1,c2]
    exact hP
end
/- Layer 3: Run and Do of any function,with the blocks that change behind it. -/
section
open Go.RowKit
set_option maxHeartbeats 1000000 in
theorem run1_crashS (C G:Nat) (op x:Int) (y:Bool) (older:List PanicEntry) (hne:C≠G) (w:World) (rC:w.heap[C]?=some (.cells #[.int .i64 x] 48)) (rG:w.heap[G]?=some (.cells #[.bool y] 4)) :
    CallsD Tryz.prog 78 #[.pointer (some ⟨C,0,none⟩),.pointer (some ⟨G,0,none⟩)] (.panicking ({ v:=crashI op,recovered:=false } :: older)) w fun e u' w' =>
      e=.returned (.tuple #[])∧u'=.panicking ({ v:=crashI op,recovered:=true } :: older)∧Ch (fun k=>k=C∨k=G) w w'∧w'.heap[C]?=some (.cells #[.int .i64 op] 48)∧w'.heap[G]?=some (.cells #[.bool true] 4):=by
  have hl1:C<w.heap.size:=(Array.getElem?_eq_some_iff.1 rC).1
  have hl2:G<w.heap.size:=(Array.getElem?_eq_some_iff.1 rG).1
  refine callsD_of_wpS Tryz.func78 rfl fun c₀ cs hu=>?_
  apply wpS_seq
  apply wpS_region
  simp [wpOpsS,go_sem,recoverD,hu,Tryz.ntmps78,Exit.thenS]
  rw [tm37]
  refine wpS_of_wp ?_
  go_wp2_with (fail)
  refine (guardLost_yes op w).mono ?_
  rintro e w1 ⟨rfl,hb1⟩
  have r1:w1.heap[C]?=some (.cells #[.int .i64 x] 48):=by rw [hb1.block _ hl1];exact rC
  have r2:w1.heap[G]?=some (.cells #[.bool y] 4):=by rw [hb1.block _ hl2];exact rG
  have c1:=cell_of_row w1 C 0 _ _ _ r1
  have c2:=cell_of_row w1 G 0 _ _ _ r2
  simp only [List.getElem?_toArray,List.getElem?_cons_zero] at c1 c2
  have f1:w1.frozen? ⟨C,0,none⟩=false:=by simp [World.frozen?,r1]
  have f2:w1.frozen? ⟨G,0,none⟩=false:=by simp [World.frozen?,r2]
  have hne':G≠C:=fun h=>hne h.symm
  have L1:=hid rC
  have L2:=hid rG
  have L3:=hid r1
  have L4:=hid r2
  have L5:=hid hb1
  have L6:=hid hl1
  clear rC rG r1 r2 hb1 hu hl1 hl2
  go_wp2_with (fail)
  refine ⟨rfl,_,rfl,_,by simp [results,Tryz.results78],rfl,rfl,?_,?_,?_⟩
  · exact ((Ch.of_below (S:=fun k=>k=C∨k=G) L5.out).set (a:=⟨C,0,none⟩) (.inl rfl) _).set (a:=⟨G,0,none⟩) (.inr rfl) _
  · rw [heap_setCell_other _ _ _ _ (by show C≠G;exact hne)]
    exact heap_setCell_same _ _ _ _ _ _ L3.out
  · exact heap_setCell_same (w1.setCell ⟨C,0,none⟩ (.int .i64 op)) G 0 _ _ _ (by rw [heap_setCell_other _ _ _ _ (by show G≠C;exact fun h=>hne h.symm)];exact L4.out)
def RunPostS (W:World) (B:Nat) (Ret:World→World→Prop) (Pan:Int→World→World→Prop) (e:Ending) (w'':World):Prop :=
  ∃ w1 w',Below B W w1∧w1.heap.size≤w'.heap.size∧Ch (fun k=>B≤k∧k<w1.heap.size) w' w''∧((e=.returned (.tuple #[crash 0,.bool false])∧Ret w1 w')∨∃ op,e=.returned (.tuple #[crash op,.bool true])∧Pan op w1 w')
set_option maxHeartbeats 1000000 in
set_option maxRecDepth 100000 in
theorem guardRunS (k:FuncId) (caps:Array Value) (hk:FnOkG k) (w:World) (Ret:World→World→Prop) (Pan:Int→World→World→Prop)
    (h:∀ w1,Below w.heap.size w w1→Calls Tryz.prog k caps w1 (RunPre w.heap.size w1 (Ret w1) (fun op=>Pan op w1))) :
    Calls Tryz.prog 48 #[.func (.func k) #[] caps] w (RunPostS w w.heap.size Ret Pan):=by
  have hmf:∀ (fn:Fn) (first cap:Array Value) (w:World),(Instr.makeFunc fn first cap).run Tryz.prog w=.ok (.func fn first cap) w:=fun _ _ _ _=>rfl
  have hfn:=func_nil
  have H:=hid h
  have hkk:∀ (args:Array Value) (w:World),(callFunc k args).run Tryz.prog w=.ok (.enter k args) w:=hk
  clear hk
  clear h
  go_enter_defers Tryz.func48,Tryz.ntmps48
  go_wp2_with (fail)
  have hr:=rows_twoG w.heap (.cells #[.int .i64 0] 48) (.cells #[.bool false] 4)
  have hb1:Below w.heap.size w ((w.alloc (.cells #[.int .i64 0] 48)).alloc (.cells #[.bool false] 4)):=((Below.refl _ w).alloc (Nat.le_refl _) _).alloc (by simp) _
  have hr1:((w.alloc (.cells #[.int .i64 0] 48)).alloc (.cells #[.bool false] 4)).heap[w.heap.size]?=some (.cells #[.int .i64 0] 48):=hr.1
  have hr2:((w.alloc (.cells #[.int .i64 0] 48)).alloc (.cells #[.bool false] 4)).heap[w.heap.size+1]?=some (.cells #[.bool false] 4):=hr.2
  have hs1:((w.alloc (.cells #[.int .i64 0] 48)).alloc (.cells #[.bool false] 4)).heap.size=w.heap.size+2:=by simp
  clear hr
  have HK:=H.out _ hb1
  clear H
  generalize (w.alloc (.cells #[.int .i64 0] 48)).alloc (.cells #[.bool false] 4)=w1 at *
  obtain ⟨B,hB⟩:∃ B,B=w.heap.size:=⟨_,rfl⟩
  rw [← hB] at hr1 hr2 hs1 HK hb1 ⊢
  have HB1:=hid hb1
  have HS1:=hid hs1
  clear hb1
  have HBB:=hid hB
  clear hB
  refine HK.mono ?_
  rintro e w2 ⟨hkeep,hsz,hcase⟩
  have rC:w2.heap[B]?=some (.cells #[.int .i64 0] 48):=by rw [hkeep B (Nat.le_refl _) (by omega)];exact hr1
  have rG:w2.heap[B+1]?=some (.cells #[.bool false] 4):=by rw [hkeep (B+1) (by omega) (by omega)];exact hr2
  have HS:=hid hsz
  clear hkeep hr1 hr2 hs1 hsz HK
  rcases hcase with ⟨rfl,hRet⟩|⟨op,rfl,hPan⟩
  · have HR:=hid hRet
    clear hRet
    have c1:=cell_of_row w2 B 0 _ _ _ rC
    have c2:=cell_of_row w2 (B+1) 0 _ _ _ rG
    simp only [List.getElem?_toArray,List.getElem?_cons_zero] at c1 c2
    have f1:w2.frozen? ⟨B,0,none⟩=false:=by simp [World.frozen?,rC]
    have f2:w2.frozen? ⟨B+1,0,none⟩=false:=by simp [World.frozen?,rG]
    have L1:=hid rC
    have L2:=hid rG
    clear rC rG
    go_wp2_with (fail)
    clear c1 c2 f1 f2
    have R2:((w2.setCell ⟨B,0,none⟩ (.int .i64 0)).setCell ⟨B+1,0,none⟩ (.bool false)).heap[B+1]?=some (.cells #[.bool false] 4) :=
      heap_setCell_same (w2.setCell ⟨B,0,none⟩ (.int .i64 0)) (B+1) 0 _ _ _ (by rw [heap_setCell_other _ _ _ _ (by show B+1≠B;omega)];exact L2.out)
    have R1:((w2.setCell ⟨B,0,none⟩ (.int .i64 0)).setCell ⟨B+1,0,none⟩ (.bool false)).heap[B]?=some (.cells #[.int .i64 0] 48):=by
      rw [heap_setCell_other _ _ _ _ (by show B≠B+1;omega)]
      exact heap_setCell_same _ _ _ _ _ _ L1.out
    have hbb:Ch (fun k=>B≤k∧k<w1.heap.size) w2 ((w2.setCell ⟨B,0,none⟩ (.int .i64 0)).setCell ⟨B+1,0,none⟩ (.bool false)):=((Ch.refl _ w2).set (a:=⟨B,0,none⟩) ⟨Nat.le_refl _,by have:=HS1.out;show B<_;omega⟩ _).set (a:=⟨B+1,0,none⟩) ⟨by show B≤B+1;omega,by have:=HS1.out;show B+1<_;omega⟩ _
    generalize (w2.setCell ⟨B,0,none⟩ (.int .i64 0)).setCell ⟨B+1,0,none⟩ (.bool false)=w3 at *
    refine leaves_cons (f:=78) (args:=#[.pointer (some ⟨B,0,none⟩),.pointer (some ⟨B+1,0,none⟩)]) (by simp) (by simp [go_sem]) ?_
    refine (run1_idle ⟨B,0,none⟩ ⟨B+1,0,none⟩ w3).mono ?_
    rintro e u' w'' ⟨rfl,rfl,rfl⟩
    have c1:=cell_of_row w'' B 0 _ _ _ R1
    have c2:=cell_of_row w'' (B+1) 0 _ _ _ R2
    simp only [List.getElem?_toArray,List.getElem?_cons_zero] at c1 c2
    have hP:RunPostS w B Ret Pan (.returned (.tuple #[crash 0,.bool false])) w'':=⟨w1,w2,HB1.out,HS.out,hbb,.inl ⟨rfl,HR.out⟩⟩
    try rw [HBB.out] at hP
    simp [Leaves,settle,results,Tryz.results48,go_sem,c1,c2]
    exact hP
  · show Leaves _ _ _ _ _ _ _
    have hne:B≠B+1:=by omega
    refine leaves_cons (f:=78) (args:=#[.pointer (some ⟨B,0,none⟩),.pointer (some ⟨B+1,0,none⟩)]) (by simp) (by simp [go_sem]) ?_
    refine (run1_crashS B (B+1) op 0 false [] hne w2 rC rG).mono ?_
    rintro e u' w'' ⟨rfl,rfl,hbb,R1,R2⟩
    have c1:=cell_of_row w'' B 0 _ _ _ R1
    have c2:=cell_of_row w'' (B+1) 0 _ _ _ R2
    simp only [List.getElem?_toArray,List.getElem?_cons_zero] at c1 c2
    have hP:RunPostS w B Ret Pan (.returned (.tuple #[crash op,.bool true])) w'':=⟨w1,w2,HB1.out,HS.out,(Ch.refl _ w2).trans hbb (fun x _ h=>by have:=HS1.out;rcases h with rfl | rfl <;> exact ⟨by omega,by omega⟩),.inr ⟨op,rfl,hPan⟩⟩
    simp [Leaves,settle,results,Tryz.results48,go_sem,c1,c2]
    exact hP
end
/- Layer 3: Do of any function,with the blocks that change behind it. -/
section
open Go.RowKit
set_option maxRecDepth 100000 in
theorem funcE_some (fn:Fn) (first cap:Array Value) (w:World):(binOp .eql 52 (.func fn first cap) .nilFunc).run Tryz.prog w=.ok (.bool false) w:=by
  first
  | rfl
  | simp [binOp,go_sem,run_underlying Tryz.underlying52]
def FCallsS (v:Value) (W:World) (R:Ending→World→Prop):Prop:=∃ (k:FuncId) (caps:Array Value),v=.func (.func k) #[] caps∧FnOkG k∧Calls Tryz.prog k caps W R
def DoPreS (B:Nat) (w1:World) (Ret:Int→World→Prop) (Pan:Int→World→Prop) (e:Ending) (w':World):Prop :=
  (∀ b,B≤b→b<w1.heap.size→w'.heap[b]?=w1.heap[b]?)∧w1.heap.size≤w'.heap.size∧((∃ n,e=.returned (.int .i64 n)∧Ret n w')∨∃ op,e=.panicked [{ v:=crashI op,recovered:=false }]∧Pan op w')
def DoPostS (W:World) (B:Nat) (Ret:Int→World→World→Prop) (Pan:Int→World→World→Prop) (e:Ending) (w'':World):Prop :=
  ∃ w1 w',Below B W w1∧w1.heap.size≤w'.heap.size∧Ch (fun k=>B≤k∧k<w1.heap.size) w' w''∧((∃ n,e=.returned (.tuple #[.int .i64 n,crash 0,.bool false])∧Ret n w1 w')∨∃ op,e=.returned (.tuple #[.int .i64 0,crash op,.bool true])∧Pan op w1 w')
def Do1PostS (Q:Nat) (C:Nat) (W:World) (Ret:Int→World→Prop) (Pan:Int→World→Prop) (e:Ending) (w':World):Prop :=
  (∀ b,C≤b→b≠Q→b<W.heap.size→w'.heap[b]?=W.heap[b]?)∧W.heap.size≤w'.heap.size ∧
  ((e=.returned (.tuple #[])∧∃ n w0,Ret n w0∧W.heap.size≤w0.heap.size∧Ch (At1 Q) w0 w'∧w'.heap[Q]?=some (.cells #[.int .i64 n] 46))∨∃ op,e=.panicked [{ v:=crashI op,recovered:=false }]∧Pan op w'∧w'.heap[Q]?=some (.cells #[.int .i64 0] 46))
theorem okDo1:FnOkG 49:=fun args w=>Go.MuLone.run_callFunc_enter Tryz.func49 (by kernel_rfl) rfl args w
set_option maxRecDepth 100000 in
theorem guardDo1S (P Q C:Nat) (v:Value) (W:World) (hP:W.heap[P]?=some (.cells #[v] 52)) (hQ:W.heap[Q]?=some (.cells #[.int .i64 0] 46)) (hC:C≤Q) (Ret:Int→World→Prop) (Pan:Int→World→Prop)
    (h:FCallsS v W (DoPreS C W Ret Pan)):Calls Tryz.prog 49 #[.pointer (some ⟨P,0,none⟩),.pointer (some ⟨Q,0,none⟩)] W (Do1PostS Q C W Ret Pan):=by
  obtain ⟨k,caps,rfl,hk,hc⟩:=h
  have hkk:∀ (args:Array Value) (w:World),(callFunc k args).run Tryz.prog w=.ok (.enter k args) w:=hk
  have c:=cell_of_row W P 0 _ _ _ hP
  simp only [List.getElem?_toArray,List.getElem?_cons_zero] at c
  have HQL:Hid (Q<W.heap.size):=hid (Array.getElem?_eq_some_iff.1 hQ).1
  have HQ:=hid hQ
  have HC:=hid hc
  clear hP hQ hk hc
  go_enter Tryz.func49,Tryz.ntmps49
  go_wp2_with (fail)
  refine HC.out.mono ?_
  rintro e w2 ⟨hkeep,hsz,hcase⟩
  have hr:w2.heap[Q]?=some (.cells #[.int .i64 0] 46):=by rw [hkeep Q hC HQL.out];exact HQ.out
  rcases hcase with ⟨n,rfl,hret⟩|⟨op,rfl,hpan⟩
  · have HK:=hid hkeep
    have HSZ:=hid hsz
    have HRT:=hid hret
    have HR:=hid hr
    have c2:=cell_of_row w2 Q 0 _ _ _ hr
    simp only [List.getElem?_toArray,List.getElem?_cons_zero] at c2
    have f2:w2.frozen? ⟨Q,0,none⟩=false:=by simp [World.frozen?,hr]
    clear hkeep hsz hret hr c HC
    go_wp2_with (fail)
    go_end0
    refine ⟨fun b hb hne hlt=>?_,by simpa using HSZ.out,.inl ⟨rfl,n,w2,HRT.out,HSZ.out,(Ch.refl _ _).set1 0 _,heap_setCell_same _ _ _ _ _ _ HR.out⟩⟩
    rw [heap_setCell_other _ _ _ _ (by show b≠Q;exact hne)]
    exact HK.out b hb hlt
  · exact ⟨rfl,fun b hb hne hlt=>hkeep b hb hlt,hsz,.inr ⟨op,rfl,hpan,hr⟩⟩
theorem rows_threeG (h:Array Obj) (X Y Z:Obj):(((h.push X).push Y).push Z)[h.size]?=some X∧(((h.push X).push Y).push Z)[h.size+1]?=some Y∧(((h.push X).push Y).push Z)[h.size+2]?=some Z:=by
  refine ⟨?_,?_,?_⟩
  · rw [Array.getElem?_push,if_neg (by simp;omega)];exact (rows_twoG h X Y).1
  · rw [Array.getElem?_push,if_neg (by simp)];exact (rows_twoG h X Y).2
  · rw [Array.getElem?_push,if_pos (by simp)]
set_option maxHeartbeats 2000000 in
set_option maxRecDepth 100000 in
theorem guardDoS (v:Value) (w:World) (Ret:Int→World→World→Prop) (Pan:Int→World→World→Prop) (h:∀ w1,Below w.heap.size w w1→FCallsS v w1 (DoPreS w.heap.size w1 (fun n=>Ret n w1) (fun op=>Pan op w1))) :
    Calls Tryz.prog 14 #[v] w (DoPostS w w.heap.size Ret Pan):=by
  have hmf:∀ (fn:Fn) (first cap:Array Value) (w:World),(Instr.makeFunc fn first cap).run Tryz.prog w=.ok (.func fn first cap) w:=fun _ _ _ _=>rfl
  obtain ⟨k,caps,rfl,_,_⟩:=h w (Below.refl _ _)
  have hfs:=funcE_some
  have H:=hid h
  clear h
  go_enter Tryz.func14,Tryz.ntmps14
  go_wp2_with (fail)
  have h3:=rows_threeG w.heap (.cells #[.func (.func k) #[] caps] 52) (.cells #[.int .i64 0] 48) (.cells #[.int .i64 0] 46)
  have hb2:Below w.heap.size w (((w.alloc (.cells #[.func (.func k) #[] caps] 52)).alloc (.cells #[.int .i64 0] 48)).alloc (.cells #[.int .i64 0] 46)):=(((Below.refl _ w).alloc (Nat.le_refl _) _).alloc (by simp) _).alloc (by simp;omega) _
  have hs2:(((w.alloc (.cells #[.func (.func k) #[] caps] 52)).alloc (.cells #[.int .i64 0] 48)).alloc (.cells #[.int .i64 0] 46)).heap.size=w.heap.size+3:=by simp
  have hr0:(((w.alloc (.cells #[.func (.func k) #[] caps] 52)).alloc (.cells #[.int .i64 0] 48)).alloc (.cells #[.int .i64 0] 46)).heap[w.heap.size]?=_:=h3.1
  have hr1:(((w.alloc (.cells #[.func (.func k) #[] caps] 52)).alloc (.cells #[.int .i64 0] 48)).alloc (.cells #[.int .i64 0] 46)).heap[w.heap.size+1]?=_:=h3.2.1
  have hr2:(((w.alloc (.cells #[.func (.func k) #[] caps] 52)).alloc (.cells #[.int .i64 0] 48)).alloc (.cells #[.int .i64 0] 46)).heap[w.heap.size+2]?=_:=h3.2.2
  clear h3
  generalize (((w.alloc (.cells #[.func (.func k) #[] caps] 52)).alloc (.cells #[.int .i64 0] 48)).alloc (.cells #[.int .i64 0] 46))=w2 at *
  obtain ⟨B,hB⟩:∃ B,B=w.heap.size:=⟨_,rfl⟩
  have HBB:=hid hB
  rw [← hB] at hr0 hr1 hr2 hs2 ⊢
  rw [show B+1+1=B+2 from rfl]
  have HB2:=hid hb2
  refine (guardRunS _ _ okDo1 w2 (fun w3 w'=>∃ n w0,Ret n w3 w0∧w3.heap.size≤w0.heap.size∧Ch (At1 (B+2)) w0 w'∧w'.heap[B+2]?=some (.cells #[.int .i64 n] 46)∧w'.heap[B+1]?=some (.cells #[.int .i64 0] 48)) (fun op w3 w'=>Pan op w3 w'∧w'.heap[B+2]?=some (.cells #[.int .i64 0] 46)∧w'.heap[B+1]?=some (.cells #[.int .i64 0] 48)) ?_).mono ?_
  · intro w3 hb3
    have q0:w3.heap[B]?=_:=(hb3.block _ (by omega)).trans hr0
    have q1:w3.heap[B+1]?=_:=(hb3.block _ (by omega)).trans hr1
    have q2:w3.heap[B+2]?=_:=(hb3.block _ (by omega)).trans hr2
    have hz3:=hb3.size
    refine (guardDo1S B (B+2) w.heap.size _ w3 q0 q2 (by omega) (fun n=>Ret n w3) (fun op=>Pan op w3) (H.out w3 (hb2.trans (hb3.mono (by omega))))).mono ?_
    rintro e w' ⟨hkeep,hsz,hcase⟩
    have r1:w'.heap[B+1]?=some (.cells #[.int .i64 0] 48):=by rw [hkeep (B+1) (by omega) (by omega) (by omega)];exact q1
    refine ⟨fun b hb hlt=>hkeep b (by omega) (by omega) hlt,hsz,?_⟩
    rcases hcase with ⟨rfl,n,w0,hret,hz0,hc0,hq⟩|⟨op,rfl,hpan,hq⟩
    · exact .inl ⟨rfl,n,w0,hret,hz0,hc0,hq,r1⟩
    · exact .inr ⟨op,rfl,hpan,hq,r1⟩
  rintro e w4 ⟨w3,w',hb3,hz3,hc,hcase⟩
  have hl3:=hb3.size
  have HB3:Hid (Below w.heap.size w w3):=hid (HB2.out.trans (hb3.mono (by omega)))
  have HL3:Hid (B+1<w3.heap.size):=hid (by omega)
  clear H hr0 hr1 hr2 hb2 HB2 hb3
  rcases hcase with ⟨rfl,n,w0,hret,hz0,hc0,re,rc⟩|⟨op,rfl,hpan,re,rc⟩
  · have HCW:Hid (Ch (fun k=>B≤k∧k<w3.heap.size) w0 w4):=hid (((Ch.refl _ w0).trans hc0 (fun x _ h=>⟨by rw [show x=B+2 from h];omega,by rw [show x=B+2 from h];omega⟩)).trans hc (fun x _ h=>⟨by omega,h.2⟩))
    have HRT:=hid hret
    have HZ0:=hid hz0
    replace re:w4.heap[B+2]?=_:=hc.row re (by omega)
    replace rc:w4.heap[B+1]?=_:=hc.row rc (by omega)
    clear hc hc0 hz0 hret hs2 hB hz3 hl3
    have hb4:=(Below.refl w4.heap.size w4).alloc (Nat.le_refl _) (.cells #[.int .i64 0] 48)
    have r5c:(w4.alloc (.cells #[.int .i64 0] 48)).heap[B+1]?=some (.cells #[.int .i64 0] 48):=by rw [hb4.block _ (Array.getElem?_eq_some_iff.1 rc).1];exact rc
    have r5e:(w4.alloc (.cells #[.int .i64 0] 48)).heap[B+2]?=some (.cells #[.int .i64 n] 46):=by rw [hb4.block _ (Array.getElem?_eq_some_iff.1 re).1];exact re
    have r5n:=heap_alloc_new w4 (.cells #[.int .i64 0] 48)
    have HB5:=hid (HCW.out.trans (Ch.of_below (S:=fun k=>B≤k∧k<w3.heap.size) hb4) (fun _ _ h=>h))
    clear hb4 rc re HCW
    go_wp2_with (fail)
    generalize w4.alloc (.cells #[.int .i64 0] 48)=w5 at *
    generalize w4.heap.size=G at *
    have cc:=cell_of_row w5 (B+1) 0 _ _ _ r5c
    have ce:=cell_of_row w5 (B+2) 0 _ _ _ r5e
    have cn:=cell_of_row w5 G 0 _ _ _ r5n
    simp only [List.getElem?_toArray,List.getElem?_cons_zero] at cc ce cn
    have fc:w5.frozen? ⟨B+1,0,none⟩=false:=by simp [World.frozen?,r5c]
    have HR5:=hid r5c
    clear r5c r5e r5n
    go_region
    all_goals
      go_wp2_with (fail)
      have hrow:((w5.setCell ⟨B+1,0,none⟩ (.int .i64 0)).drew).heap[B+1]?=some (.cells #[.int .i64 0] 48):=heap_setCell_same w5 (B+1) 0 _ _ (.int .i64 0) HR5.out
      have hb6:=(HB5.out.set (a:=⟨B+1,0,none⟩) ⟨by show B≤B+1;omega,HL3.out⟩ (.int .i64 0)).drew
      generalize (w5.setCell ⟨B+1,0,none⟩ (.int .i64 0)).drew=w6 at *
      have c6:=cell_of_row w6 (B+1) 0 _ _ _ hrow
      simp only [List.getElem?_toArray,List.getElem?_cons_zero] at c6
      exact bodyPost_ret (v:=.tuple #[.int .i64 n,crash 0,.bool false]) (by simp [results,Tryz.results14,go_sem,c6]) rfl ⟨w3,w0,HB3.out,HZ0.out,HBB.out ▸ hb6,.inl ⟨n,rfl,HRT.out⟩⟩
  · have HCW:Hid (Ch (fun k=>B≤k∧k<w3.heap.size) w' w4):=hid ((Ch.refl _ w').trans hc (fun x _ h=>⟨by omega,h.2⟩))
    have HPN:=hid hpan
    have HZ0:=hid hz3
    replace re:w4.heap[B+2]?=_:=hc.row re (by omega)
    replace rc:w4.heap[B+1]?=_:=hc.row rc (by omega)
    clear hc hz3 hpan hs2 hB hl3
    have hb4:=(Below.refl w4.heap.size w4).alloc (Nat.le_refl _) (.cells #[.int .i64 op] 48)
    have r5c:(w4.alloc (.cells #[.int .i64 op] 48)).heap[B+1]?=some (.cells #[.int .i64 0] 48):=by rw [hb4.block _ (Array.getElem?_eq_some_iff.1 rc).1];exact rc
    have r5e:(w4.alloc (.cells #[.int .i64 op] 48)).heap[B+2]?=some (.cells #[.int .i64 0] 46):=by rw [hb4.block _ (Array.getElem?_eq_some_iff.1 re).1];exact re
    have r5n:=heap_alloc_new w4 (.cells #[.int .i64 op] 48)
    have HB5:=hid (HCW.out.trans (Ch.of_below (S:=fun k=>B≤k∧k<w3.heap.size) hb4) (fun _ _ h=>h))
    clear hb4 rc re HCW
    go_wp2_with (fail)
    generalize w4.alloc (.cells #[.int .i64 op] 48)=w5 at *
    generalize w4.heap.size=G at *
    have cc:=cell_of_row w5 (B+1) 0 _ _ _ r5c
    have ce:=cell_of_row w5 (B+2) 0 _ _ _ r5e
    have cn:=cell_of_row w5 G 0 _ _ _ r5n
    simp only [List.getElem?_toArray,List.getElem?_cons_zero] at cc ce cn
    have fc:w5.frozen? ⟨B+1,0,none⟩=false:=by simp [World.frozen?,r5c]
    have HR5:=hid r5c
    clear r5c r5e r5n
    go_region
    all_goals
      go_wp2_with (fail)
      have hrow:((w5.setCell ⟨B+1,0,none⟩ (.int .i64 op)).drew).heap[B+1]?=some (.cells #[.int .i64 op] 48):=heap_setCell_same w5 (B+1) 0 _ _ (.int .i64 op) HR5.out
      have hb6:=(HB5.out.set (a:=⟨B+1,0,none⟩) ⟨by show B≤B+1;omega,HL3.out⟩ (.int .i64 op)).drew
      generalize (w5.setCell ⟨B+1,0,none⟩ (.int .i64 op)).drew=w6 at *
      have c6:=cell_of_row w6 (B+1) 0 _ _ _ hrow
      simp only [List.getElem?_toArray,List.getElem?_cons_zero] at c6
      exact bodyPost_ret (v:=.tuple #[.int .i64 0,crash op,.bool true]) (by simp [results,Tryz.results14,go_sem,c6]) rfl ⟨w3,w',HB3.out,HZ0.out,HBB.out ▸ hb6,.inr ⟨op,rfl,HPN.out⟩⟩
end
section
open Go.RowKit Go.MapKept
abbrev nmI:ByteArray:=⟨#[108,111,103]⟩
abbrev TIB:TypeId:=99
abbrev pI (X:Nat):Value:=.pointer (some ⟨X,0,none⟩)
abbrev pQ (Q:Nat):Value:=.pointer (some ⟨Q,0,none⟩)
abbrev ibCells (Q L:Nat) (va:Value) (sn kp:Nat):Array Value:=#[pQ Q,pL L,va,.int .i64 (sn:Int),.int .i64 (kp:Int)]
structure IB (Z:Nat→Prop) (w:World) (B D M L Q X:Nat) (O:Option Nat) (d:Dk) (F:List Ent) (T:List (List UInt8)) (g:Nat) (v:Value) (most:Nat) (s:St) (va:Value) (an:List (List UInt8)) (sn kp:Nat):Prop where
  dk:DkAt w B D M d F
  lg:LgAt (fun k=>Z k∨k=X∨dS Q O k∨va.ownBlock=some k) w B L D M F nmI T g v
  df:Df B Q O most s w
  row:w.heap[X]?=some (.cells (ibCells Q L va sn kp) TIB)
  xb:B≤X
  an:Rw B (fun k=>Z k∨k=X∨dS Q O k∨WFoot L D M F v k) w va an
  ap:∀ k,dS Q O k→¬ WFoot L D M F v k
  zl:∀ k,Z k→k<w.heap.size∧k≠X∧¬ dS Q O k∧¬ LT L D M F k
def FI (L D M Q X:Nat) (O:Option Nat) (F:List Ent) (v va:Value) (k:Nat):Prop:=k=X∨dS Q O k∨WFoot L D M F v k∨va.ownBlock=some k
theorem Df.ty {B D most:Nat} {O:Option Nat} {s:St} {w:World} (h:Df B D O most s w) {k:Nat} (hk:dS D O k):∃ cur t fz,w.heap[k]?=some (.cells cur t fz)∧(t=146∨t=5):=by
  obtain ⟨fv,e,_,_,ho,hd⟩:=h
  rcases hk with rfl|hk
  · exact ⟨_,_,_,hd,.inl rfl⟩
  · rcases ho.2 with ⟨rfl,_⟩|⟨g,cap,cur,rfl,_,h2,_⟩
    · rw [← e] at hk;cases hk
    · rw [← e] at hk
      simp only [Value.ownBlock,Option.some.injEq] at hk
      subst hk
      exact ⟨_,_,_,h2,.inr rfl⟩
theorem Df.dlt {B D most:Nat} {O:Option Nat} {s:St} {w:World} (h:Df B D O most s w) {k:Nat} (hk:dS D O k):B≤k∧k<w.heap.size:=by
  rcases hk with rfl|hk
  · exact ⟨h.base,h.lt⟩
  · exact h.own k hk.symm
theorem row_ty {B:Nat} {T:Nat→Prop} {w:World} {v:Value} {L:List (List UInt8)} (h:Rw B T w v L) {k:Nat} (hk:v.ownBlock=some k):∃ cur,w.heap[k]?=some (.cells cur 40 (0,0)):=by
  obtain ⟨vs,hv⟩:=h
  rcases hv.2.1.2 with ⟨rfl,_⟩|⟨g,cap,cur,rfl,_,h2,_⟩
  · cases hk
  · simp only [Value.ownBlock,Option.some.injEq] at hk
    subst hk
    exact ⟨cur,h2⟩
theorem wfoot_ty {E:Nat→Prop} {w:World} {B L D M g:Nat} {d:Dk} {F:List Ent} {nm:ByteArray} {rs:List (List UInt8)} {v:Value} (h:LgAt E w B L D M F nm rs g v) (hd:DkAt w B D M d F) {X:Nat} {cur:Array Value} {t:TypeId} {fz:Nat × Nat} (hx:w.heap[X]?=some (.cells cur t fz))
    (h1:t≠118) (h2:t≠121) (h3:t≠5) (h4:t≠TL) (h5:t≠40):¬ WFoot L D M F v X:=by
  intro hk
  rcases hk with (rfl|hk)|hk
  · rw [h.row] at hx
    simp only [Option.some.injEq,Obj.cells.injEq] at hx
    exact h4 hx.2.1.symm
  · rcases hk with rfl|rfl|⟨e,he,rfl|hk⟩
    · rw [hd.row] at hx
      simp only [Option.some.injEq,Obj.cells.injEq] at hx
      exact h1 hx.2.1.symm
    · exact hd.map.ne hx rfl
    · rw [(hd.files e he).row] at hx
      simp only [Option.some.injEq,Obj.cells.injEq] at hx
      exact h2 hx.2.1.symm
    · have ho:=(hd.files e he).own
      rcases ho.2 with ⟨hn,_⟩|⟨g,cap,cur',hv,_,h6,_⟩
      · rw [hn] at hk;cases hk
      · rw [hv] at hk
        simp only [Value.ownBlock,Option.some.injEq] at hk
        subst hk
        rw [h6] at hx
        simp only [Option.some.injEq,Obj.cells.injEq] at hx
        exact h3 hx.2.1.symm
  · obtain ⟨cur',hc⟩:=row_ty h.rw hk
    rw [hc] at hx
    simp only [Option.some.injEq,Obj.cells.injEq] at hx
    exact h5 hx.2.1.symm
section
variable {Z Z' S:Nat→Prop} {w w':World} {B D M L Q X g sn kp most:Nat} {O O':Option Nat} {d d':Dk} {F F':List Ent} {T T':List (List UInt8)} {v v' va va':Value} {s s':St} {an an':List (List UInt8)}
theorem IB.lt (h:IB Z w B D M L Q X O d F T g v most s va an sn kp):X<w.heap.size:=(Array.getElem?_eq_some_iff.1 h.row).1
theorem IB.cell (h:IB Z w B D M L Q X O d F T g v most s va an sn kp) (j:Nat):w.cell? ⟨X,j,none⟩=(ibCells Q L va sn kp)[j]?:=cell_of_row w X j _ _ _ h.row
theorem IB.frozen (h:IB Z w B D M L Q X O d F T g v most s va an sn kp) (j:Nat):w.frozen? ⟨X,j,none⟩=false:=by simp [World.frozen?,h.row]
theorem IB.foot_lt (h:IB Z w B D M L Q X O d F T g v most s va an sn kp) {k:Nat} (hk:FI L D M Q X O F v va k):B≤k∧k<w.heap.size:=by
  rcases hk with rfl|hk|hk|hk
  · exact ⟨h.xb,h.lt⟩
  · exact h.df.dlt hk
  · exact h.lg.foot_lt h.dk hk
  · exact Rw.lt h.an hk
theorem IB.xw (h:IB Z w B D M L Q X O d F T g v most s va an sn kp):¬ WFoot L D M F v X:=wfoot_ty h.lg h.dk h.row (by decide) (by decide) (by decide) (by decide) (by decide)
theorem IB.xq (h:IB Z w B D M L Q X O d F T g v most s va an sn kp):¬ dS Q O X:=fun hk=>by
  obtain ⟨cur,t,fz,hc,ht⟩:=h.df.ty hk
  rw [h.row] at hc
  simp only [Option.some.injEq,Obj.cells.injEq] at hc
  rcases ht with rfl|rfl
  · exact absurd hc.2.1 (by decide)
  · exact absurd hc.2.1 (by decide)
theorem IB.va_off (h:IB Z w B D M L Q X O d F T g v most s va an sn kp) {k:Nat} (hk:va.ownBlock=some k):¬ (Z k∨k=X∨dS Q O k∨WFoot L D M F v k):=Rw.offT h.an hk
theorem IB.zf (h:IB Z w B D M L Q X O d F T g v most s va an sn kp) {k:Nat} (hz:Z k):¬ FI L D M Q X O F v va k:=fun hf=>by
  obtain ⟨h1,h2,h3,h4⟩:=h.zl k hz
  rcases hf with hf|hf|(hf|hf)|hf
  · exact h2 hf
  · exact h3 hf
  · exact h4 hf
  · exact Rw.offT h.lg.rw hf (.inr (.inl hz))
  · exact h.va_off hf (.inl hz)
theorem IB.log {T':List (List UInt8)} {g':Nat} (h:IB Z w B D M L Q X O d F T g v most s va an sn kp) (c:WlCh L D M F F' v v' w w') (hd:DkAt w' B D M d' F') (hl:LgAt (fun k=>Z k∨k=X∨dS Q O k∨va.ownBlock=some k) w' B L D M F' nmI T' g' v'):IB Z w' B D M L Q X O d' F' T' g' v' most s va an sn kp:=by
  have hf:∀ k,k<w.heap.size→WFoot L D M F' v' k→WFoot L D M F v k:=fun k hk hx=>(c.foot k hx).resolve_right (fun h1=>by omega)
  refine ⟨hd,hl,h.df.ch c.ch (h.ap Q (.inl rfl)) (fun k hk=>h.ap k (.inr hk.symm)),c.ch.row h.row h.xw,h.xb,h.an.ch c.ch (fun k _ hk=>.inr (.inr (.inr hk))) (fun k hk ht=>?_),fun k hk hw=>h.ap k hk (hf k (h.df.dlt hk).2 hw),fun k hk=>?_⟩
  · rcases ht with h1|h1|h1|h1
    · exact .inl h1
    · exact .inr (.inl h1)
    · exact .inr (.inr (.inl h1))
    · exact .inr (.inr (.inr (hf k hk h1)))
  · obtain ⟨h1,h2,h3,h4⟩:=h.zl k hk
    refine ⟨Nat.lt_of_lt_of_le h1 c.ch.size,h2,h3,fun hx=>?_⟩
    rcases hf k h1 (.inl hx) with h5|h5
    · exact h4 h5
    · exact Rw.offT h.lg.rw h5 (.inr (.inl hk))
theorem IB.below (h:IB Z w B D M L Q X O d F T g v most s va an sn kp) (hb:Below w.heap.size w w'):IB Z w' B D M L Q X O d F T g v most s va an sn kp :=
  h.log (WlCh.of_below hb) (h.dk.below hb) (h.lg.below hb)
theorem IB.dfm (h:IB Z w B D M L Q X O d F T g v most s va an sn kp) (m:Mv Q O O' w w') (hd:Df B Q O' most s' w'):IB Z w' B D M L Q X O' d F T g v most s' va an sn kp:=by
  have hold:∀ k,k<w.heap.size→dS Q O' k→dS Q O k:=fun k hk hx=>by
    rcases hx with hx|hx
    · exact .inl hx
    · exact .inr (m.2 k hx.symm hk).symm
  have hdw:∀ k,WFoot L D M F v k→¬ dS Q O k:=fun k hw hs=>h.ap k hs hw
  refine ⟨h.dk.ch m.1 (fun k hk=>hdw k (.inl (.inr hk))),?_,hd,m.1.row h.row h.xq,h.xb,h.an.ch m.1 (fun k _ hk=>.inr (.inr (.inl hk))) (fun k hk ht=>?_),fun k hk hw=>?_,fun k hk=>?_⟩
  · refine ((h.lg.widen (E':=fun k=>(Z k∨k=X∨dS Q O k∨va.ownBlock=some k)∨w.heap.size≤k) (fun k hk=>hk)).chE m.1 (fun k _ hk=>.inl (.inr (.inr (.inl hk)))) (hdw L (.inl (.inl rfl)))).widen (fun k hk=>.inl ?_)
    rcases hk with h1|h1|h1|h1
    · exact .inl (.inl h1)
    · exact .inl (.inr (.inl h1))
    · rcases Nat.lt_or_ge k w.heap.size with h2|h2
      · exact .inl (.inr (.inr (.inl (hold k h2 h1))))
      · exact .inr h2
    · exact .inl (.inr (.inr (.inr h1)))
  · rcases ht with h1|h1|h1|h1
    · exact .inl h1
    · exact .inr (.inl h1)
    · exact .inr (.inr (.inl (hold k hk h1)))
    · exact .inr (.inr (.inr h1))
  · exact h.ap k (hold k (h.lg.foot_lt h.dk hw).2 hk) hw
  · obtain ⟨h1,h2,h3,h4⟩:=h.zl k hk
    exact ⟨Nat.lt_of_lt_of_le h1 m.1.size,h2,fun hx=>h3 (hold k h1 hx),h4⟩
theorem IB.setRow (h:IB Z w B D M L Q X O d F T g v most s va an sn kp) {sn' kp':Nat} (c:Ch (At1 X) w w') (hr:w'.heap[X]?=some (.cells (ibCells Q L va sn' kp') TIB)):IB Z w' B D M L Q X O d F T g v most s va an sn' kp':=by
  have hx:∀ k,WFoot L D M F v k→¬ At1 X k:=fun k hw e=>h.xw (by rw [← show k=X from e];exact hw)
  refine ⟨h.dk.ch c (fun k hk=>hx k (.inl (.inr hk))),h.lg.chE c (fun k _ hk=>.inr (.inl hk)) (hx L (.inl (.inl rfl))),h.df.ch c (fun e=>h.xq (.inl (show Q=X from e).symm)) (fun k hk e=>h.xq (.inr (by rw [← show k=X from e];exact hk.symm))),hr,h.xb,h.an.ch c (fun k _ hk=>.inr (.inl hk)) (fun _ _ ht=>ht),h.ap,fun k hk=>?_⟩
  obtain ⟨h1,h2⟩:=h.zl k hk
  exact ⟨Nat.lt_of_lt_of_le h1 c.size,h2⟩
theorem IB.app {w2:World} {va2:Value} {an2:List (List UInt8)} (h:IB Z w B D M L Q X O d F T g v most s va an sn kp) (hw:Rw B (fun k=>Z k∨k=X∨dS Q O k∨WFoot L D M F v k) w2 va2 an2) (hc:Ch (fun k=>va.ownBlock=some k) w w2) (hf:va2.ownBlock=va.ownBlock∨va2.ownBlock=some w.heap.size) :
    IB Z (w2.setCell ⟨X,2,none⟩ va2) B D M L Q X O d F T g v most s va2 an2 sn kp∧w2.heap[X]?=some (.cells (ibCells Q L va sn kp) TIB)∧Ch (fun k=>k=X∨va.ownBlock=some k) w (w2.setCell ⟨X,2,none⟩ va2):=by
  have hxr:w2.heap[X]?=some (.cells (ibCells Q L va sn kp) TIB):=hc.row h.row (fun e=>h.va_off e (.inr (.inl rfl)))
  have hcs:Ch (At1 X) w2 (w2.setCell ⟨X,2,none⟩ va2):=(Ch.refl _ w2).set1 2 _
  have hall:Ch (fun k=>k=X∨va.ownBlock=some k) w (w2.setCell ⟨X,2,none⟩ va2):=((Ch.refl (fun k=>k=X∨va.ownBlock=some k) w).trans hc (fun _ _ hk=>.inr hk)).trans hcs (fun k _ hk=>.inl hk)
  have hnw:∀ k,WFoot L D M F v k→¬ (k=X∨va.ownBlock=some k):=fun k hk he=>by
    rcases he with e|he
    · rw [e] at hk;exact h.xw hk
    · exact h.va_off he (.inr (.inr (.inr hk)))
  have hnd:∀ k,dS Q O k→¬ (k=X∨va.ownBlock=some k):=fun k hd he=>by
    rcases he with e|he
    · rw [e] at hd;exact h.xq hd
    · exact h.va_off he (.inr (.inr (.inl hd)))
  refine ⟨⟨h.dk.ch hall (fun k hk=>hnw k (.inl (.inr hk))),?_,h.df.ch hall (hnd Q (.inl rfl)) (fun k hk=>hnd k (.inr hk.symm)),heap_set_row hxr _,h.xb,hw.ch hcs (fun k _ hk=>.inr (.inl hk)) (fun _ _ ht=>ht),h.ap,fun k hk=>?_⟩,hxr,hall⟩
  · refine ((h.lg.widen (E':=fun k=>(Z k∨k=X∨dS Q O k∨va.ownBlock=some k)∨w.heap.size≤k) (fun k hk=>hk)).chE hall (fun k _ hk=>.inl (hk.elim (fun e=>.inr (.inl e)) (fun e=>.inr (.inr (.inr e))))) (hnw L (.inl (.inl rfl)))).widen (fun k hk=>.inl ?_)
    rcases hk with h1|h1|h1|h1
    · exact .inl (.inl h1)
    · exact .inl (.inr (.inl h1))
    · exact .inl (.inr (.inr (.inl h1)))
    · rcases hf with e|e
      · exact .inl (.inr (.inr (.inr (by rw [← e];exact h1))))
      · rw [e] at h1;injection h1 with h1;exact .inr (by omega)
  · obtain ⟨h1,h2⟩:=h.zl k hk
    exact ⟨Nat.lt_of_lt_of_le h1 hall.size,h2⟩
theorem IB.taken (h:IB Z w B D M L Q X O d F T g v most s va an sn kp):IB Z (w.setCell ⟨X,2,none⟩ (.slice none 0 0)) B D M L Q X O d F T g v most s (.slice none 0 0) [] sn kp∧Ch (At1 X) w (w.setCell ⟨X,2,none⟩ (.slice none 0 0)):=by
  have hcs:Ch (At1 X) w (w.setCell ⟨X,2,none⟩ (.slice none 0 0)):=(Ch.refl _ w).set1 2 _
  have hx:∀ k,WFoot L D M F v k→¬ At1 X k:=fun k hw e=>h.xw (by rw [← show k=X from e];exact hw)
  refine ⟨⟨h.dk.ch hcs (fun k hk=>hx k (.inl (.inr hk))),(h.lg.chE hcs (fun k _ hk=>.inr (.inl hk)) (hx L (.inl (.inl rfl)))).widen (fun k hk=>.inl ?_),h.df.ch hcs (fun e=>h.xq (.inl (show Q=X from e).symm)) (fun k hk e=>h.xq (.inr (by rw [← show k=X from e];exact hk.symm))),heap_set_row h.row _,h.xb,Rw.nil _ _ _,h.ap,fun k hk=>?_⟩,hcs⟩
  · rcases hk with h1|h1|h1|h1
    · exact .inl h1
    · exact .inr (.inl h1)
    · exact .inr (.inr (.inl h1))
    · cases h1
  · obtain ⟨h1,h2⟩:=h.zl k hk
    exact ⟨Nat.lt_of_lt_of_le h1 hcs.size,h2⟩
end
structure ICh (A A':Nat→Prop) (w w':World):Prop where
  ch:Ch A w w'
  foot:∀ k,A' k→A k∨w.heap.size≤k
theorem ICh.trans {A A1 A2:Nat→Prop} {w w1 w2:World} (h:ICh A A1 w w1) (k:ICh A1 A2 w1 w2):ICh A A2 w w2 :=
  ⟨h.ch.trans k.ch (fun x hx hf=>by
    rcases h.foot x hf with h1|h1
    · exact h1
    · omega),fun x hx=>by
    rcases k.foot x hx with h1|h1
    · exact h.foot x h1
    · exact .inr (Nat.le_trans h.ch.size h1)⟩
theorem ICh.of_below {A:Nat→Prop} {w w':World} (h:Below w.heap.size w w'):ICh A A w w':=⟨Ch.of_below h,fun _ h=>.inl h⟩
theorem ICh.wide {A A' R R':Nat→Prop} {w w':World} (c:Ch R w w') (hf:∀ k,R' k→R k∨w.heap.size≤k) (h1:∀ k,R k→A k) (h2:∀ k,A' k→A k∨R' k):ICh A A' w w' :=
  ⟨(Ch.refl A w).trans c (fun x _ hx=>h1 x hx),fun k hk=>(h2 k hk).elim .inl (fun h=>(hf k h).imp (h1 k) id)⟩
theorem ICh.of_wl {L D M Q X:Nat} {O:Option Nat} {F F':List Ent} {v v' va:Value} {w w':World} (c:WlCh L D M F F' v v' w w'):ICh (FI L D M Q X O F v va) (FI L D M Q X O F' v' va) w w' :=
  .wide c.ch c.foot (fun k hk=>.inr (.inr (.inl hk))) (fun k hk=>by
    rcases hk with h|h|h|h
    · exact .inl (.inl h)
    · exact .inl (.inr (.inl h))
    · exact .inr h
    · exact .inl (.inr (.inr (.inr h))))
section
variable {Z Z' S:Nat→Prop} {w w':World} {B D M L Q X g sn kp most:Nat} {O:Option Nat} {d:Dk} {F:List Ent} {T:List (List UInt8)} {v va:Value} {s:St} {an:List (List UInt8)}
theorem IB.zch (h:IB Z w B D M L Q X O d F T g v most s va an sn kp) (c:Ch S w w') (hS:∀ k,S k→Z k):IB Z w' B D M L Q X O d F T g v most s va an sn kp:=by
  have hn:∀ k,FI L D M Q X O F v va k→¬ S k:=fun k hf hs=>h.zf (hS k hs) hf
  refine ⟨h.dk.ch c (fun k hk=>hn k (.inr (.inr (.inl (.inl (.inr hk)))))),h.lg.chE c (fun k _ hk=>.inl (hS k hk)) (hn L (.inr (.inr (.inl (.inl (.inl rfl)))))),h.df.ch c (hn Q (.inr (.inl (.inl rfl)))) (fun k hk=>hn k (.inr (.inl (.inr hk.symm)))),c.row h.row (hn X (.inl rfl)),h.xb,h.an.ch c (fun k _ hk=>.inl (hS k hk)) (fun _ _ ht=>ht),h.ap,fun k hk=>?_⟩
  obtain ⟨h1,h2⟩:=h.zl k hk
  exact ⟨Nat.lt_of_lt_of_le h1 c.size,h2⟩
theorem IB.addZ (h:IB Z w B D M L Q X O d F T g v most s va an sn kp) (hb:Below w.heap.size w w') (hZ:∀ k,Z' k→Z k∨w.heap.size≤k∧k<w'.heap.size):IB Z' w' B D M L Q X O d F T g v most s va an sn kp:=by
  refine ⟨h.dk.below hb,(h.lg.widen (fun k hk=>?_)).below hb,h.df.below hb,(Ch.of_below (S:=fun _=>False) hb).row h.row (fun h=>h),h.xb,(Rw.widen h.an (fun k hk=>?_)).below hb,h.ap,fun k hk=>?_⟩
  · rcases hk with h1|h1
    · rcases hZ k h1 with h2|h2
      · exact .inl (.inl h2)
      · exact .inr h2.1
    · exact .inl (.inr h1)
  · rcases hk with h1|h1
    · rcases hZ k h1 with h2|h2
      · exact .inl (.inl h2)
      · exact .inr h2.1
    · exact .inl (.inr h1)
  · rcases hZ k hk with h2|⟨h2,h3⟩
    · obtain ⟨h1,h2⟩:=h.zl k h2
      exact ⟨Nat.lt_of_lt_of_le h1 hb.size,h2⟩
    · have hlt:∀ j,FI L D M Q X O F v va j→j<w.heap.size:=fun j hj=>(h.foot_lt hj).2
      refine ⟨h3,fun e=>?_,fun hd=>?_,fun hl=>?_⟩
      · have:=hlt k (.inl e);omega
      · have:=hlt k (.inr (.inl hd));omega
      · have:=hlt k (.inr (.inr (.inl (.inl hl))));omega
end
def CH (cl:Bool) (w:World) (C cap:Nat) (L:List (List UInt8)) (T Z:Nat→Prop):Prop :=
  ¬ T C∧∃ (vs:List Value) (s r:Nat),w.heap[C]?=some (.chan cap vs.toArray cl s r false)∧vs.length=L.length∧∀ (i:Nat) (u:Value) (x:List UInt8),vs[i]?=some u→L[i]?=some x→∃ A c,u=.slice A x.length c∧Bs w A x.length c x∧(0<x.length→∀ b,A=some b→¬ T b.block∧¬ Z b.block)
section
variable {cl:Bool} {w w':World} {C cap:Nat} {L:List (List UInt8)} {T T' S Z:Nat→Prop}
theorem CH.lt (h:CH cl w C cap L T Z):C<w.heap.size:=by
  obtain ⟨_,vs,s,r,h,_⟩:=h
  exact (Array.getElem?_eq_some_iff.1 h).1
theorem CH.ch (h:CH cl w C cap L T Z) (c:Ch S w w') (hS:∀ k,k<w.heap.size→S k→T k) (hT:∀ k,k<w.heap.size→T' k→T k):CH cl w' C cap L T' Z:=by
  have hl:=h.lt
  obtain ⟨h0,vs,s,r,h1,h2,h3⟩:=h
  refine ⟨fun ht=>h0 (hT C hl ht),vs,s,r,c.row h1 (fun hs=>h0 (hS C hl hs)),h2,fun i u x hu hx=>?_⟩
  obtain ⟨A,q,e,hb,hne⟩:=h3 i u x hu hx
  have hlt:0<x.length→∀ b,A=some b→b.block<w.heap.size:=fun h0 b hA=>by
    obtain ⟨b',o',e',hlt,_⟩:=hb.at_ h0
    rw [e'] at hA;injection hA with hA;subst hA;exact hlt
  exact ⟨A,q,e,hb.ch c (fun h0 b hA hs=>(hne h0 b hA).1 (hS _ (hlt h0 b hA) hs)),fun h0 b hA=>⟨fun ht=>(hne h0 b hA).1 (hT _ (hlt h0 b hA) ht),(hne h0 b hA).2⟩⟩
theorem CH.ich (h:CH cl w C cap L T Z) (c:ICh T T' w w'):CH cl w' C cap L T' Z:=h.ch c.ch (fun _ _ h=>h) (fun k hk ht=>(c.foot k ht).resolve_right (by omega))
theorem CH.below (h:CH cl w C cap L T Z) (hb:Below w.heap.size w w'):CH cl w' C cap L T Z:=h.ich (.of_below hb)
theorem CH.new (w:World) (cap:Nat) {T:Nat→Prop} (Z:Nat→Prop) (hT:∀ k,T k→k<w.heap.size):CH false (w.alloc (.chan cap #[] false 0 0 false)) w.heap.size cap [] T Z :=
  ⟨fun h=>by have:=hT _ h;omega,[],0,0,heap_alloc_new w _,rfl,fun i u x h _=>by simp at h⟩
theorem ch_chan (w:World) (C cap:Nat) (buf:Array Value) (cl:Bool) (s r:Nat) (tm:Bool):Ch (At1 C) w (w.setChan C cap buf cl s r tm) :=
  ⟨rfl,rfl,rfl,by simp [World.setChan],fun k hk hn=>by simp only [World.setChan];rw [Array.getElem?_setIfInBounds_ne (fun e=>hn e.symm)]⟩
theorem CH.send (h:CH false w C cap L T Z) (hZ:Z C) {A:Option Addr} {c:Nat} {x:List UInt8} (hx:Bs w A x.length c x) (hxT:0<x.length→∀ b,A=some b→¬ T b.block∧¬ Z b.block):∃ (vs:List Value) (s r:Nat),w.heap[C]?=some (.chan cap vs.toArray false s r false)∧vs.length=L.length ∧
    CH false (w.setChan C cap (vs.toArray.push (.slice A x.length c)) false (s+1) r false) C cap (L++[x]) T Z:=by
  have hl:=h.lt
  obtain ⟨h0,vs,s,r,h1,h2,h3⟩:=h
  refine ⟨vs,s,r,h1,h2,h0,vs++[.slice A x.length c],s+1,r,?_,by simp [h2],fun i u y hu hy=>?_⟩
  · rw [Go.Conc.heap_setChan _ _ _ _ _ _ _ _ hl,List.push_toArray]
  · have hc:=ch_chan w C cap (vs.toArray.push (.slice A x.length c)) false (s+1) r false
    by_cases hi:i<L.length
    · rw [List.getElem?_append_left (by rw [h2];exact hi)] at hu
      rw [List.getElem?_append_left hi] at hy
      obtain ⟨A',c',e,hb,hne⟩:=h3 i u y hu hy
      exact ⟨A',c',e,hb.ch hc (fun h0 b hA hs=>(hne h0 b hA).2 (by rw [show b.block=C from hs];exact hZ)),hne⟩
    · rw [List.getElem?_append_right (by rw [h2];omega),h2] at hu
      rw [List.getElem?_append_right (by omega)] at hy
      have:i-L.length=0:=by
        rcases Nat.lt_or_ge (i-L.length) 1 with h|h
        · omega
        · rw [List.getElem?_eq_none (by simpa using h)] at hy;cases hy
      rw [this] at hu hy
      simp at hu hy
      subst hu hy
      exact ⟨A,c,rfl,hx.ch hc (fun h0 b hA hs=>(hxT h0 b hA).2 (by rw [show b.block=C from hs];exact hZ)),hxT⟩
theorem CH.close (h:CH false w C cap L T Z) (hZ:Z C):∃ (buf:Array Value) (s r:Nat),w.heap[C]?=some (.chan cap buf false s r false)∧CH true (w.setChan C cap buf true s r false) C cap L T Z:=by
  have hl:=h.lt
  obtain ⟨h0,vs,s,r,h1,h2,h3⟩:=h
  refine ⟨_,s,r,h1,h0,vs,s,r,Go.Conc.heap_setChan _ _ _ _ _ _ _ _ hl,h2,fun i u y hu hy=>?_⟩
  obtain ⟨A',c',e,hb,hne⟩:=h3 i u y hu hy
  exact ⟨A',c',e,hb.ch (ch_chan w C cap vs.toArray true s r false) (fun h0 b hA hs=>(hne h0 b hA).2 (by rw [show b.block=C from hs];exact hZ)),hne⟩
theorem CH.recv {x:List UInt8} (h:CH cl w C cap (x :: L) T Z) (hZ:Z C):∃ (buf:Array Value) (s r:Nat) (A:Option Addr) (c:Nat),w.heap[C]?=some (.chan cap buf cl s r false)∧0<buf.size∧buf.getD 0 undef=.slice A x.length c∧Bs w A x.length c x∧(0<x.length→∀ b,A=some b→¬ T b.block∧¬ Z b.block) ∧
    CH cl (w.setChan C cap (buf.extract 1 buf.size) cl s (r+1) false) C cap L T Z:=by
  have hl:=h.lt
  obtain ⟨h0,vs,s,r,h1,h2,h3⟩:=h
  cases vs with
  | nil=>simp at h2
  | cons u vs =>
    obtain ⟨A,c,e,hb,hne⟩:=h3 0 u x rfl rfl
    refine ⟨_,s,r,A,c,h1,by simp,by simpa using e,hb,hne,h0,vs,s,r+1,?_,by simpa using h2,fun i u y hu hy=>?_⟩
    · rw [Go.Conc.heap_setChan _ _ _ _ _ _ _ _ hl]
      simp
    · obtain ⟨A',c',e,hb,hne⟩:=h3 (i+1) u y (by simpa using hu) (by simpa using hy)
      exact ⟨A',c',e,hb.ch (ch_chan w C cap _ cl s (r+1) false) (fun h0 b hA hs=>(hne h0 b hA).2 (by rw [show b.block=C from hs];exact hZ)),hne⟩
theorem CH.none (h:CH cl w C cap [] T Z):∃ s r,w.heap[C]?=some (.chan cap #[] cl s r false):=by
  obtain ⟨_,vs,s,r,h1,h2,_⟩:=h
  rw [List.length_nil,List.length_eq_zero_iff] at h2
  subst h2
  exact ⟨s,r,h1⟩
end
end
section
open Go.Lib
def cutAt (c:UInt8):List UInt8→List (List UInt8)
  | []=>[[]]
  | x :: r=>if x=c then [] :: cutAt c r else match cutAt c r with
    | []=>[[x]]
    | h :: t=>(x :: h) :: t
theorem cutAt_ne (c:UInt8):∀ l:List UInt8,cutAt c l≠[]
  | []=>by simp [cutAt]
  | x :: r=>by
    unfold cutAt
    split
    · simp
    · split <;> simp
theorem cutAt_eq (c:UInt8) (r:List UInt8):cutAt c (c :: r)=[] :: cutAt c r:=by
  rw [cutAt,if_pos rfl]
theorem cutAt_cons {c x:UInt8} (hx:x≠c) (r:List UInt8):∃ h t,cutAt c r=h :: t∧cutAt c (x :: r)=(x :: h) :: t:=by
  cases h:cutAt c r with
  | nil=>exact absurd h (cutAt_ne c r)
  | cons a t=>exact ⟨a,t,rfl,by rw [cutAt,if_neg hx,h]⟩
theorem cutAt_clean (c:UInt8) (r:List UInt8):∀ a:List UInt8,c ∉ a→cutAt c (a++c :: r)=a :: cutAt c r
  | [],_=>cutAt_eq c r
  | x :: a,ha=>by
    obtain ⟨h,t,h1,h2⟩:=cutAt_cons (c:=c) (x:=x) (fun e=>ha (by rw [e];exact List.mem_cons_self ..)) (a++c :: r)
    rw [cutAt_clean c r a (fun e=>ha (List.mem_cons_of_mem _ e))] at h1
    injection h1 with e1 e2
    subst e1 e2
    exact h2
theorem cutAt_none (c:UInt8):∀ a:List UInt8,c ∉ a→cutAt c a=[a]
  | [],_=>rfl
  | x :: a,ha=>by
    obtain ⟨h,t,h1,h2⟩:=cutAt_cons (c:=c) (x:=x) (fun e=>ha (by rw [e];exact List.mem_cons_self ..)) a
    rw [cutAt_none c a (fun e=>ha (List.mem_cons_of_mem _ e))] at h1
    injection h1 with e1 e2
    subst e1 e2
    exact h2
theorem cutAt_length (c:UInt8):∀ l:List UInt8,(cutAt c l).length=l.count c+1
  | []=>rfl
  | x :: r=>by
    by_cases hx:x=c
    · subst hx
      rw [cutAt_eq,List.length_cons,cutAt_length x r,List.count_cons_self]
    · obtain ⟨h,t,h1,h2⟩:=cutAt_cons hx r
      have:=cutAt_length c r
      rw [h1] at this
      rw [h2,List.count_cons_of_ne (by simpa using hx)]
      simpa using this
theorem cutAt_clean_all (c:UInt8):∀ (l:List UInt8) (x:List UInt8),x ∈ cutAt c l→c ∉ x
  | [],x,hx=>by simp [cutAt] at hx;simp [hx]
  | y :: r,x,hx=>by
    by_cases hy:y=c
    · subst hy
      rw [cutAt_eq] at hx
      rcases List.mem_cons.1 hx with rfl|hx
      · simp
      · exact cutAt_clean_all y r x hx
    · obtain ⟨h,t,h1,h2⟩:=cutAt_cons hy r
      rw [h2] at hx
      rcases List.mem_cons.1 hx with rfl|hx
      · intro hc
        rcases List.mem_cons.1 hc with e|hc
        · exact hy e.symm
        · exact cutAt_clean_all c r h (by rw [h1];exact List.mem_cons_self ..) hc
      · exact cutAt_clean_all c r x (by rw [h1];exact List.mem_cons_of_mem _ hx)
theorem join_two (c:UInt8) (x y:List UInt8) (r:List (List UInt8)):join (x :: y :: r) [c]=x++c :: join (y :: r) [c]:=by
  rw [join_cons,join_cons]
  simp [joinTail]
theorem cutAt_join (c:UInt8):∀ l:List UInt8,join (cutAt c l) [c]=l
  | []=>by simp [cutAt,join_one]
  | x :: r=>by
    have ih:=cutAt_join c r
    by_cases hx:x=c
    · subst hx
      rw [cutAt_eq]
      cases h:cutAt x r with
      | nil=>exact absurd h (cutAt_ne x r)
      | cons a t=>rw [join_two,← h,ih];rfl
    · obtain ⟨h,t,h1,h2⟩:=cutAt_cons hx r
      rw [h1] at ih
      rw [h2]
      rw [join_cons] at ih ⊢
      rw [List.cons_append,ih]
theorem cutAt_snoc_eq (c:UInt8):∀ l:List UInt8,cutAt c (l++[c])=cutAt c l++[[]]
  | []=>by simp [cutAt]
  | x :: r=>by
    have ih:=cutAt_snoc_eq c r
    by_cases hx:x=c
    · subst hx
      rw [List.cons_append,cutAt_eq,cutAt_eq,ih];rfl
    · obtain ⟨h,t,h1,h2⟩:=cutAt_cons hx r
      obtain ⟨h',t',h3,h4⟩:=cutAt_cons hx (r++[c])
      rw [ih,h1] at h3
      rw [List.cons_append,h4,h2]
      injection h3 with e1 e2
      rw [← e1,← e2];rfl
def lastMore (T:List (List UInt8)) (x:UInt8):List (List UInt8):=T.set (T.length-1) (T.getD (T.length-1) []++[x])
theorem cutAt_snoc_ne (c x:UInt8) (hx:x≠c):∀ l:List UInt8,cutAt c (l++[x])=lastMore (cutAt c l) x
  | []=>by simp [cutAt,hx,lastMore]
  | y :: r=>by
    have ih:=cutAt_snoc_ne c x hx r
    by_cases hy:y=c
    · subst hy
      rw [List.cons_append,cutAt_eq,cutAt_eq,ih]
      cases h:cutAt y r with
      | nil=>exact absurd h (cutAt_ne y r)
      | cons a t=>simp [lastMore]
    · obtain ⟨h,t,h1,h2⟩:=cutAt_cons hy r
      obtain ⟨h',t',h3,h4⟩:=cutAt_cons hy (r++[x])
      rw [ih,h1] at h3
      rw [List.cons_append,h4,h2]
      cases t with
      | nil =>
        simp [lastMore] at h3
        obtain ⟨rfl,rfl⟩:=h3
        simp [lastMore]
      | cons a t =>
        simp [lastMore] at h3
        obtain ⟨rfl,rfl⟩:=h3
        simp [lastMore]
theorem cutAt_mem_le (c:UInt8):∀ (l x:List UInt8),x ∈ cutAt c l→x.length≤l.length
  | [],x,hx=>by simp [cutAt] at hx;simp [hx]
  | y :: r,x,hx=>by
    by_cases hy:y=c
    · subst hy
      rw [cutAt_eq] at hx
      rcases List.mem_cons.1 hx with rfl|hx
      · simp
      · have:=cutAt_mem_le y r x hx
        simp only [List.length_cons];omega
    · obtain ⟨h,t,h1,h2⟩:=cutAt_cons hy r
      rw [h2] at hx
      rcases List.mem_cons.1 hx with rfl|hx
      · have:=cutAt_mem_le c r h (by rw [h1];exact List.mem_cons_self ..)
        simp only [List.length_cons];omega
      · have:=cutAt_mem_le c r x (by rw [h1];exact List.mem_cons_of_mem _ hx)
        simp only [List.length_cons];omega
theorem cutAt_part_le (c:UInt8) (l:List UInt8) (k:Nat) (hk:l.length≤k) (j:Nat):((cutAt c l).getD j []).length≤k:=by
  rw [List.getD_eq_getElem?_getD]
  cases h:(cutAt c l)[j]? with
  | none=>simp
  | some x=>exact Nat.le_trans (cutAt_mem_le c l x (List.mem_of_getElem? h)) hk
end
end Go.Proofs.YtodjilljcjkacaaGreatDoor
