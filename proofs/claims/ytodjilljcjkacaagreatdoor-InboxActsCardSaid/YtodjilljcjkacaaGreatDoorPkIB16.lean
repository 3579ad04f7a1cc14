/- Laid together: GuardC. -/
import Derived.Test.YtodjilljcjkacaaGreatDoorPkIB15
import Derived.Tactics
import Derived.Tactics2
import Derived.Defers
import Derived.Recover
import Derived.Laws.Pointers
import Derived.RegionTactic
import Derived.Conc.MuLone

namespace Go.Proofs.YtodjilljcjkacaaGreatDoor
open Lib (hid)
/- Layer 3: a crash,lost and told;what Run defers. -/
section
open Go.RowKit
theorem assert_yesG (v:Value) (w:World):(Instr.typeAssert (.iface 48 v) 20 48 true).run Tryz.prog w=.ok (.tuple #[v,.bool true]) w:=by
  simp [Instr.typeAssert,go_sem,run_underlying Tryz.underlying48]
end
/- Layer 3: what Run defers. -/
section
open Go.RowKit
set_option maxRecDepth 100000 in
theorem guardLost_yes (op:Int) (w:World):Calls Tryz.prog 79 #[crashI op] w fun e w'=>e=.returned (.tuple #[crash op,.bool true])∧Below w.heap.size w w':=by
  have hta:=assert_yesG (crash op)
  go_enter Tryz.func79,Tryz.ntmps79
  go_wp2
  exact bodyPost_ret (v:=.tuple #[crash op,.bool true]) (by simp [results,Tryz.results79,go_sem]) rfl ⟨rfl,((Below.refl _ w).alloc (Nat.le_refl _) _).alloc (by simp) _⟩
theorem tm37 (P Q v:Value):(#[P,Q]++((Array.replicate 12 undef).setIfInBounds 1 v).setIfInBounds 0 v)=#[P,Q,v,v,undef,undef,undef,undef,undef,undef,undef,undef,undef,undef]:=rfl
theorem run1_idle (p q:Addr) (w:World) :
    CallsD Tryz.prog 78 #[.pointer (some p),.pointer (some q)] .returning w fun e u' w'=>e=.returned (.tuple #[])∧u'=.returning∧w'=w:=by
  refine callsD_of_wpS Tryz.func78 rfl fun c₀ cs hu=>?_
  apply wpS_seq
  apply wpS_region
  simp [wpOpsS,go_sem,recoverD,hu,Tryz.ntmps78,Exit.thenS]
  rw [tm37]
  refine wpS_of_wp ?_
  go_wp2_with (fail)
  cases c₀
  simp_all [bodyPostS,results,Tryz.results78]
set_option maxHeartbeats 1000000 in
theorem run1_crash (C G:Nat) (op x:Int) (y:Bool) (older:List PanicEntry) (B:Nat) (hC:B≤C) (hG:B≤G) (hne:C≠G) (w:World) (rC:w.heap[C]?=some (.cells #[.int .i64 x] 48)) (rG:w.heap[G]?=some (.cells #[.bool y] 4)) :
    CallsD Tryz.prog 78 #[.pointer (some ⟨C,0,none⟩),.pointer (some ⟨G,0,none⟩)] (.panicking ({ v:=crashI op,recovered:=false } :: older)) w fun e u' w' =>
      e=.returned (.tuple #[])∧u'=.panicking ({ v:=crashI op,recovered:=true } :: older)∧Below B w w'∧w'.heap[C]?=some (.cells #[.int .i64 op] 48)∧w'.heap[G]?=some (.cells #[.bool true] 4):=by
  have hl1:C<w.heap.size:=(Array.getElem?_eq_some_iff.1 rC).1
  have hl2:G<w.heap.size:=(Array.getElem?_eq_some_iff.1 rG).1
  refine callsD_of_wpS Tryz.func78 rfl fun c₀ cs hu=>?_
  apply wpS_seq
  apply wpS_region
  simp [wpOpsS,go_sem,recoverD,hu,Tryz.ntmps78,Exit.thenS]
  rw [tm37]
  refine wpS_of_wp ?_
  go_wp2_with (fail)
  refine (guardLost_yes op w).mono ?_
  rintro e w1 ⟨rfl,hb1⟩
  have r1:w1.heap[C]?=some (.cells #[.int .i64 x] 48):=by rw [hb1.block _ hl1];exact rC
  have r2:w1.heap[G]?=some (.cells #[.bool y] 4):=by rw [hb1.block _ hl2];exact rG
  have c1:=cell_of_row w1 C 0 _ _ _ r1
  have c2:=cell_of_row w1 G 0 _ _ _ r2
  simp only [List.getElem?_toArray,List.getElem?_cons_zero] at c1 c2
  have f1:w1.frozen? ⟨C,0,none⟩=false:=by simp [World.frozen?,r1]
  have f2:w1.frozen? ⟨G,0,none⟩=false:=by simp [World.frozen?,r2]
  have hne':G≠C:=fun h=>hne h.symm
  have L1:=hid rC
  have L2:=hid rG
  have L3:=hid r1
  have L4:=hid r2
  have L5:=hid hb1
  have L6:=hid hl1
  clear rC rG r1 r2 hb1 hu hl1 hl2
  go_wp2_with (fail)
  refine ⟨rfl,_,rfl,_,by simp [results,Tryz.results78],rfl,rfl,?_,?_,?_⟩
  · have hb:Below B w w1:=⟨L5.out.os,L5.out.tape,L5.out.output,L5.out.size,fun k hk=>L5.out.block k (Nat.lt_of_lt_of_le (Nat.lt_of_lt_of_le hk hC) (Nat.le_of_lt L6.out))⟩
    exact (hb.setCell (p:=⟨C,0,none⟩) hC _).setCell (p:=⟨G,0,none⟩) hG _
  · rw [heap_setCell_other _ _ _ _ (by show C≠G;exact hne)]
    exact heap_setCell_same _ _ _ _ _ _ L3.out
  · exact heap_setCell_same (w1.setCell ⟨C,0,none⟩ (.int .i64 op)) G 0 _ _ _ (by rw [heap_setCell_other _ _ _ _ (by show G≠C;exact fun h=>hne h.symm)];exact L4.out)
end
/- Layer 3: Run of any function. -/
section
open Go.RowKit
set_option maxRecDepth 100000 in
theorem func_nil (fn:Fn) (first cap:Array Value) (w:World):(binOp .eql 1 (.func fn first cap) .nilFunc).run Tryz.prog w=.ok (.bool false) w:=by
  first
  | rfl
  | simp [binOp,go_sem,run_underlying Tryz.underlying1]
def FnOkG (k:FuncId):Prop:=∀ (args:Array Value) (w:World),(callFunc k args).run Tryz.prog w=.ok (.enter k args) w
theorem rows_twoG (h:Array Obj) (X Y:Obj):((h.push X).push Y)[h.size]?=some X∧((h.push X).push Y)[h.size+1]?=some Y:=by
  constructor
  · rw [Array.getElem?_push,if_neg (by simp)];simp
  · rw [Array.getElem?_push,if_pos (by simp)]
def RunPost (B:Nat) (Ret:World→Prop) (Pan:Int→World→Prop) (e:Ending) (w'':World):Prop :=
  ∃ w',Below B w' w''∧((e=.returned (.tuple #[crash 0,.bool false])∧Ret w')∨∃ op,e=.returned (.tuple #[crash op,.bool true])∧Pan op w')
def RunPre (B:Nat) (w1:World) (Ret:World→Prop) (Pan:Int→World→Prop) (e:Ending) (w':World):Prop :=
  (∀ b,B≤b→b<w1.heap.size→w'.heap[b]?=w1.heap[b]?)∧w1.heap.size≤w'.heap.size∧((e=.returned (.tuple #[])∧Ret w')∨∃ op,e=.panicked [{ v:=crashI op,recovered:=false }]∧Pan op w')
set_option maxHeartbeats 1000000 in
set_option maxRecDepth 100000 in
theorem guardRun (k:FuncId) (caps:Array Value) (hk:FnOkG k) (w:World) (Ret:World→Prop) (Pan:Int→World→Prop)
    (h:∀ w1,Below w.heap.size w w1→Calls Tryz.prog k caps w1 (RunPre w.heap.size w1 Ret Pan)) :
    Calls Tryz.prog 48 #[.func (.func k) #[] caps] w (RunPost w.heap.size Ret Pan):=by
  have hmf:∀ (fn:Fn) (first cap:Array Value) (w:World),(Instr.makeFunc fn first cap).run Tryz.prog w=.ok (.func fn first cap) w:=fun _ _ _ _=>rfl
  have hfn:=func_nil
  have H:=hid h
  have hkk:∀ (args:Array Value) (w:World),(callFunc k args).run Tryz.prog w=.ok (.enter k args) w:=hk
  clear hk
  clear h
  go_enter_defers Tryz.func48,Tryz.ntmps48
  go_wp2_with (fail)
  have hr:=rows_twoG w.heap (.cells #[.int .i64 0] 48) (.cells #[.bool false] 4)
  have hb1:Below w.heap.size w ((w.alloc (.cells #[.int .i64 0] 48)).alloc (.cells #[.bool false] 4)):=((Below.refl _ w).alloc (Nat.le_refl _) _).alloc (by simp) _
  have hr1:((w.alloc (.cells #[.int .i64 0] 48)).alloc (.cells #[.bool false] 4)).heap[w.heap.size]?=some (.cells #[.int .i64 0] 48):=hr.1
  have hr2:((w.alloc (.cells #[.int .i64 0] 48)).alloc (.cells #[.bool false] 4)).heap[w.heap.size+1]?=some (.cells #[.bool false] 4):=hr.2
  have hs1:((w.alloc (.cells #[.int .i64 0] 48)).alloc (.cells #[.bool false] 4)).heap.size=w.heap.size+2:=by simp
  clear hr
  have HK:=H.out _ hb1
  clear H hb1
  generalize (w.alloc (.cells #[.int .i64 0] 48)).alloc (.cells #[.bool false] 4)=w1 at *
  obtain ⟨B,hB⟩:∃ B,B=w.heap.size:=⟨_,rfl⟩
  rw [← hB] at hr1 hr2 hs1 HK ⊢
  have HBB:=hid hB
  clear hB
  refine HK.mono ?_
  rintro e w2 ⟨hkeep,hsz,hcase⟩
  have rC:w2.heap[B]?=some (.cells #[.int .i64 0] 48):=by rw [hkeep B (Nat.le_refl _) (by omega)];exact hr1
  have rG:w2.heap[B+1]?=some (.cells #[.bool false] 4):=by rw [hkeep (B+1) (by omega) (by omega)];exact hr2
  have HS:=hid hsz
  clear hkeep hr1 hr2 hs1 hsz HK
  rcases hcase with ⟨rfl,hRet⟩|⟨op,rfl,hPan⟩
  · have HR:=hid hRet
    clear hRet
    have c1:=cell_of_row w2 B 0 _ _ _ rC
    have c2:=cell_of_row w2 (B+1) 0 _ _ _ rG
    simp only [List.getElem?_toArray,List.getElem?_cons_zero] at c1 c2
    have f1:w2.frozen? ⟨B,0,none⟩=false:=by simp [World.frozen?,rC]
    have f2:w2.frozen? ⟨B+1,0,none⟩=false:=by simp [World.frozen?,rG]
    have L1:=hid rC
    have L2:=hid rG
    clear rC rG
    go_wp2_with (fail)
    clear c1 c2 f1 f2
    have R2:((w2.setCell ⟨B,0,none⟩ (.int .i64 0)).setCell ⟨B+1,0,none⟩ (.bool false)).heap[B+1]?=some (.cells #[.bool false] 4) :=
      heap_setCell_same (w2.setCell ⟨B,0,none⟩ (.int .i64 0)) (B+1) 0 _ _ _ (by rw [heap_setCell_other _ _ _ _ (by show B+1≠B;omega)];exact L2.out)
    have R1:((w2.setCell ⟨B,0,none⟩ (.int .i64 0)).setCell ⟨B+1,0,none⟩ (.bool false)).heap[B]?=some (.cells #[.int .i64 0] 48):=by
      rw [heap_setCell_other _ _ _ _ (by show B≠B+1;omega)]
      exact heap_setCell_same _ _ _ _ _ _ L1.out
    have hbb:Below B w2 ((w2.setCell ⟨B,0,none⟩ (.int .i64 0)).setCell ⟨B+1,0,none⟩ (.bool false)):=((Below.refl B w2).setCell (p:=⟨B,0,none⟩) (Nat.le_refl _) _).setCell (p:=⟨B+1,0,none⟩) (Nat.le_succ _) _
    generalize (w2.setCell ⟨B,0,none⟩ (.int .i64 0)).setCell ⟨B+1,0,none⟩ (.bool false)=w3 at *
    refine leaves_cons (f:=78) (args:=#[.pointer (some ⟨B,0,none⟩),.pointer (some ⟨B+1,0,none⟩)]) (by simp) (by simp [go_sem]) ?_
    refine (run1_idle ⟨B,0,none⟩ ⟨B+1,0,none⟩ w3).mono ?_
    rintro e u' w'' ⟨rfl,rfl,rfl⟩
    have c1:=cell_of_row w'' B 0 _ _ _ R1
    have c2:=cell_of_row w'' (B+1) 0 _ _ _ R2
    simp only [List.getElem?_toArray,List.getElem?_cons_zero] at c1 c2
    have hP:RunPost w.heap.size Ret Pan (.returned (.tuple #[crash 0,.bool false])) w'':=⟨w2,HBB.out ▸ hbb,.inl ⟨rfl,HR.out⟩⟩
    simp [Leaves,settle,results,Tryz.results48,go_sem,c1,c2]
    exact hP
  · show Leaves _ _ _ _ _ _ _
    have hne:B≠B+1:=by omega
    refine leaves_cons (f:=78) (args:=#[.pointer (some ⟨B,0,none⟩),.pointer (some ⟨B+1,0,none⟩)]) (by simp) (by simp [go_sem]) ?_
    refine (run1_crash B (B+1) op 0 false [] B (Nat.le_refl _) (Nat.le_succ _) hne w2 rC rG).mono ?_
    rintro e u' w'' ⟨rfl,rfl,hbb,R1,R2⟩
    have c1:=cell_of_row w'' B 0 _ _ _ R1
    have c2:=cell_of_row w'' (B+1) 0 _ _ _ R2
    simp only [List.getElem?_toArray,List.getElem?_cons_zero] at c1 c2
    have hP:RunPost B Ret Pan (.returned (.tuple #[crash op,.bool true])) w'':=⟨w2,hbb,.inr ⟨op,rfl,hPan⟩⟩
    simp [Leaves,settle,results,Tryz.results48,go_sem,c1,c2]
    exact hP
end
/- Layer 3: Run and Do of any function,with the blocks that change behind it. -/
section
open Go.RowKit
set_option maxHeartbeats 1000000 in
theorem run1_crashS (C G:Nat) (op x:Int) (y:Bool) (older:List PanicEntry) (hne:C≠G) (w:World) (rC:w.heap[C]?=some (.cells #[.int .i64 x] 48)) (rG:w.heap[G]?=some (.cells #[.bool y] 4)) :
    CallsD Tryz.prog 78 #[.pointer (some ⟨C,0,none⟩),.pointer (some ⟨G,0,none⟩)] (.panicking ({ v:=crashI op,recovered:=false } :: older)) w fun e u' w' =>
      e=.returned (.tuple #[])∧u'=.panicking ({ v:=crashI op,recovered:=true } :: older)∧Ch (fun k=>k=C∨k=G) w w'∧w'.heap[C]?=some (.cells #[.int .i64 op] 48)∧w'.heap[G]?=some (.cells #[.bool true] 4):=by
  have hl1:C<w.heap.size:=(Array.getElem?_eq_some_iff.1 rC).1
  have hl2:G<w.heap.size:=(Array.getElem?_eq_some_iff.1 rG).1
  refine callsD_of_wpS Tryz.func78 rfl fun c₀ cs hu=>?_
  apply wpS_seq
  apply wpS_region
  simp [wpOpsS,go_sem,recoverD,hu,Tryz.ntmps78,Exit.thenS]
  rw [tm37]
  refine wpS_of_wp ?_
  go_wp2_with (fail)
  refine (guardLost_yes op w).mono ?_
  rintro e w1 ⟨rfl,hb1⟩
  have r1:w1.heap[C]?=some (.cells #[.int .i64 x] 48):=by rw [hb1.block _ hl1];exact rC
  have r2:w1.heap[G]?=some (.cells #[.bool y] 4):=by rw [hb1.block _ hl2];exact rG
  have c1:=cell_of_row w1 C 0 _ _ _ r1
  have c2:=cell_of_row w1 G 0 _ _ _ r2
  simp only [List.getElem?_toArray,List.getElem?_cons_zero] at c1 c2
  have f1:w1.frozen? ⟨C,0,none⟩=false:=by simp [World.frozen?,r1]
  have f2:w1.frozen? ⟨G,0,none⟩=false:=by simp [World.frozen?,r2]
  have hne':G≠C:=fun h=>hne h.symm
  have L1:=hid rC
  have L2:=hid rG
  have L3:=hid r1
  have L4:=hid r2
  have L5:=hid hb1
  have L6:=hid hl1
  clear rC rG r1 r2 hb1 hu hl1 hl2
  go_wp2_with (fail)
  refine ⟨rfl,_,rfl,_,by simp [results,Tryz.results78],rfl,rfl,?_,?_,?_⟩
  · exact ((Ch.of_below (S:=fun k=>k=C∨k=G) L5.out).set (a:=⟨C,0,none⟩) (.inl rfl) _).set (a:=⟨G,0,none⟩) (.inr rfl) _
  · rw [heap_setCell_other _ _ _ _ (by show C≠G;exact hne)]
    exact heap_setCell_same _ _ _ _ _ _ L3.out
  · exact heap_setCell_same (w1.setCell ⟨C,0,none⟩ (.int .i64 op)) G 0 _ _ _ (by rw [heap_setCell_other _ _ _ _ (by show G≠C;exact fun h=>hne h.symm)];exact L4.out)
def RunPostS (W:World) (B:Nat) (Ret:World→World→Prop) (Pan:Int→World→World→Prop) (e:Ending) (w'':World):Prop :=
  ∃ w1 w',Below B W w1∧w1.heap.size≤w'.heap.size∧Ch (fun k=>B≤k∧k<w1.heap.size) w' w''∧((e=.returned (.tuple #[crash 0,.bool false])∧Ret w1 w')∨∃ op,e=.returned (.tuple #[crash op,.bool true])∧Pan op w1 w')
set_option maxHeartbeats 1000000 in
set_option maxRecDepth 100000 in
theorem guardRunS (k:FuncId) (caps:Array Value) (hk:FnOkG k) (w:World) (Ret:World→World→Prop) (Pan:Int→World→World→Prop)
    (h:∀ w1,Below w.heap.size w w1→Calls Tryz.prog k caps w1 (RunPre w.heap.size w1 (Ret w1) (fun op=>Pan op w1))) :
    Calls Tryz.prog 48 #[.func (.func k) #[] caps] w (RunPostS w w.heap.size Ret Pan):=by
  have hmf:∀ (fn:Fn) (first cap:Array Value) (w:World),(Instr.makeFunc fn first cap).run Tryz.prog w=.ok (.func fn first cap) w:=fun _ _ _ _=>rfl
  have hfn:=func_nil
  have H:=hid h
  have hkk:∀ (args:Array Value) (w:World),(callFunc k args).run Tryz.prog w=.ok (.enter k args) w:=hk
  clear hk
  clear h
  go_enter_defers Tryz.func48,Tryz.ntmps48
  go_wp2_with (fail)
  have hr:=rows_twoG w.heap (.cells #[.int .i64 0] 48) (.cells #[.bool false] 4)
  have hb1:Below w.heap.size w ((w.alloc (.cells #[.int .i64 0] 48)).alloc (.cells #[.bool false] 4)):=((Below.refl _ w).alloc (Nat.le_refl _) _).alloc (by simp) _
  have hr1:((w.alloc (.cells #[.int .i64 0] 48)).alloc (.cells #[.bool false] 4)).heap[w.heap.size]?=some (.cells #[.int .i64 0] 48):=hr.1
  have hr2:((w.alloc (.cells #[.int .i64 0] 48)).alloc (.cells #[.bool false] 4)).heap[w.heap.size+1]?=some (.cells #[.bool false] 4):=hr.2
  have hs1:((w.alloc (.cells #[.int .i64 0] 48)).alloc (.cells #[.bool false] 4)).heap.size=w.heap.size+2:=by simp
  clear hr
  have HK:=H.out _ hb1
  clear H
  generalize (w.alloc (.cells #[.int .i64 0] 48)).alloc (.cells #[.bool false] 4)=w1 at *
  obtain ⟨B,hB⟩:∃ B,B=w.heap.size:=⟨_,rfl⟩
  rw [← hB] at hr1 hr2 hs1 HK hb1 ⊢
  have HB1:=hid hb1
  have HS1:=hid hs1
  clear hb1
  have HBB:=hid hB
  clear hB
  refine HK.mono ?_
  rintro e w2 ⟨hkeep,hsz,hcase⟩
  have rC:w2.heap[B]?=some (.cells #[.int .i64 0] 48):=by rw [hkeep B (Nat.le_refl _) (by omega)];exact hr1
  have rG:w2.heap[B+1]?=some (.cells #[.bool false] 4):=by rw [hkeep (B+1) (by omega) (by omega)];exact hr2
  have HS:=hid hsz
  clear hkeep hr1 hr2 hs1 hsz HK
  rcases hcase with ⟨rfl,hRet⟩|⟨op,rfl,hPan⟩
  · have HR:=hid hRet
    clear hRet
    have c1:=cell_of_row w2 B 0 _ _ _ rC
    have c2:=cell_of_row w2 (B+1) 0 _ _ _ rG
    simp only [List.getElem?_toArray,List.getElem?_cons_zero] at c1 c2
    have f1:w2.frozen? ⟨B,0,none⟩=false:=by simp [World.frozen?,rC]
    have f2:w2.frozen? ⟨B+1,0,none⟩=false:=by simp [World.frozen?,rG]
    have L1:=hid rC
    have L2:=hid rG
    clear rC rG
    go_wp2_with (fail)
    clear c1 c2 f1 f2
    have R2:((w2.setCell ⟨B,0,none⟩ (.int .i64 0)).setCell ⟨B+1,0,none⟩ (.bool false)).heap[B+1]?=some (.cells #[.bool false] 4) :=
      heap_setCell_same (w2.setCell ⟨B,0,none⟩ (.int .i64 0)) (B+1) 0 _ _ _ (by rw [heap_setCell_other _ _ _ _ (by show B+1≠B;omega)];exact L2.out)
    have R1:((w2.setCell ⟨B,0,none⟩ (.int .i64 0)).setCell ⟨B+1,0,none⟩ (.bool false)).heap[B]?=some (.cells #[.int .i64 0] 48):=by
      rw [heap_setCell_other _ _ _ _ (by show B≠B+1;omega)]
      exact heap_setCell_same _ _ _ _ _ _ L1.out
    have hbb:Ch (fun k=>B≤k∧k<w1.heap.size) w2 ((w2.setCell ⟨B,0,none⟩ (.int .i64 0)).setCell ⟨B+1,0,none⟩ (.bool false)):=((Ch.refl _ w2).set (a:=⟨B,0,none⟩) ⟨Nat.le_refl _,by have:=HS1.out;show B<_;omega⟩ _).set (a:=⟨B+1,0,none⟩) ⟨by show B≤B+1;omega,by have:=HS1.out;show B+1<_;omega⟩ _
    generalize (w2.setCell ⟨B,0,none⟩ (.int .i64 0)).setCell ⟨B+1,0,none⟩ (.bool false)=w3 at *
    refine leaves_cons (f:=78) (args:=#[.pointer (some ⟨B,0,none⟩),.pointer (some ⟨B+1,0,none⟩)]) (by simp) (by simp [go_sem]) ?_
    refine (run1_idle ⟨B,0,none⟩ ⟨B+1,0,none⟩ w3).mono ?_
    rintro e u' w'' ⟨rfl,rfl,rfl⟩
    have c1:=cell_of_row w'' B 0 _ _ _ R1
    have c2:=cell_of_row w'' (B+1) 0 _ _ _ R2
    simp only [List.getElem?_toArray,List.getElem?_cons_zero] at c1 c2
    have hP:RunPostS w B Ret Pan (.returned (.tuple #[crash 0,.bool false])) w'':=⟨w1,w2,HB1.out,HS.out,hbb,.inl ⟨rfl,HR.out⟩⟩
    try rw [HBB.out] at hP
    simp [Leaves,settle,results,Tryz.results48,go_sem,c1,c2]
    exact hP
  · show Leaves _ _ _ _ _ _ _
    have hne:B≠B+1:=by omega
    refine leaves_cons (f:=78) (args:=#[.pointer (some ⟨B,0,none⟩),.pointer (some ⟨B+1,0,none⟩)]) (by simp) (by simp [go_sem]) ?_
    refine (run1_crashS B (B+1) op 0 false [] hne w2 rC rG).mono ?_
    rintro e u' w'' ⟨rfl,rfl,hbb,R1,R2⟩
    have c1:=cell_of_row w'' B 0 _ _ _ R1
    have c2:=cell_of_row w'' (B+1) 0 _ _ _ R2
    simp only [List.getElem?_toArray,List.getElem?_cons_zero] at c1 c2
    have hP:RunPostS w B Ret Pan (.returned (.tuple #[crash op,.bool true])) w'':=⟨w1,w2,HB1.out,HS.out,(Ch.refl _ w2).trans hbb (fun x _ h=>by have:=HS1.out;rcases h with rfl | rfl <;> exact ⟨by omega,by omega⟩),.inr ⟨op,rfl,hPan⟩⟩
    simp [Leaves,settle,results,Tryz.results48,go_sem,c1,c2]
    exact hP
end
/- Layer 3: Do of any function,with the blocks that change behind it. -/
section
open Go.RowKit
set_option maxRecDepth 100000 in
theorem funcE_some (fn:Fn) (first cap:Array Value) (w:World):(binOp .eql 52 (.func fn first cap) .nilFunc).run Tryz.prog w=.ok (.bool false) w:=by
  first
  | rfl
  | simp [binOp,go_sem,run_underlying Tryz.underlying52]
def FCallsS (v:Value) (W:World) (R:Ending→World→Prop):Prop:=∃ (k:FuncId) (caps:Array Value),v=.func (.func k) #[] caps∧FnOkG k∧Calls Tryz.prog k caps W R
def DoPreS (B:Nat) (w1:World) (Ret:Int→World→Prop) (Pan:Int→World→Prop) (e:Ending) (w':World):Prop :=
  (∀ b,B≤b→b<w1.heap.size→w'.heap[b]?=w1.heap[b]?)∧w1.heap.size≤w'.heap.size∧((∃ n,e=.returned (.int .i64 n)∧Ret n w')∨∃ op,e=.panicked [{ v:=crashI op,recovered:=false }]∧Pan op w')
def DoPostS (W:World) (B:Nat) (Ret:Int→World→World→Prop) (Pan:Int→World→World→Prop) (e:Ending) (w'':World):Prop :=
  ∃ w1 w',Below B W w1∧w1.heap.size≤w'.heap.size∧Ch (fun k=>B≤k∧k<w1.heap.size) w' w''∧((∃ n,e=.returned (.tuple #[.int .i64 n,crash 0,.bool false])∧Ret n w1 w')∨∃ op,e=.returned (.tuple #[.int .i64 0,crash op,.bool true])∧Pan op w1 w')
def Do1PostS (Q:Nat) (C:Nat) (W:World) (Ret:Int→World→Prop) (Pan:Int→World→Prop) (e:Ending) (w':World):Prop :=
  (∀ b,C≤b→b≠Q→b<W.heap.size→w'.heap[b]?=W.heap[b]?)∧W.heap.size≤w'.heap.size ∧
  ((e=.returned (.tuple #[])∧∃ n w0,Ret n w0∧W.heap.size≤w0.heap.size∧Ch (At1 Q) w0 w'∧w'.heap[Q]?=some (.cells #[.int .i64 n] 46))∨∃ op,e=.panicked [{ v:=crashI op,recovered:=false }]∧Pan op w'∧w'.heap[Q]?=some (.cells #[.int .i64 0] 46))
theorem okDo1:FnOkG 49:=fun args w=>Go.MuLone.run_callFunc_enter Tryz.func49 (by kernel_rfl) rfl args w
set_option maxRecDepth 100000 in
theorem guardDo1S (P Q C:Nat) (v:Value) (W:World) (hP:W.heap[P]?=some (.cells #[v] 52)) (hQ:W.heap[Q]?=some (.cells #[.int .i64 0] 46)) (hC:C≤Q) (Ret:Int→World→Prop) (Pan:Int→World→Prop)
    (h:FCallsS v W (DoPreS C W Ret Pan)):Calls Tryz.prog 49 #[.pointer (some ⟨P,0,none⟩),.pointer (some ⟨Q,0,none⟩)] W (Do1PostS Q C W Ret Pan):=by
  obtain ⟨k,caps,rfl,hk,hc⟩:=h
  have hkk:∀ (args:Array Value) (w:World),(callFunc k args).run Tryz.prog w=.ok (.enter k args) w:=hk
  have c:=cell_of_row W P 0 _ _ _ hP
  simp only [List.getElem?_toArray,List.getElem?_cons_zero] at c
  have HQL:Hid (Q<W.heap.size):=hid (Array.getElem?_eq_some_iff.1 hQ).1
  have HQ:=hid hQ
  have HC:=hid hc
  clear hP hQ hk hc
  go_enter Tryz.func49,Tryz.ntmps49
  go_wp2_with (fail)
  refine HC.out.mono ?_
  rintro e w2 ⟨hkeep,hsz,hcase⟩
  have hr:w2.heap[Q]?=some (.cells #[.int .i64 0] 46):=by rw [hkeep Q hC HQL.out];exact HQ.out
  rcases hcase with ⟨n,rfl,hret⟩|⟨op,rfl,hpan⟩
  · have HK:=hid hkeep
    have HSZ:=hid hsz
    have HRT:=hid hret
    have HR:=hid hr
    have c2:=cell_of_row w2 Q 0 _ _ _ hr
    simp only [List.getElem?_toArray,List.getElem?_cons_zero] at c2
    have f2:w2.frozen? ⟨Q,0,none⟩=false:=by simp [World.frozen?,hr]
    clear hkeep hsz hret hr c HC
    go_wp2_with (fail)
    go_end0
    refine ⟨fun b hb hne hlt=>?_,by simpa using HSZ.out,.inl ⟨rfl,n,w2,HRT.out,HSZ.out,(Ch.refl _ _).set1 0 _,heap_setCell_same _ _ _ _ _ _ HR.out⟩⟩
    rw [heap_setCell_other _ _ _ _ (by show b≠Q;exact hne)]
    exact HK.out b hb hlt
  · exact ⟨rfl,fun b hb hne hlt=>hkeep b hb hlt,hsz,.inr ⟨op,rfl,hpan,hr⟩⟩
theorem rows_threeG (h:Array Obj) (X Y Z:Obj):(((h.push X).push Y).push Z)[h.size]?=some X∧(((h.push X).push Y).push Z)[h.size+1]?=some Y∧(((h.push X).push Y).push Z)[h.size+2]?=some Z:=by
  refine ⟨?_,?_,?_⟩
  · rw [Array.getElem?_push,if_neg (by simp;omega)];exact (rows_twoG h X Y).1
  · rw [Array.getElem?_push,if_neg (by simp)];exact (rows_twoG h X Y).2
  · rw [Array.getElem?_push,if_pos (by simp)]
set_option maxHeartbeats 2000000 in
set_option maxRecDepth 100000 in
theorem guardDoS (v:Value) (w:World) (Ret:Int→World→World→Prop) (Pan:Int→World→World→Prop) (h:∀ w1,Below w.heap.size w w1→FCallsS v w1 (DoPreS w.heap.size w1 (fun n=>Ret n w1) (fun op=>Pan op w1))) :
    Calls Tryz.prog 14 #[v] w (DoPostS w w.heap.size Ret Pan):=by
  have hmf:∀ (fn:Fn) (first cap:Array Value) (w:World),(Instr.makeFunc fn first cap).run Tryz.prog w=.ok (.func fn first cap) w:=fun _ _ _ _=>rfl
  obtain ⟨k,caps,rfl,_,_⟩:=h w (Below.refl _ _)
  have hfs:=funcE_some
  have H:=hid h
  clear h
  go_enter Tryz.func14,Tryz.ntmps14
  go_wp2_with (fail)
  have h3:=rows_threeG w.heap (.cells #[.func (.func k) #[] caps] 52) (.cells #[.int .i64 0] 48) (.cells #[.int .i64 0] 46)
  have hb2:Below w.heap.size w (((w.alloc (.cells #[.func (.func k) #[] caps] 52)).alloc (.cells #[.int .i64 0] 48)).alloc (.cells #[.int .i64 0] 46)):=(((Below.refl _ w).alloc (Nat.le_refl _) _).alloc (by simp) _).alloc (by simp;omega) _
  have hs2:(((w.alloc (.cells #[.func (.func k) #[] caps] 52)).alloc (.cells #[.int .i64 0] 48)).alloc (.cells #[.int .i64 0] 46)).heap.size=w.heap.size+3:=by simp
  have hr0:(((w.alloc (.cells #[.func (.func k) #[] caps] 52)).alloc (.cells #[.int .i64 0] 48)).alloc (.cells #[.int .i64 0] 46)).heap[w.heap.size]?=_:=h3.1
  have hr1:(((w.alloc (.cells #[.func (.func k) #[] caps] 52)).alloc (.cells #[.int .i64 0] 48)).alloc (.cells #[.int .i64 0] 46)).heap[w.heap.size+1]?=_:=h3.2.1
  have hr2:(((w.alloc (.cells #[.func (.func k) #[] caps] 52)).alloc (.cells #[.int .i64 0] 48)).alloc (.cells #[.int .i64 0] 46)).heap[w.heap.size+2]?=_:=h3.2.2
  clear h3
  generalize (((w.alloc (.cells #[.func (.func k) #[] caps] 52)).alloc (.cells #[.int .i64 0] 48)).alloc (.cells #[.int .i64 0] 46))=w2 at *
  obtain ⟨B,hB⟩:∃ B,B=w.heap.size:=⟨_,rfl⟩
  have HBB:=hid hB
  rw [← hB] at hr0 hr1 hr2 hs2 ⊢
  rw [show B+1+1=B+2 from rfl]
  have HB2:=hid hb2
  refine (guardRunS _ _ okDo1 w2 (fun w3 w'=>∃ n w0,Ret n w3 w0∧w3.heap.size≤w0.heap.size∧Ch (At1 (B+2)) w0 w'∧w'.heap[B+2]?=some (.cells #[.int .i64 n] 46)∧w'.heap[B+1]?=some (.cells #[.int .i64 0] 48)) (fun op w3 w'=>Pan op w3 w'∧w'.heap[B+2]?=some (.cells #[.int .i64 0] 46)∧w'.heap[B+1]?=some (.cells #[.int .i64 0] 48)) ?_).mono ?_
  · intro w3 hb3
    have q0:w3.heap[B]?=_:=(hb3.block _ (by omega)).trans hr0
    have q1:w3.heap[B+1]?=_:=(hb3.block _ (by omega)).trans hr1
    have q2:w3.heap[B+2]?=_:=(hb3.block _ (by omega)).trans hr2
    have hz3:=hb3.size
    refine (guardDo1S B (B+2) w.heap.size _ w3 q0 q2 (by omega) (fun n=>Ret n w3) (fun op=>Pan op w3) (H.out w3 (hb2.trans (hb3.mono (by omega))))).mono ?_
    rintro e w' ⟨hkeep,hsz,hcase⟩
    have r1:w'.heap[B+1]?=some (.cells #[.int .i64 0] 48):=by rw [hkeep (B+1) (by omega) (by omega) (by omega)];exact q1
    refine ⟨fun b hb hlt=>hkeep b (by omega) (by omega) hlt,hsz,?_⟩
    rcases hcase with ⟨rfl,n,w0,hret,hz0,hc0,hq⟩|⟨op,rfl,hpan,hq⟩
    · exact .inl ⟨rfl,n,w0,hret,hz0,hc0,hq,r1⟩
    · exact .inr ⟨op,rfl,hpan,hq,r1⟩
  rintro e w4 ⟨w3,w',hb3,hz3,hc,hcase⟩
  have hl3:=hb3.size
  have HB3:Hid (Below w.heap.size w w3):=hid (HB2.out.trans (hb3.mono (by omega)))
  have HL3:Hid (B+1<w3.heap.size):=hid (by omega)
  clear H hr0 hr1 hr2 hb2 HB2 hb3
  rcases hcase with ⟨rfl,n,w0,hret,hz0,hc0,re,rc⟩|⟨op,rfl,hpan,re,rc⟩
  · have HCW:Hid (Ch (fun k=>B≤k∧k<w3.heap.size) w0 w4):=hid (((Ch.refl _ w0).trans hc0 (fun x _ h=>⟨by rw [show x=B+2 from h];omega,by rw [show x=B+2 from h];omega⟩)).trans hc (fun x _ h=>⟨by omega,h.2⟩))
    have HRT:=hid hret
    have HZ0:=hid hz0
    replace re:w4.heap[B+2]?=_:=hc.row re (by omega)
    replace rc:w4.heap[B+1]?=_:=hc.row rc (by omega)
    clear hc hc0 hz0 hret hs2 hB hz3 hl3
    have hb4:=(Below.refl w4.heap.size w4).alloc (Nat.le_refl _) (.cells #[.int .i64 0] 48)
    have r5c:(w4.alloc (.cells #[.int .i64 0] 48)).heap[B+1]?=some (.cells #[.int .i64 0] 48):=by rw [hb4.block _ (Array.getElem?_eq_some_iff.1 rc).1];exact rc
    have r5e:(w4.alloc (.cells #[.int .i64 0] 48)).heap[B+2]?=some (.cells #[.int .i64 n] 46):=by rw [hb4.block _ (Array.getElem?_eq_some_iff.1 re).1];exact re
    have r5n:=heap_alloc_new w4 (.cells #[.int .i64 0] 48)
    have HB5:=hid (HCW.out.trans (Ch.of_below (S:=fun k=>B≤k∧k<w3.heap.size) hb4) (fun _ _ h=>h))
    clear hb4 rc re HCW
    go_wp2_with (fail)
    generalize w4.alloc (.cells #[.int .i64 0] 48)=w5 at *
    generalize w4.heap.size=G at *
    have cc:=cell_of_row w5 (B+1) 0 _ _ _ r5c
    have ce:=cell_of_row w5 (B+2) 0 _ _ _ r5e
    have cn:=cell_of_row w5 G 0 _ _ _ r5n
    simp only [List.getElem?_toArray,List.getElem?_cons_zero] at cc ce cn
    have fc:w5.frozen? ⟨B+1,0,none⟩=false:=by simp [World.frozen?,r5c]
    have HR5:=hid r5c
    clear r5c r5e r5n
    go_region
    all_goals
      go_wp2_with (fail)
      have hrow:((w5.setCell ⟨B+1,0,none⟩ (.int .i64 0)).drew).heap[B+1]?=some (.cells #[.int .i64 0] 48):=heap_setCell_same w5 (B+1) 0 _ _ (.int .i64 0) HR5.out
      have hb6:=(HB5.out.set (a:=⟨B+1,0,none⟩) ⟨by show B≤B+1;omega,HL3.out⟩ (.int .i64 0)).drew
      generalize (w5.setCell ⟨B+1,0,none⟩ (.int .i64 0)).drew=w6 at *
      have c6:=cell_of_row w6 (B+1) 0 _ _ _ hrow
      simp only [List.getElem?_toArray,List.getElem?_cons_zero] at c6
      exact bodyPost_ret (v:=.tuple #[.int .i64 n,crash 0,.bool false]) (by simp [results,Tryz.results14,go_sem,c6]) rfl ⟨w3,w0,HB3.out,HZ0.out,HBB.out ▸ hb6,.inl ⟨n,rfl,HRT.out⟩⟩
  · have HCW:Hid (Ch (fun k=>B≤k∧k<w3.heap.size) w' w4):=hid ((Ch.refl _ w').trans hc (fun x _ h=>⟨by omega,h.2⟩))
    have HPN:=hid hpan
    have HZ0:=hid hz3
    replace re:w4.heap[B+2]?=_:=hc.row re (by omega)
    replace rc:w4.heap[B+1]?=_:=hc.row rc (by omega)
    clear hc hz3 hpan hs2 hB hl3
    have hb4:=(Below.refl w4.heap.size w4).alloc (Nat.le_refl _) (.cells #[.int .i64 op] 48)
    have r5c:(w4.alloc (.cells #[.int .i64 op] 48)).heap[B+1]?=some (.cells #[.int .i64 0] 48):=by rw [hb4.block _ (Array.getElem?_eq_some_iff.1 rc).1];exact rc
    have r5e:(w4.alloc (.cells #[.int .i64 op] 48)).heap[B+2]?=some (.cells #[.int .i64 0] 46):=by rw [hb4.block _ (Array.getElem?_eq_some_iff.1 re).1];exact re
    have r5n:=heap_alloc_new w4 (.cells #[.int .i64 op] 48)
    have HB5:=hid (HCW.out.trans (Ch.of_below (S:=fun k=>B≤k∧k<w3.heap.size) hb4) (fun _ _ h=>h))
    clear hb4 rc re HCW
    go_wp2_with (fail)
    generalize w4.alloc (.cells #[.int .i64 op] 48)=w5 at *
    generalize w4.heap.size=G at *
    have cc:=cell_of_row w5 (B+1) 0 _ _ _ r5c
    have ce:=cell_of_row w5 (B+2) 0 _ _ _ r5e
    have cn:=cell_of_row w5 G 0 _ _ _ r5n
    simp only [List.getElem?_toArray,List.getElem?_cons_zero] at cc ce cn
    have fc:w5.frozen? ⟨B+1,0,none⟩=false:=by simp [World.frozen?,r5c]
    have HR5:=hid r5c
    clear r5c r5e r5n
    go_region
    all_goals
      go_wp2_with (fail)
      have hrow:((w5.setCell ⟨B+1,0,none⟩ (.int .i64 op)).drew).heap[B+1]?=some (.cells #[.int .i64 op] 48):=heap_setCell_same w5 (B+1) 0 _ _ (.int .i64 op) HR5.out
      have hb6:=(HB5.out.set (a:=⟨B+1,0,none⟩) ⟨by show B≤B+1;omega,HL3.out⟩ (.int .i64 op)).drew
      generalize (w5.setCell ⟨B+1,0,none⟩ (.int .i64 op)).drew=w6 at *
      have c6:=cell_of_row w6 (B+1) 0 _ _ _ hrow
      simp only [List.getElem?_toArray,List.getElem?_cons_zero] at c6
      exact bodyPost_ret (v:=.tuple #[.int .i64 0,crash op,.bool true]) (by simp [results,Tryz.results14,go_sem,c6]) rfl ⟨w3,w',HB3.out,HZ0.out,HBB.out ▸ hb6,.inr ⟨op,rfl,HPN.out⟩⟩
end
end Go.Proofs.YtodjilljcjkacaaGreatDoor
