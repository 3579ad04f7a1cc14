/- Laid together: Dk3, Dk4, Dk5, Dk6, Dk7. -/
import Derived.Test.YtodjilljcjkacaaGreatDoorPkIB4
import Derived.Conc.MuLone

namespace Go.Proofs.YtodjilljcjkacaaGreatDoor
open Lib (hid)
section
open Go.RowKit Go.MapKept
noncomputable abbrev kS:KeyK Tryz.prog 9 ByteArray .string:=keyString Tryz.underlying9
theorem fget_split (F:List Ent) (n:ByteArray):(fget (fsOf F) n=none∧∀ e ∈ F,e.nm≠n)∨∃ P e Q,F=P++e :: Q∧e.nm=n∧fget (fsOf F) n=some e.f∧∀ x ∈ P,x.nm≠n:=by
  rcases aget_split F n with ⟨_,h⟩|⟨P,e,Q,rfl,rfl,_,h⟩
  · exact .inl ⟨fget_none h,h⟩
  · exact .inr ⟨P,e,Q,rfl,rfl,fget_at h,h⟩
theorem aget_none {F:List Ent} {n:ByteArray} (h:∀ e ∈ F,e.nm≠n):aget (mapL F) n=none:=by
  rcases aget_split F n with ⟨h1,_⟩|⟨P,e,Q,rfl,rfl,_,_⟩
  · exact h1
  · exact absurd rfl (h e (by simp))
theorem aget_at {P Q:List Ent} {e:Ent} (h:∀ x ∈ P,x.nm≠e.nm):aget (mapL (P++e :: Q)) e.nm=some (pf e.g):=by
  induction P with
  | nil=>simp [mapL,aget]
  | cons a r ih =>
    have:=ih (fun x hx=>h x (by simp [hx]))
    simp only [mapL,List.cons_append,List.map_cons,aget] at this ⊢
    rw [if_neg (fun e2=>h a (by simp) e2.symm)]
    exact this
theorem Own.shrink {E:TypeId} {w:World} {B c n:Nat} {A:Option Addr} {l:List UInt8} (h:Own E w B (.slice A l.length c) l) (hn:n≤l.length):Own E w B (.slice A n c) (l.take n):=by
  have hl:(l.take n).length=n:=by rw [List.length_take];omega
  refine ⟨by simp [hn],?_⟩
  rcases h.2 with ⟨he,h0⟩|⟨g,cap,cur,he,h1,h2,h3,h4,h5,h6⟩
  · left
    rw [hl]
    injection he with e1 e2 e3
    subst e1 e3
    have:n=0:=by omega
    subst this
    exact ⟨rfl,rfl⟩
  · right
    injection he with e1 e2 e3
    subst e1 e3
    refine ⟨g,c,cur,by rw [hl],h1,h2,by rw [hl];omega,h4,h5,?_⟩
    rw [hl,u8s,List.map_take]
    have h7:(u8s l).take n=(cur.toList.take (l.length*1)).take n:=by rw [h6]
    rw [List.take_take,Nat.mul_one,Nat.min_eq_left hn] at h7
    rw [Nat.mul_one]
    exact h7.symm
set_option maxRecDepth 100000 in
theorem dkLoseC {w:World} {D:Nat} {n:Int} (c3:w.cell? ⟨D,3,none⟩=some (.int .i64 n)):Calls Tryz.prog 138 #[pD D] w fun e w'=>e=.panicked [{ v:=crashI n,recovered:=false }]∧w=w':=by
  go_enter Tryz.func138,Tryz.ntmps138
  go_wp2
  exact ⟨rfl,rfl,rfl⟩
def FreshB (w:World) (l:List UInt8) (e:Ending) (w':World):Prop:=∃ g,e=.returned (.tuple #[.slice (some ⟨g,0,none⟩) l.length l.length,.int .i64 0])∧w.heap.size≤g∧w'.heap[g]?=some (.cells (u8s l).toArray 5)∧Below w.heap.size w w'
section
variable {w:World} {B D M:Nat} {d:Dk} {F:List Ent}
set_option maxHeartbeats 1000000 in
set_option maxRecDepth 100000 in
theorem dkRead_none (h:DkAt w B D M d F) (nm:ByteArray) (hn:∀ e ∈ F,e.nm≠nm):Calls Tryz.prog 26 #[pD D,.string nm] w fun e w'=>e=.returned (.tuple #[.slice none 0 0,.int .i64 6])∧w=w':=by
  have c0':w.cell? ⟨D,0,none⟩=some (.map (some M)):=h.cell 0
  have hz:(zeroValue 119).run Tryz.prog w=.ok (.pointer none) w:=by kernel_rfl
  have HNO:=hid (aget_none hn)
  have H:=hid h
  have tok1:Hid True:=hid trivial
  clear h hn
  go_enter Tryz.func26,Tryz.ntmps26
  go_wp2_with (first | (at_lookup;have _t:=tok1;refine wpList_lookupL rfl kS (.tmp 13) (.tmp 14) 116 119 false rfl Tryz.underlying116 M (mapL F) rfl H.out.map nm rfl (.pointer none) hz ?_;rw [HNO.out];simp only [Option.getD_none,Bool.false_eq_true,if_false];clear tok1 _t))
  go_ret2
  exact ⟨rfl,rfl⟩
set_option maxHeartbeats 1000000 in
set_option maxRecDepth 100000 in
theorem dkRead_some (h:DkAt w B D M d F) (hlen:FileLens F) (nm:ByteArray) (f:Fl) (hf:fget (fsOf F) nm=some f):Calls Tryz.prog 26 #[pD D,.string nm] w (FreshB w f.bs):=by
  rcases fget_split F nm with ⟨h0,_⟩|⟨P,e,Q,rfl,rfl,h1,hfi⟩
  · rw [h0] at hf;cases hf
  rw [h1] at hf
  injection hf with hf
  subst hf
  obtain ⟨nm,g,v,f⟩:=e
  simp only at *
  have c0':w.cell? ⟨D,0,none⟩=some (.map (some M)):=h.cell 0
  have hz:(zeroValue 119).run Tryz.prog w=.ok (.pointer none) w:=by kernel_rfl
  have HYES:Hid (aget (mapL (P++⟨nm,g,v,f⟩ :: Q)) nm=some (pf g)):=hid (aget_at (e:=⟨nm,g,v,f⟩) hfi)
  have H:=hid h
  have HFA:=hid (h.files ⟨nm,g,v,f⟩ (by simp))
  have hl:f.bs.length≤1073741824:=hlen ⟨nm,g,v,f⟩ (by simp)
  obtain ⟨A,cp,hv,hfb,_⟩:=Own.bs (show Own 5 w B v f.bs from HFA.out.own)
  subst hv
  have HB:=hid hfb
  have hfm:=hfb.nmax
  have y0:w.cell? ⟨g,0,none⟩=some (.slice A f.bs.length cp):=HFA.out.cell 0
  obtain ⟨Z,HZ,hzl,hmk⟩:=mk_zeros ((f.bs.length:Nat):Int) f.bs.length rfl (by omega)
  have HZL:=hid hzl
  have y0':∀ o,(w.alloc o).cell? ⟨g,0,none⟩=some (.slice A f.bs.length cp):=fun o=>(((Below.refl w.heap.size w).alloc (Nat.le_refl _) o).cell (p:=⟨g,0,none⟩) HFA.out.lt).trans y0
  have tok1:Hid True:=hid trivial
  have tok2:Hid True:=hid trivial
  clear h h1 hfi hfb hzl hlen
  go_enter Tryz.func26,Tryz.ntmps26
  go_wp2_with (first | (at_lookup;have _t:=tok1;refine wpList_lookupL rfl kS (.tmp 13) (.tmp 14) 116 119 false rfl Tryz.underlying116 M (mapL (P++⟨nm,g,.slice A f.bs.length cp,f⟩ :: Q)) rfl H.out.map nm rfl (.pointer none) hz ?_;rw [HYES.out];simp only [Option.getD_some,Bool.false_eq_true,if_false];clear tok1 _t) | (have _t:=tok2;with_reducible show wpList _ _ _ _ _ _;refine wpList_cpyTo rfl (.tmp 24) (.tmp 28) 40 40 rfl 5 Tryz.underlying40 byteInfo w.heap.size 0 _ _ _ rfl Z 5 (heap_alloc_new w _) A f.bs.length f.bs.length cp f.bs rfl (HB.out.alloc _) (fun _=>rfl) (by omega) (by rw [HZL.out];omega) ?_;intro w1 hw1 hb1;have HB1:=hid hb1;clear hb1 tok2 _t))
  go_ret2
  have hr:=hw1.out
  rw [List.take_zero,List.nil_append,List.drop_of_length_le (by rw [HZL.out];omega),List.append_nil] at hr
  exact ⟨w.heap.size,rfl,Nat.le_refl _,hr,((Below.refl _ w).alloc (Nat.le_refl _) _).trans (HB1.out.mono (Nat.le_refl _))⟩
set_option maxRecDepth 100000 in
theorem dkOps (h:DkAt w B D M d F):Calls Tryz.prog 28 #[pD D] w fun e w'=>e=.returned (.int .i64 d.ops)∧w=w':=by
  have c0':w.cell? ⟨D,3,none⟩=some (.int .i64 d.ops):=h.cell 3
  clear h
  go_enter Tryz.func28,Tryz.ntmps28
  go_wp2
  go_ret
  exact ⟨rfl,rfl⟩
set_option maxHeartbeats 1000000 in
set_option maxRecDepth 100000 in
theorem dkSetRoom (h:DkAt w B D M d F) (n:Int) (hn:0≤n∧n≤1073741824):Calls Tryz.prog 23 #[pD D,.int .i64 n] w fun e w'=>e=.returned (.int .i64 0)∧DkAt w' B D M { d with room:=n } F∧Ch (At1 D) w w':=by
  have c0':w.cell? ⟨D,1,none⟩=some (.int .i64 d.room):=h.cell 1
  have f0:=h.frozen 1
  have H:=hid h
  have HR:Hid ((decide (0≤n) && decide (n≤1073741824))=true):=hid (by simp;exact hn)
  clear h hn
  go_enter Tryz.func23,Tryz.ntmps23
  go_wp2_with (fail)
  refine (dkRoomOk n w).mono ?_
  rintro e w1 ⟨rfl,rfl⟩
  rw [HR.out]
  go_wp2_with (fail)
  go_ret
  exact ⟨rfl,H.out.nums ((Ch.refl _ w).set1 1 _) (heap_set_row H.out.row _),(Ch.refl _ w).set1 1 _⟩
set_option maxHeartbeats 1000000 in
set_option maxRecDepth 100000 in
theorem dkFail (h:DkAt w B D M d F) (n:Int) (hn:1≤n):Calls Tryz.prog 24 #[pD D,.int .i64 n] w fun e w'=>e=.returned (.int .i64 0)∧DkAt w' B D M { d with failIn:=n } F∧Ch (At1 D) w w':=by
  have c0':w.cell? ⟨D,4,none⟩=some (.int .i64 d.failIn):=h.cell 4
  have f0:=h.frozen 4
  have H:=hid h
  have d1:decide (n<1)=false:=by simp;omega
  clear h hn
  go_enter Tryz.func24,Tryz.ntmps24
  go_wp2_with (fail)
  go_ret
  exact ⟨rfl,H.out.nums ((Ch.refl _ w).set1 4 _) (heap_set_row H.out.row _),(Ch.refl _ w).set1 4 _⟩
set_option maxHeartbeats 1000000 in
set_option maxRecDepth 100000 in
theorem dkArm (h:DkAt w B D M d F) (n k:Int) (hn:1≤n):Calls Tryz.prog 25 #[pD D,.int .i64 n,.int .i64 k] w fun e w'=>e=.returned (.int .i64 0)∧DkAt w' B D M { d with armedIn:=n,armKeep:=k } F∧Ch (At1 D) w w':=by
  have c0':w.cell? ⟨D,5,none⟩=some (.int .i64 d.armedIn):=h.cell 5
  have c6:w.cell? ⟨D,6,none⟩=some (.int .i64 d.armKeep):=h.cell 6
  have f0:=h.frozen 5
  have f6:=h.frozen 6
  have H:=hid h
  have d1:decide (n<1)=false:=by simp;omega
  clear h hn
  go_enter Tryz.func25,Tryz.ntmps25
  go_wp2_with (fail)
  go_ret
  exact ⟨rfl,H.out.nums (((Ch.refl _ w).set1 5 _).set1 6 _) (heap_set_row (heap_set_row H.out.row _) _),((Ch.refl _ w).set1 5 _).set1 6 _⟩
def Dk.syncs (d:Dk):Dk:={ d with failIn:=if d.failIn=0 then 0 else d.failIn-1 }
set_option maxHeartbeats 1000000 in
set_option maxRecDepth 100000 in
theorem dkSyncFails (h:DkAt w B D M d F) (ok:d.Ok):Calls Tryz.prog 98 #[pD D] w fun e w'=>e=.returned (.bool (d.failIn == 1))∧DkAt w' B D M d.syncs F∧Ch (At1 D) w w':=by
  have c4:w.cell? ⟨D,4,none⟩=some (.int .i64 d.failIn):=h.cell 4
  have f4:=h.frozen 4
  have o2:=ok.failIn
  have H:=hid h
  clear h ok
  by_cases ha:d.failIn=0
  · have d1:(d.failIn == 0)=true:=by simpa using ha
    have HB:Hid (d.syncs=d∧(d.failIn == 1)=false):=hid ⟨by unfold Dk.syncs;rw [if_pos ha];cases d;simp_all,by rw [ha];rfl⟩
    clear ha
    go_enter Tryz.func98,Tryz.ntmps98
    go_wp2_with (fail)
    go_ret
    rw [HB.out.1,HB.out.2]
    exact ⟨rfl,H.out,Ch.refl _ w⟩
  · have d1:(d.failIn == 0)=false:=by simpa using ha
    have e2:wrap64 (d.failIn-1)=d.failIn-1:=IntWalk.wrap64_in _ (by omega)
    have HB:Hid (d.syncs={ d with failIn:=d.failIn-1 }∧(d.failIn == 1)=(d.failIn-1 == 0)):=hid ⟨by unfold Dk.syncs;rw [if_neg ha],by rw [Bool.eq_iff_iff,beq_iff_eq,beq_iff_eq];omega⟩
    clear ha
    go_enter Tryz.func98,Tryz.ntmps98
    go_wp2_with (fail)
    go_ret
    rw [HB.out.1,HB.out.2]
    exact ⟨rfl,H.out.nums ((Ch.refl _ w).set1 4 _) (heap_set_row H.out.row _),(Ch.refl _ w).set1 4 _⟩
def FnOk (k:FuncId):Prop:=∀ (args:Array Value) (w:World),(callFunc k args).run Tryz.prog w=.ok (.enter k args) w
abbrev fnV (k:FuncId) (caps:Array Value):Value:=.func (.func k) #[] caps
def dOdd (d:Dk):Bool:=d.armKeep.tmod 2 != 0
set_option maxHeartbeats 1000000 in
set_option maxRecDepth 100000 in
theorem dkChange_go (h:DkAt w B D M d F) (ok:d.Ok) (ha:d.armedIn≠1) (k:FuncId) (caps:Array Value) (hk:FnOk k) (R:World→Prop)
    (hdo:∀ w1,DkAt w1 B D M d.begin F→Ch (At1 D) w w1→Calls Tryz.prog k caps w1 fun e w2=>e=.returned (.tuple #[])∧R w2) :
    Calls Tryz.prog 99 #[pD D,fnV k caps] w fun e w'=>e=.returned (.tuple #[])∧R w':=by
  have HA:Hid ((d.armedIn == 1)=false):=hid (by simpa using ha)
  have H:=hid h
  have OK:=hid ok
  have HDO:=hid hdo
  have hkk:∀ (args:Array Value) (w:World),(callFunc k args).run Tryz.prog w=.ok (.enter k args) w:=hk
  clear h ok ha hdo hk
  go_enter Tryz.func99,Tryz.ntmps99
  go_wp2_with (fail)
  refine (dkBegin H.out OK.out).mono ?_
  rintro e w2 ⟨rfl,h2,hc2⟩
  rw [HA.out]
  have HD2:=hid (HDO.out w2 h2 hc2)
  clear h2 hc2
  go_wp2_with (fail)
  refine HD2.out.mono ?_
  rintro e w3 ⟨rfl,hr⟩
  have HR:=hid hr
  clear hr
  go_wp2_with (fail)
  go_end0
  exact ⟨rfl,HR.out⟩
set_option maxHeartbeats 1000000 in
set_option maxRecDepth 100000 in
theorem dkChange_odd (h:DkAt w B D M d F) (ok:d.Ok) (ha:d.armedIn=1) (ho:dOdd d=true) (k:FuncId) (caps:Array Value) (hk:FnOk k) (R:World→Prop)
    (hdo:∀ w1,DkAt w1 B D M d.begin F→Ch (At1 D) w w1→Calls Tryz.prog k caps w1 fun e w2=>e=.returned (.tuple #[])∧R w2) (hR:∀ w2,R w2→w2.cell? ⟨D,3,none⟩=some (.int .i64 (d.ops+1))) :
    Calls Tryz.prog 99 #[pD D,fnV k caps] w fun e w'=>e=.panicked [{ v:=crashI (d.ops+1),recovered:=false }]∧R w':=by
  have HA:Hid ((d.armedIn == 1)=true):=hid (by simpa using ha)
  have H:=hid h
  have OK:=hid ok
  have HDO:=hid hdo
  have HRC:=hid hR
  have hodd:(d.armKeep.tmod 2 != 0)=true:=ho
  have hkk:∀ (args:Array Value) (w:World),(callFunc k args).run Tryz.prog w=.ok (.enter k args) w:=hk
  clear h ok ha hdo hk hR ho
  go_enter Tryz.func99,Tryz.ntmps99
  go_wp2_with (fail)
  refine (dkBegin H.out OK.out).mono ?_
  rintro e w2 ⟨rfl,h2,hc2⟩
  rw [HA.out]
  have HD2:=hid (HDO.out w2 h2 hc2)
  have c6:w2.cell? ⟨D,6,none⟩=some (.int .i64 d.armKeep):=h2.cell 6
  clear h2 hc2
  go_wp2_with (fail)
  refine HD2.out.mono ?_
  rintro e w3 ⟨rfl,hr⟩
  have HR:=hid hr
  have c3:=HRC.out w3 hr
  clear hr c6
  go_wp2_with (fail)
  refine (dkLoseC c3).mono ?_
  rintro e w4 ⟨rfl,rfl⟩
  go_wp2_with (fail)
  exact ⟨rfl,rfl,HR.out⟩
set_option maxHeartbeats 1000000 in
set_option maxRecDepth 100000 in
theorem dkChange_even (h:DkAt w B D M d F) (ok:d.Ok) (ha:d.armedIn=1) (ho:dOdd d=false) (k:FuncId) (caps:Array Value) :
    Calls Tryz.prog 99 #[pD D,fnV k caps] w fun e w'=>e=.panicked [{ v:=crashI (d.ops+1),recovered:=false }]∧DkAt w' B D M d.begin F∧Ch (At1 D) w w':=by
  have HA:Hid ((d.armedIn == 1)=true):=hid (by simpa using ha)
  have H:=hid h
  have OK:=hid ok
  have hodd:(d.armKeep.tmod 2 != 0)=false:=ho
  clear h ok ha ho
  go_enter Tryz.func99,Tryz.ntmps99
  go_wp2_with (fail)
  refine (dkBegin H.out OK.out).mono ?_
  rintro e w2 ⟨rfl,h2,hc2⟩
  rw [HA.out]
  have c6:w2.cell? ⟨D,6,none⟩=some (.int .i64 d.armKeep):=h2.cell 6
  have H2:=hid h2
  have HC2:=hid hc2
  have c3:w2.cell? ⟨D,3,none⟩=some (.int .i64 (d.ops+1)):=h2.cell 3
  clear h2 hc2
  go_wp2_with (fail)
  refine (dkLoseC c3).mono ?_
  rintro e w4 ⟨rfl,rfl⟩
  go_wp2_with (fail)
  exact ⟨rfl,rfl,H2.out,HC2.out⟩
end
end
section
open Go.RowKit Go.MapKept
section
variable {w:World} {B D M:Nat} {d:Dk} {F:List Ent}
def syncErr (failed:Bool):Int:=if failed then 5 else 0
def syncFl (failed:Bool) (f:Fl):Fl:=if failed then f else ⟨f.bs,f.bs.length⟩
theorem DkAt.safe {P Q:List Ent} {nm:ByteArray} {g:Nat} {v:Value} {f:Fl} (h:DkAt w B D M d (P++⟨nm,g,v,f⟩ :: Q)) (n:Nat) :
    DkAt (w.setCell ⟨g,1,none⟩ (.int .i64 (n:Int))) B D M d (P++⟨nm,g,v,⟨f.bs,n⟩⟩ :: Q)∧DkCh D M (P++⟨nm,g,v,f⟩ :: Q) (P++⟨nm,g,v,⟨f.bs,n⟩⟩ :: Q) w (w.setCell ⟨g,1,none⟩ (.int .i64 (n:Int))):=by
  have he:=h.files ⟨nm,g,v,f⟩ (by simp)
  exact h.file ((Ch.refl _ w).set (a:=⟨g,1,none⟩) (.inl rfl) _) v ⟨f.bs,n⟩ (heap_set_row he.row _) (he.own.ch ((Ch.refl (fun k=>k=g) w).set (a:=⟨g,1,none⟩) rfl _) (fun k hk hs=>(own_ne he.own he.row (by decide)) (by rw [hk,hs]))) (fun k hk=>.inl hk)
theorem Dk.Ok.syncs {d:Dk} (ok:d.Ok):d.syncs.Ok:=⟨ok.room,ok.used,ok.ops,by
  have:=ok.failIn
  unfold Dk.syncs
  simp only
  by_cases h:d.failIn=0
  · rw [if_pos h];omega
  · rw [if_neg h];omega,ok.armedIn,ok.armKeep⟩
theorem okSync1:FnOk 100:=fun args w=>Go.MuLone.run_callFunc_enter Tryz.func100 (by kernel_rfl) rfl args w
set_option maxHeartbeats 1000000 in
set_option maxRecDepth 100000 in
theorem dkSync_none (h:DkAt w B D M d F) (nm:ByteArray) (hn:∀ e ∈ F,e.nm≠nm):Calls Tryz.prog 67 #[pD D,.string nm] w fun e w'=>e=.returned (.int .i64 6)∧Below w.heap.size w w':=by
  have c0':w.cell? ⟨D,0,none⟩=some (.map (some M)):=h.cell 0
  have hz:(zeroValue 119).run Tryz.prog w=.ok (.pointer none) w:=by kernel_rfl
  have HNO:=hid (aget_none hn)
  have H:=hid h
  have tok1:Hid True:=hid trivial
  clear h hn
  go_enter Tryz.func67,Tryz.ntmps67
  go_wp2_with (first | (at_lookup;have _t:=tok1;refine wpList_lookupL rfl kS (.tmp 12) (.tmp 13) 116 119 false rfl Tryz.underlying116 M (mapL F) rfl H.out.map nm rfl (.pointer none) hz ?_;rw [HNO.out];simp only [Option.getD_none,Bool.false_eq_true,if_false];clear tok1 _t))
  go_ret
  exact ⟨rfl,(Below.refl _ _).alloc (Nat.le_refl _) _⟩
theorem dkSync1 {P Q:List Ent} {nm:ByteArray} {g:Nat} {v:Value} {f:Fl} (h:DkAt w B D M d (P++⟨nm,g,v,f⟩ :: Q)) (X Y:Nat) (b:Bool) (hx:w.cell? ⟨X,0,none⟩=some (.bool b)) (hy:w.cell? ⟨Y,0,none⟩=some (pf g)) :
    Calls Tryz.prog 100 #[.pointer (some ⟨X,0,none⟩),.pointer (some ⟨Y,0,none⟩)] w fun e w'=>e=.returned (.tuple #[])∧DkAt w' B D M d (P++⟨nm,g,v,syncFl b f⟩ :: Q)∧DkCh D M (P++⟨nm,g,v,f⟩ :: Q) (P++⟨nm,g,v,syncFl b f⟩ :: Q) w w':=by
  have HFA:=hid (h.files ⟨nm,g,v,f⟩ (by simp))
  have H:=hid h
  obtain ⟨A0,c0,hv⟩:=own_form (show w.ownsRow B 5 1 v f.bs.length (u8s f.bs) from HFA.out.own)
  subst hv
  have y0:w.cell? ⟨g,0,none⟩=some (.slice A0 f.bs.length c0):=HFA.out.cell 0
  have y1:w.cell? ⟨g,1,none⟩=some (.int .i64 f.safe):=HFA.out.cell 1
  have f1:w.frozen? ⟨g,1,none⟩=false:=HFA.out.frozen 1
  clear h
  cases b
  · go_enter Tryz.func100,Tryz.ntmps100
    go_wp2_with (fail)
    go_region
    all_goals
      go_end0
      have hs:=H.out.safe f.bs.length
      exact ⟨rfl,hs.1.below (Below.refl _ _).drew,hs.2.trans (DkCh.of_below (Below.refl _ _).drew)⟩
  · go_enter Tryz.func100,Tryz.ntmps100
    go_wp2_with (fail)
    go_end0
    exact ⟨rfl,H.out,DkCh.refl _ _ _ _⟩
set_option maxHeartbeats 1000000 in
set_option maxRecDepth 100000 in
theorem dkSync_go {P Q:List Ent} {nm:ByteArray} {g:Nat} {v:Value} {f:Fl} (h:DkAt w B D M d (P++⟨nm,g,v,f⟩ :: Q)) (ok:d.Ok) (ha:d.armedIn≠1) (hfi:∀ x ∈ P,x.nm≠nm):Calls Tryz.prog 67 #[pD D,.string nm] w fun e w'=>e=.returned (.int .i64 (syncErr (d.failIn == 1)))∧DkAt w' B D M d.syncs.begin (P++⟨nm,g,v,syncFl (d.failIn == 1) f⟩ :: Q)∧DkCh D M (P++⟨nm,g,v,f⟩ :: Q) (P++⟨nm,g,v,syncFl (d.failIn == 1) f⟩ :: Q) w w':=by
  have c0':w.cell? ⟨D,0,none⟩=some (.map (some M)):=h.cell 0
  have hz:(zeroValue 119).run Tryz.prog w=.ok (.pointer none) w:=by kernel_rfl
  have hmf:∀ (fn:Fn) (first cap:Array Value) (w:World),(Instr.makeFunc fn first cap).run Tryz.prog w=.ok (.func fn first cap) w:=fun _ _ _ _=>rfl
  have HYES:Hid (aget (mapL (P++⟨nm,g,v,f⟩ :: Q)) nm=some (pf g)):=hid (aget_at (e:=⟨nm,g,v,f⟩) hfi)
  have H:=hid h
  have OK:=hid ok
  have HA:=hid ha
  have tok1:Hid True:=hid trivial
  have HB1:Hid (Below w.heap.size w (w.alloc (.cells #[pf g] 119))):=hid ((Below.refl _ _).alloc (Nat.le_refl _) _)
  have H1:=hid (h.below HB1.out)
  have HY1:Hid ((w.alloc (.cells #[pf g] 119)).heap[w.heap.size]?=some (.cells #[pf g] 119)):=hid (heap_alloc_new w _)
  have HCH1:Hid (DkCh D M (P++⟨nm,g,v,f⟩ :: Q) (P++⟨nm,g,v,f⟩ :: Q) w (w.alloc (.cells #[pf g] 119))):=hid (DkCh.of_below HB1.out)
  have HYD:Hid (D<w.heap.size):=hid h.lt
  clear h hfi ok ha
  go_enter Tryz.func67,Tryz.ntmps67
  go_wp2_with (first | (at_lookup;have _t:=tok1;refine wpList_lookupL rfl kS (.tmp 12) (.tmp 13) 116 119 false rfl Tryz.underlying116 M (mapL (P++⟨nm,g,v,f⟩ :: Q)) rfl H.out.map nm rfl (.pointer none) hz ?_;rw [HYES.out];simp only [Option.getD_some,Bool.false_eq_true,if_false];clear tok1 _t))
  refine (dkSyncFails H1.out OK.out).mono ?_
  rintro e w2 ⟨rfl,h2,hc2⟩
  have HY2:=hid (hc2.row HY1.out (by have:=HYD.out;simp only [At1];omega))
  have HCH2:=hid (HCH1.out.trans (DkCh.of1 hc2))
  have hb3:Below w2.heap.size w2 (w2.alloc (.cells #[.bool (d.failIn == 1)] 4)):=(Below.refl _ _).alloc (Nat.le_refl _) _
  have H3:=hid (h2.below hb3)
  have HY3:Hid ((w2.alloc (.cells #[.bool (d.failIn == 1)] 4)).heap[w.heap.size]?=some (.cells #[pf g] 119)):=hid ((hb3.block _ (Array.getElem?_eq_some_iff.1 HY2.out).1).trans HY2.out)
  have HX3:Hid ((w2.alloc (.cells #[.bool (d.failIn == 1)] 4)).heap[w2.heap.size]?=some (.cells #[.bool (d.failIn == 1)] 4)):=hid (heap_alloc_new w2 _)
  have HCH3:=hid (HCH2.out.trans (DkCh.of_below (F:=P++⟨nm,g,v,f⟩ :: Q) (D:=D) (M:=M) hb3))
  have HZ:Hid (D<w2.heap.size∧w.heap.size<w2.heap.size):=hid ⟨h2.lt,(Array.getElem?_eq_some_iff.1 HY2.out).1⟩
  have OK3:Hid d.syncs.Ok:=hid OK.out.syncs
  have HCL:Hid (∀ k,Foot (P++⟨nm,g,v,f⟩ :: Q) k→k<w2.heap.size):=hid (fun k hk=>(h2.foot_lt (.inr (.inr hk))).2)
  clear h2 hc2 hb3
  go_wp2_with (fail)
  generalize (w2.alloc (.cells #[.bool (d.failIn == 1)] 4))=w3 at *
  have hy5:∀ {w4:World} (w5:World),Ch (At1 D) w3 w4→DkCh D M (P++⟨nm,g,v,f⟩ :: Q) (P++⟨nm,g,v,syncFl (d.failIn == 1) f⟩ :: Q) w4 w5→w5.heap[w2.heap.size]?=some (.cells #[.bool (d.failIn == 1)] 4):=fun w5 hc4 hc5=>hc5.ch.row (hc4.row HX3.out (by have:=HZ.out;simp only [At1];omega)) (fun hs=>by
    have hlt:=H3.out
    rcases hs with hs|hs|hs
    · have:=HZ.out;omega
    · exact (H3.out.map.ne HX3.out) hs.symm
    · have hcl:=HCL.out _ hs
      omega)
  refine (dkChange_go H3.out OK3.out (show d.syncs.armedIn≠1 from HA.out) _ _ okSync1 (fun w'=>DkAt w' B D M d.syncs.begin (P++⟨nm,g,v,syncFl (d.failIn == 1) f⟩ :: Q)∧w'.heap[w2.heap.size]?=some (.cells #[.bool (d.failIn == 1)] 4)∧DkCh D M (P++⟨nm,g,v,f⟩ :: Q) (P++⟨nm,g,v,syncFl (d.failIn == 1) f⟩ :: Q) w w') (fun w4 h4 hc4=>by
    have hx:w4.cell? ⟨w2.heap.size,0,none⟩=some (.bool (d.failIn == 1)):=cell_of_row _ _ 0 _ _ _ (hc4.row HX3.out (by have:=HZ.out;simp only [At1];omega))
    have hy:w4.cell? ⟨w.heap.size,0,none⟩=some (pf g):=cell_of_row _ _ 0 _ _ _ (hc4.row HY3.out (by have:=HYD.out;simp only [At1];omega))
    refine (dkSync1 h4 _ _ _ hx hy).mono ?_
    rintro e w5 ⟨rfl,h5,hc5⟩
    exact ⟨rfl,h5,(hy5 w5 hc4 hc5),HCH3.out.trans ((DkCh.of1 hc4).trans hc5)⟩)).mono ?_
  rintro e w6 ⟨rfl,h6,hb6,hc6⟩
  have c6:w6.cell? ⟨w2.heap.size,0,none⟩=some (.bool (d.failIn == 1)):=cell_of_row _ _ 0 _ _ _ hb6
  have HR:=hid (And.intro h6 hc6)
  clear h6 hb6 hc6 hy5
  cases hf1:(d.failIn == 1)
  · rw [hf1] at c6
    have HF1:=hid hf1
    clear hf1
    go_wp2_with (fail)
    go_ret
    exact ⟨by rw [HF1.out];rfl,HR.out⟩
  · rw [hf1] at c6
    have HF1:=hid hf1
    clear hf1
    go_wp2_with (fail)
    go_ret
    exact ⟨by rw [HF1.out];rfl,HR.out⟩
set_option maxHeartbeats 1000000 in
set_option maxRecDepth 100000 in
theorem dkSync_odd {P Q:List Ent} {nm:ByteArray} {g:Nat} {v:Value} {f:Fl} (h:DkAt w B D M d (P++⟨nm,g,v,f⟩ :: Q)) (ok:d.Ok) (ha:d.armedIn=1) (ho:dOdd d=true) (hfi:∀ x ∈ P,x.nm≠nm):Calls Tryz.prog 67 #[pD D,.string nm] w fun e w'=>e=.panicked [{ v:=crashI (d.ops+1),recovered:=false }]∧DkAt w' B D M d.syncs.begin (P++⟨nm,g,v,syncFl (d.failIn == 1) f⟩ :: Q)∧DkCh D M (P++⟨nm,g,v,f⟩ :: Q) (P++⟨nm,g,v,syncFl (d.failIn == 1) f⟩ :: Q) w w':=by
  have c0':w.cell? ⟨D,0,none⟩=some (.map (some M)):=h.cell 0
  have hz:(zeroValue 119).run Tryz.prog w=.ok (.pointer none) w:=by kernel_rfl
  have hmf:∀ (fn:Fn) (first cap:Array Value) (w:World),(Instr.makeFunc fn first cap).run Tryz.prog w=.ok (.func fn first cap) w:=fun _ _ _ _=>rfl
  have HYES:Hid (aget (mapL (P++⟨nm,g,v,f⟩ :: Q)) nm=some (pf g)):=hid (aget_at (e:=⟨nm,g,v,f⟩) hfi)
  have H:=hid h
  have OK:=hid ok
  have HA:=hid ha
  have HO:=hid ho
  have tok1:Hid True:=hid trivial
  have HB1:Hid (Below w.heap.size w (w.alloc (.cells #[pf g] 119))):=hid ((Below.refl _ _).alloc (Nat.le_refl _) _)
  have H1:=hid (h.below HB1.out)
  have HY1:Hid ((w.alloc (.cells #[pf g] 119)).heap[w.heap.size]?=some (.cells #[pf g] 119)):=hid (heap_alloc_new w _)
  have HCH1:Hid (DkCh D M (P++⟨nm,g,v,f⟩ :: Q) (P++⟨nm,g,v,f⟩ :: Q) w (w.alloc (.cells #[pf g] 119))):=hid (DkCh.of_below HB1.out)
  have HYD:Hid (D<w.heap.size):=hid h.lt
  clear h hfi ok ha ho
  go_enter Tryz.func67,Tryz.ntmps67
  go_wp2_with (first | (at_lookup;have _t:=tok1;refine wpList_lookupL rfl kS (.tmp 12) (.tmp 13) 116 119 false rfl Tryz.underlying116 M (mapL (P++⟨nm,g,v,f⟩ :: Q)) rfl H.out.map nm rfl (.pointer none) hz ?_;rw [HYES.out];simp only [Option.getD_some,Bool.false_eq_true,if_false];clear tok1 _t))
  refine (dkSyncFails H1.out OK.out).mono ?_
  rintro e w2 ⟨rfl,h2,hc2⟩
  have HY2:=hid (hc2.row HY1.out (by have:=HYD.out;simp only [At1];omega))
  have HCH2:=hid (HCH1.out.trans (DkCh.of1 hc2))
  have hb3:Below w2.heap.size w2 (w2.alloc (.cells #[.bool (d.failIn == 1)] 4)):=(Below.refl _ _).alloc (Nat.le_refl _) _
  have H3:=hid (h2.below hb3)
  have HY3:Hid ((w2.alloc (.cells #[.bool (d.failIn == 1)] 4)).heap[w.heap.size]?=some (.cells #[pf g] 119)):=hid ((hb3.block _ (Array.getElem?_eq_some_iff.1 HY2.out).1).trans HY2.out)
  have HX3:Hid ((w2.alloc (.cells #[.bool (d.failIn == 1)] 4)).heap[w2.heap.size]?=some (.cells #[.bool (d.failIn == 1)] 4)):=hid (heap_alloc_new w2 _)
  have HCH3:=hid (HCH2.out.trans (DkCh.of_below (F:=P++⟨nm,g,v,f⟩ :: Q) (D:=D) (M:=M) hb3))
  have HZ:Hid (D<w2.heap.size∧w.heap.size<w2.heap.size):=hid ⟨h2.lt,(Array.getElem?_eq_some_iff.1 HY2.out).1⟩
  have OK3:Hid d.syncs.Ok:=hid OK.out.syncs
  have HCL:Hid (∀ k,Foot (P++⟨nm,g,v,f⟩ :: Q) k→k<w2.heap.size):=hid (fun k hk=>(h2.foot_lt (.inr (.inr hk))).2)
  clear h2 hc2 hb3
  go_wp2_with (fail)
  generalize (w2.alloc (.cells #[.bool (d.failIn == 1)] 4))=w3 at *
  have hy5:∀ {w4:World} (w5:World),Ch (At1 D) w3 w4→DkCh D M (P++⟨nm,g,v,f⟩ :: Q) (P++⟨nm,g,v,syncFl (d.failIn == 1) f⟩ :: Q) w4 w5→w5.heap[w2.heap.size]?=some (.cells #[.bool (d.failIn == 1)] 4):=fun w5 hc4 hc5=>hc5.ch.row (hc4.row HX3.out (by have:=HZ.out;simp only [At1];omega)) (fun hs=>by
    have hlt:=H3.out
    rcases hs with hs|hs|hs
    · have:=HZ.out;omega
    · exact (H3.out.map.ne HX3.out) hs.symm
    · have hcl:=HCL.out _ hs
      omega)
  refine (dkChange_odd H3.out OK3.out (show d.syncs.armedIn=1 from HA.out) (show dOdd d.syncs=true from HO.out) _ _ okSync1 (fun w'=>DkAt w' B D M d.syncs.begin (P++⟨nm,g,v,syncFl (d.failIn == 1) f⟩ :: Q)∧w'.heap[w2.heap.size]?=some (.cells #[.bool (d.failIn == 1)] 4)∧DkCh D M (P++⟨nm,g,v,f⟩ :: Q) (P++⟨nm,g,v,syncFl (d.failIn == 1) f⟩ :: Q) w w') (fun w4 h4 hc4=>by
    have hx:w4.cell? ⟨w2.heap.size,0,none⟩=some (.bool (d.failIn == 1)):=cell_of_row _ _ 0 _ _ _ (hc4.row HX3.out (by have:=HZ.out;simp only [At1];omega))
    have hy:w4.cell? ⟨w.heap.size,0,none⟩=some (pf g):=cell_of_row _ _ 0 _ _ _ (hc4.row HY3.out (by have:=HYD.out;simp only [At1];omega))
    refine (dkSync1 h4 _ _ _ hx hy).mono ?_
    rintro e w5 ⟨rfl,h5,hc5⟩
    exact ⟨rfl,h5,(hy5 w5 hc4 hc5),HCH3.out.trans ((DkCh.of1 hc4).trans hc5)⟩) (fun w6 h6=>h6.1.cell 3)).mono ?_
  rintro e w6 ⟨rfl,h6,_,hc6⟩
  have HR:=hid (And.intro h6 hc6)
  clear h6 hc6 hy5
  go_wp2_with (fail)
  exact ⟨rfl,rfl,HR.out⟩
set_option maxHeartbeats 1000000 in
set_option maxRecDepth 100000 in
theorem dkSync_even {P Q:List Ent} {nm:ByteArray} {g:Nat} {v:Value} {f:Fl} (h:DkAt w B D M d (P++⟨nm,g,v,f⟩ :: Q)) (ok:d.Ok) (ha:d.armedIn=1) (ho:dOdd d=false) (hfi:∀ x ∈ P,x.nm≠nm):Calls Tryz.prog 67 #[pD D,.string nm] w fun e w'=>e=.panicked [{ v:=crashI (d.ops+1),recovered:=false }]∧DkAt w' B D M d.syncs.begin (P++⟨nm,g,v,f⟩ :: Q)∧DkCh D M (P++⟨nm,g,v,f⟩ :: Q) (P++⟨nm,g,v,f⟩ :: Q) w w':=by
  have c0':w.cell? ⟨D,0,none⟩=some (.map (some M)):=h.cell 0
  have hz:(zeroValue 119).run Tryz.prog w=.ok (.pointer none) w:=by kernel_rfl
  have hmf:∀ (fn:Fn) (first cap:Array Value) (w:World),(Instr.makeFunc fn first cap).run Tryz.prog w=.ok (.func fn first cap) w:=fun _ _ _ _=>rfl
  have HYES:Hid (aget (mapL (P++⟨nm,g,v,f⟩ :: Q)) nm=some (pf g)):=hid (aget_at (e:=⟨nm,g,v,f⟩) hfi)
  have H:=hid h
  have OK:=hid ok
  have HA:=hid ha
  have HO:=hid ho
  have tok1:Hid True:=hid trivial
  have HB1:Hid (Below w.heap.size w (w.alloc (.cells #[pf g] 119))):=hid ((Below.refl _ _).alloc (Nat.le_refl _) _)
  have H1:=hid (h.below HB1.out)
  have HY1:Hid ((w.alloc (.cells #[pf g] 119)).heap[w.heap.size]?=some (.cells #[pf g] 119)):=hid (heap_alloc_new w _)
  have HCH1:Hid (DkCh D M (P++⟨nm,g,v,f⟩ :: Q) (P++⟨nm,g,v,f⟩ :: Q) w (w.alloc (.cells #[pf g] 119))):=hid (DkCh.of_below HB1.out)
  have HYD:Hid (D<w.heap.size):=hid h.lt
  clear h hfi ok ha ho
  go_enter Tryz.func67,Tryz.ntmps67
  go_wp2_with (first | (at_lookup;have _t:=tok1;refine wpList_lookupL rfl kS (.tmp 12) (.tmp 13) 116 119 false rfl Tryz.underlying116 M (mapL (P++⟨nm,g,v,f⟩ :: Q)) rfl H.out.map nm rfl (.pointer none) hz ?_;rw [HYES.out];simp only [Option.getD_some,Bool.false_eq_true,if_false];clear tok1 _t))
  refine (dkSyncFails H1.out OK.out).mono ?_
  rintro e w2 ⟨rfl,h2,hc2⟩
  have HY2:=hid (hc2.row HY1.out (by have:=HYD.out;simp only [At1];omega))
  have HCH2:=hid (HCH1.out.trans (DkCh.of1 hc2))
  have hb3:Below w2.heap.size w2 (w2.alloc (.cells #[.bool (d.failIn == 1)] 4)):=(Below.refl _ _).alloc (Nat.le_refl _) _
  have H3:=hid (h2.below hb3)
  have HY3:Hid ((w2.alloc (.cells #[.bool (d.failIn == 1)] 4)).heap[w.heap.size]?=some (.cells #[pf g] 119)):=hid ((hb3.block _ (Array.getElem?_eq_some_iff.1 HY2.out).1).trans HY2.out)
  have HX3:Hid ((w2.alloc (.cells #[.bool (d.failIn == 1)] 4)).heap[w2.heap.size]?=some (.cells #[.bool (d.failIn == 1)] 4)):=hid (heap_alloc_new w2 _)
  have HCH3:=hid (HCH2.out.trans (DkCh.of_below (F:=P++⟨nm,g,v,f⟩ :: Q) (D:=D) (M:=M) hb3))
  have HZ:Hid (D<w2.heap.size∧w.heap.size<w2.heap.size):=hid ⟨h2.lt,(Array.getElem?_eq_some_iff.1 HY2.out).1⟩
  have OK3:Hid d.syncs.Ok:=hid OK.out.syncs
  have HCL:Hid (∀ k,Foot (P++⟨nm,g,v,f⟩ :: Q) k→k<w2.heap.size):=hid (fun k hk=>(h2.foot_lt (.inr (.inr hk))).2)
  clear h2 hc2 hb3
  go_wp2_with (fail)
  generalize (w2.alloc (.cells #[.bool (d.failIn == 1)] 4))=w3 at *
  refine (dkChange_even H3.out OK3.out (show d.syncs.armedIn=1 from HA.out) (show dOdd d.syncs=false from HO.out) _ _).mono ?_
  rintro e w6 ⟨rfl,h6,hc6⟩
  have HR:=hid (And.intro h6 (HCH3.out.trans (DkCh.of1 hc6)))
  clear h6 hc6
  go_wp2_with (fail)
  exact ⟨rfl,rfl,HR.out⟩
end
end
section
open Go.RowKit Go.MapKept
def total (F:List Ent):Nat:=(F.map fun e=>e.f.bs.length).sum
theorem total_mid (P Q:List Ent) (e:Ent):total (P++e :: Q)=total P+e.f.bs.length+total Q:=by simp [total];omega
structure DkOk (d:Dk) (F:List Ent):Prop where
  ok:d.Ok
  tot:d.used=(total F:Int)
  safe:∀ e ∈ F,e.f.safe≤e.f.bs.length
theorem DkOk.lens {d:Dk} {F:List Ent} (h:DkOk d F):FileLens F:=fun e he=>by
  obtain ⟨P,Q,rfl⟩:=List.append_of_mem he
  have h1:=h.tot
  have h2:=h.ok.used
  rw [total_mid] at h1
  omega
def powN (keep:Int) (f:Fl):Nat:=f.safe+min (f.bs.length-f.safe) keep.toNat
def powFl (keep:Int) (f:Fl):Fl:=⟨f.bs.take (powN keep f),powN keep f⟩
section
variable {w:World} {B D M:Nat} {d:Dk} {F:List Ent}
theorem powN_le {keep:Int} {f:Fl} (h:f.safe≤f.bs.length):powN keep f≤f.bs.length:=by unfold powN;omega
theorem DkAt.cut {P Q:List Ent} {nm:ByteArray} {g:Nat} {A:Option Addr} {n c:Nat} {f:Fl} (h:DkAt w B D M d (P++⟨nm,g,.slice A n c,f⟩ :: Q)) (hn:n=f.bs.length) (k:Nat) (hk:k≤f.bs.length) :
    DkAt (w.setCell ⟨g,0,none⟩ (.slice A k c)) B D M d (P++⟨nm,g,.slice A k c,⟨f.bs.take k,f.safe⟩⟩ :: Q)∧DkCh D M (P++⟨nm,g,.slice A n c,f⟩ :: Q) (P++⟨nm,g,.slice A k c,⟨f.bs.take k,f.safe⟩⟩ :: Q) w (w.setCell ⟨g,0,none⟩ (.slice A k c)):=by
  subst hn
  have he:=h.files ⟨nm,g,.slice A f.bs.length c,f⟩ (by simp)
  have hob:(Value.slice A k c).ownBlock=(Value.slice A f.bs.length c).ownBlock:=by cases A <;> rfl
  exact h.file ((Ch.refl _ w).set (a:=⟨g,0,none⟩) (.inl rfl) _) (.slice A k c) ⟨f.bs.take k,f.safe⟩ (heap_set_row he.row _) ((Own.shrink he.own hk).ch ((Ch.refl (fun k=>k=g) w).set (a:=⟨g,0,none⟩) rfl _) (fun j hj hs=>(own_ne he.own he.row (by decide)) (by rw [hob] at hj;rw [hj,hs]))) (fun j hj=>.inl (by rw [← hob];exact hj))
end
end
section
open Go.RowKit Go.MapKept
section
variable {w w':World} {B D M:Nat} {d:Dk} {F:List Ent}
theorem okTruncate1:FnOk 136:=fun args w=>Go.MuLone.run_callFunc_enter Tryz.func136 (by kernel_rfl) rfl args w
end
end
section
open Go.RowKit Go.MapKept
def ChOut (ok:Value) (d:Dk) (Rgo Rno:World→Prop) (e:Ending) (w':World):Prop :=
  (d.armedIn≠1∧e=.returned ok∧Rgo w')∨(d.armedIn=1∧e=.panicked [{ v:=crashI (d.ops+1),recovered:=false }]∧((dOdd d=true∧Rgo w')∨(dOdd d=false∧Rno w')))
section
variable {w w':World} {B D M:Nat} {d:Dk} {F:List Ent}
theorem dkChange (h:DkAt w B D M d F) (ok:d.Ok) (k:FuncId) (caps:Array Value) (hk:FnOk k) (R:World→Prop)
    (hdo:∀ w1,DkAt w1 B D M d.begin F→Ch (At1 D) w w1→Calls Tryz.prog k caps w1 fun e w2=>e=.returned (.tuple #[])∧R w2) (hR:∀ w2,R w2→w2.cell? ⟨D,3,none⟩=some (.int .i64 (d.ops+1))) :
    Calls Tryz.prog 99 #[pD D,fnV k caps] w (ChOut (.tuple #[]) d R fun w'=>DkAt w' B D M d.begin F∧Ch (At1 D) w w'):=by
  by_cases ha:d.armedIn=1
  · cases ho:dOdd d
    · exact (dkChange_even h ok ha ho k caps).mono fun e w' ⟨h1,h2⟩=>.inr ⟨ha,h1,.inr ⟨ho,h2⟩⟩
    · exact (dkChange_odd h ok ha ho k caps hk R hdo hR).mono fun e w' ⟨h1,h2⟩=>.inr ⟨ha,h1,.inl ⟨ho,h2⟩⟩
  · exact (dkChange_go h ok ha k caps hk R hdo).mono fun e w' ⟨h1,h2⟩=>.inl ⟨ha,h1,h2⟩
def NoR (B D M:Nat) (d:Dk) (F:List Ent) (w:World) (w':World):Prop:=DkAt w' B D M d.begin F∧DkCh D M F F w w'
end
end
end Go.Proofs.YtodjilljcjkacaaGreatDoor
