/- Laid together: SegP. -/
import Derived.Test.YtodjilljcjkacaaGreatDoorPkIB18
import Derived.Lib.IndexLaws
import Derived.RangeFuncNested
import Derived.RangeFuncBound
import Derived.RangeFuncCalls
import Derived.RangeFuncLeaves
import Derived.Shelf.Abstract
import Derived.Shelf.RegionOpen
import Derived.OwnWalkIn
import Derived.TacticsInMore
import Derived.LoopNIn
import Derived.LoopIn
import Derived.LoopTactic
import Derived.RegionTactic
import Derived.BigRegion
import Derived.Deep.RegionHeld3
import Derived.RangeFuncBox
import Derived.Maps.AppendAt

namespace Go.Proofs.YtodjilljcjkacaaGreatDoor
open Lib (hid)
/- Layer 8: what the iterator of texts gives. -/
section
open Go.RowKit Go.Shelf
attribute [local go_sem] Oper.semAt_some
theorem cut_no {l:List UInt8} {c:UInt8} (h:Lib.indexByte l c<0):cutAt c l=[l]:=by
  have h1:=Lib.indexByte_ge l c
  have h2:Lib.indexByte l c=-1:=by omega
  refine cutAt_none c l fun hm=>?_
  obtain ⟨k,hk,e⟩:=List.mem_iff_getElem.1 hm
  exact Lib.indexByte_none h2 k (by rw [List.getElem?_eq_getElem hk,e])
theorem cut_yes {l:List UInt8} {c:UInt8} {o:Nat} (h:Lib.indexByte l c=o):o<l.length∧cutAt c l=l.take o :: cutAt c (l.drop (o+1)):=by
  obtain ⟨h1,h2⟩:=Lib.indexByte_some h
  obtain ⟨hlt,he⟩:=List.getElem?_eq_some_iff.1 h1
  refine ⟨hlt,?_⟩
  have hc:c ∉ l.take o:=by
    intro hm
    obtain ⟨k,hk,e⟩:=List.mem_iff_getElem.1 hm
    rw [List.length_take] at hk
    refine h2 k (by omega) ?_
    rw [List.getElem_take] at e
    rw [List.getElem?_eq_getElem (by omega),e]
  have:=cutAt_clean c (l.drop (o+1)) (l.take o) hc
  rw [← this]
  congr 1
  conv=>lhs;rw [← List.take_append_drop o l,List.drop_eq_getElem_cons hlt,he]
theorem ex_take (r:ByteArray) (i:Nat):txt (r.data.toList.take i)=r.extract 0 i:=by
  apply ByteArray.ext
  apply Array.toList_inj.1
  rw [ByteArray.data_extract,Array.toList_extract,List.extract_eq_take_drop]
  simp
theorem ex_drop (r:ByteArray) (i:Nat):(r.extract i r.size).data.toList=r.data.toList.drop i:=by
  rw [ByteArray.data_extract,Array.toList_extract,List.extract_eq_take_drop]
  rw [List.take_of_length_le]
  rw [List.length_drop,Array.length_toList]
  exact Nat.le_refl _
theorem u8_back (c:UInt8):((c.toNat:Nat):Int).toNat.toUInt8=c:=by simp
def KeepsB (b:Nat) (A B:World):Prop:=B.heap[b]?=A.heap[b]?
theorem KeepsB.cell {b i:Nat} {A B:World} (h:KeepsB b A B):B.cell? ⟨b,i,none⟩=A.cell? ⟨b,i,none⟩:=by
  unfold World.cell?
  rw [show B.heap[(⟨b,i,none⟩:Addr).block]?=A.heap[b]? from h]
theorem keepsB_t {b:Nat} {A B C:World} (h:KeepsB b A B) (k:KeepsB b B C):KeepsB b A C:=Eq.trans k h
theorem keepsB_b {b:Nat} {w:World} (hb:b<w.heap.size) (W:World) (l:Nat) (o o':Obj) (hl:w.heap.size≤l) (_:W.heap[l]?=some o) (_:o.isCells=false) (_:o.isWalk=false):KeepsB b W (W.putObj l o') :=
  World.putObj_heap_other (by omega)
theorem KeepsB.setCell {b:Nat} {A B:World} (h:KeepsB b A B) {p:Addr} (hp:b≠p.block) (v:Value):KeepsB b A (B.setCell p v):=(Below.heap_setCell B p v b hp).trans h
theorem KeepsB.refl (b:Nat) (A:World):KeepsB b A A:=rfl
set_option maxHeartbeats 4000000 in
set_option maxRecDepth 100000 in
theorem texts_in (n:Nat) (hn:2≤n) (l Bs Bc:Nat) (s:ByteArray) (c:UInt8) (J Jx:List (List UInt8)→World→Prop) (hs:s.size≤9223372036854775807)
    (hY:∀ pre x W1,J pre W1→pre.length<(cutAt c s.data.toList).length→YieldAt Fence.wide (n-1) Tryz.prog l #[str x] W1 fun e W'=>(e=.returned (.bool true)∧J (pre++[x]) W'∧KeepsB Bc W1 W')∨(e=.returned (.bool false)∧Jx (pre++[x]) W'))
    (W:World) (hBs:W.cell? ⟨Bs,0,none⟩=some (.string s)) (hBc:W.cell? ⟨Bc,0,none⟩=some (u8 c)) (h0:J [] W) :
    CallsIn Fence.wide n Tryz.prog 151 #[.func (.yield l) #[] #[],.pointer (some ⟨Bs,0,none⟩),.pointer (some ⟨Bc,0,none⟩)] W fun e W'=>(∃ v,e=.returned v)∧((∃ xs,xs=cutAt c s.data.toList∧J xs W')∨(∃ pre,pre <+: cutAt c s.data.toList∧Jx pre W')):=by
  have h1:1≤n:=by omega
  refine callsIn_of_wp Tryz.func151 rfl trivial ?_ rfl
  simp only [Tryz.ntmps151,List.size_toArray,List.length_cons,List.length_nil,Nat.reduceAdd,Nat.reduceSub,Array.replicate_succ,Array.replicate_zero,List.push_toArray,List.append_toArray,List.nil_append,List.cons_append]
  gi_wp2
  gi_loopw [4] (fun p wr=>∃ (pre:List (List UInt8)) (r:ByteArray),p=.string r∧r.size≤s.size∧cutAt c s.data.toList=pre++cutAt c r.data.toList∧wr.cell? ⟨Bc,0,none⟩=some (u8 c)∧J pre wr)
    (fun p _=>match p with | .string r=>r.size | _=>0)
  case atStart=>exact ⟨[],s,rfl,Nat.le_refl _,rfl,hBc,h0⟩
  case round =>
    obtain ⟨pre,r,rfl,hrs,hcut,hc,hJ⟩:=hrel
    have HJ:=hid hJ
    have HY:=hid hY
    have HS:=hid (And.intro hs hrs)
    have HCUT:=hid hcut
    clear hJ hY hs hrs hcut h0 hBs hBc
    by_cases hno:Lib.indexByte r.data.toList c<0
    · have hneg:Lib.indexByte r.data.toList c=-1:=by have:=Lib.indexByte_ge r.data.toList c;omega
      have HCN:=hid (cut_no (l:=r.data.toList) (c:=c) hno)
      obtain ⟨fn,tmps,assign,body,hy,hR⟩:=HY.out pre r.data.toList wr HJ.out (by rw [HCUT.out,HCN.out];simp)
      rw [show str r.data.toList=.string r from rfl] at hy
      have HR:=hid hR
      clear hno hR
      gi_wp2
      refine ⟨trivial,(callsIn_wide.2 (Tryz.strings_IndexByte r (c.toNat:Int) wr)).mono ?_⟩
      rintro e w1 ⟨rfl,rfl⟩
      rw [u8_back,hneg]
      gi_wp2
      refine HR.out.mono ?_
      have hlast:cutAt c s.data.toList=pre++[r.data.toList]:=by rw [HCUT.out,HCN.out]
      rintro e W3 (⟨rfl,hJ3,hk3⟩|⟨rfl,hJx3⟩)
      · gi_wp2
        refine bodyPost_ret (results_none rfl _ _ _) rfl ?_
        exact ⟨⟨_,rfl⟩,.inl ⟨_,rfl,by rw [hlast];exact hJ3⟩⟩
      · gi_wp2
        refine bodyPost_ret (results_none rfl _ _ _) rfl ?_
        exact ⟨⟨_,rfl⟩,.inr ⟨_,⟨[],by rw [hlast];simp⟩,hJx3⟩⟩
    · obtain ⟨o,ho⟩:∃ o:Nat,Lib.indexByte r.data.toList c=o:=⟨(Lib.indexByte r.data.toList c).toNat,by omega⟩
      obtain ⟨hlt,hcy⟩:=cut_yes ho
      have hro:o<r.size:=by simpa using hlt
      have HCY:=hid hcy
      have hd0:decide ((o:Int)<0)=false:=by simp
      have ew:IntKind.i64.wrap ((o:Int)+1)=((o+1:Nat):Int):=by have:=HS.out;rw [IntKind.wrap_i64];omega
      obtain ⟨fn,tmps,assign,body,hy,hR⟩:=HY.out pre (r.data.toList.take o) wr HJ.out (by rw [HCUT.out,hcy];simp)
      rw [show str (r.data.toList.take o)=.string (r.extract 0 o) by rw [← ex_take]] at hy
      have HR:=hid hR
      clear hcy hlt hno hR
      gi_wp2
      refine ⟨trivial,(callsIn_wide.2 (Tryz.strings_IndexByte r (c.toNat:Int) wr)).mono ?_⟩
      rintro e w1 ⟨rfl,rfl⟩
      rw [u8_back,ho]
      gi_wp2
      refine HR.out.mono ?_
      rintro e W3 (⟨rfl,hJ3,hk3⟩|⟨rfl,hJx3⟩)
      · have hc3:W3.cell? ⟨Bc,0,none⟩=some (.int .u8 (c.toNat:Int)):=hk3.cell.trans hc
        gi_wp2
        go_roundw
        case rel=>exact ⟨pre++[r.data.toList.take o],r.extract (o+1) r.size,rfl,by have:=HS.out;rw [ByteArray.size_extract];omega,by rw [HCUT.out,HCY.out,ex_drop];simp,hc3,hJ3⟩
        case measure=>simp only [ByteArray.size_extract];omega
      · gi_wp2
        refine bodyPost_ret (results_none rfl _ _ _) rfl ?_
        exact ⟨⟨_,rfl⟩,.inr ⟨pre++[r.data.toList.take o],⟨cutAt c (r.data.toList.drop (o+1)),by rw [HCUT.out,HCY.out];simp⟩,hJx3⟩⟩
theorem texts_stops (n:Nat) (hn:2≤n) (Bs Bc:Nat) (s:ByteArray) (c:UInt8) (hs:s.size≤9223372036854775807) {w:World}
    (hBs:w.cell? ⟨Bs,0,none⟩=some (.string s)) (hBc:w.cell? ⟨Bc,0,none⟩=some (u8 c)) (hls:Bs<w.heap.size) (hlc:Bc<w.heap.size) :
    SeqStopsK Fence.wide n Tryz.prog 151 #[.pointer (some ⟨Bs,0,none⟩),.pointer (some ⟨Bc,0,none⟩)] (fun x:List UInt8=>#[str x]) (KeepsB Bc) (fun xs=>xs=cutAt c s.data.toList) (fun pre=>pre <+: cutAt c s.data.toList) (cutAt c s.data.toList).length w:=by
  intro l J Jx W hW hJ hJx hY h0
  exact texts_in n hn l Bs Bc s c J Jx hs hY W ((hW.cell (p:=⟨Bs,0,none⟩) hls).trans hBs) ((hW.cell (p:=⟨Bc,0,none⟩) hlc).trans hBc) h0
theorem texts_ (s:ByteArray) (c:UInt8) (w:World):Calls Tryz.prog 105 #[.string s,u8 c] w fun e w'=>e=.returned (.func (.func 151) #[] #[.pointer (some ⟨w.heap.size,0,none⟩),.pointer (some ⟨w.heap.size+1,0,none⟩)])∧w'=(w.alloc (.cells #[.string s] 9)).alloc (.cells #[u8 c] 5):=by
  have hmf:∀ (fn:Fn) (first cap:Array Value) (w:World),(Instr.makeFunc fn first cap).run Tryz.prog w=.ok (.func fn first cap) w:=fun _ _ _ _=>rfl
  go_enter Tryz.func105,Tryz.ntmps105
  go_wp2_with (fail)
  go_ret
  exact ⟨rfl,rfl⟩
end
/- Layer 8: how many texts,the n-th,walked. -/
section
open Go.RowKit Go.Shelf
attribute [local go_sem] Oper.semAt_some
end
/- Layer 8: the n-th text,walked. -/
section
open Go.RowKit Go.Shelf
attribute [local go_sem] Oper.semAt_some
def nthD (T:List (List UInt8)) (n:Int):Option (List UInt8):=if 1≤n then T[(n-1).toNat]? else none
theorem nthD_last {T pre:List (List UInt8)} {x:List UInt8} {n:Int} (hp:pre++[x] <+: T) (hn:((pre.length+1:Nat):Int)=n):nthD T n=some x:=by
  obtain ⟨r,rfl⟩:=hp
  unfold nthD
  rw [if_pos (by omega),show (n-1).toNat=pre.length by omega]
  simp
theorem nthD_none {T:List (List UInt8)} {n:Int} (h:¬ (1≤n∧n≤(T.length:Int))):nthD T n=none:=by
  unfold nthD
  split
  · exact List.getElem?_eq_none (by omega)
  · rfl
structure NthI (N:Nat) (n:Int) (v1:Value) (b:Bool) (k:Nat) (W:World):Prop where
  bn:Boxed W N 3 (.int .i64 n)
  b1:Boxed W (N+1) 9 v1
  b2:Boxed W (N+1+1) 4 (.bool b)
  bk:Boxed W (N+1+1+1) 3 (.int .i64 ((k:Nat):Int))
theorem nthI_own {β:Type} (N:Nat) (n:Int) (v1:β→Value) (b:Bool) (k:β→Nat):Go.Own (fun (s:β) W=>NthI N n (v1 s) b (k s) W):=fun s A B row hs hg hr =>
  ⟨boxed_own (β:=β) N _ (fun _=>_) s A B row hs.bn hg hr,boxed_own (β:=β) (N+1) _ v1 s A B row hs.b1 hg hr,boxed_own (β:=β) (N+1+1) _ (fun _=>_) s A B row hs.b2 hg hr,boxed_own (β:=β) (N+1+1+1) _ (fun s=>.int .i64 ((k s:Nat):Int)) s A B row hs.bk hg hr⟩
theorem NthI.count {N:Nat} {n:Int} {v:Value} {b:Bool} {k:Nat} {W:World} (h:NthI N n v b k W):NthI N n v b (k+1) (W.setCell ⟨N+1+1+1,0,none⟩ (.int .i64 ((k:Int)+1))) :=
  ⟨h.bn.other (by omega) _,h.b1.other (by omega) _,h.b2.other (by omega) _,h.bk.set _⟩
theorem NthI.tell {N:Nat} {n:Int} {v:Value} {b:Bool} {k:Nat} {W:World} (h:NthI N n v b k W) (v':Value) (b':Bool):NthI N n v' b' k ((W.setCell ⟨N+1,0,none⟩ v').setCell ⟨N+1+1,0,none⟩ (.bool b')) :=
  ⟨(h.bn.other (by omega) _).other (by omega) _,(h.b1.set _).other (by omega) _,(h.b2.other (by omega) _).set _,(h.bk.other (by omega) _).other (by omega) _⟩
theorem getLastD_snoc (pre:List (List UInt8)) (x:List UInt8):(pre++[x]).getLastD []=x:=by simp [List.getLastD_eq_getLast?]
set_option maxHeartbeats 4000000 in
set_option maxRecDepth 100000 in
theorem nth_ (s:ByteArray) (c:UInt8) (n:Int) (w:World) (hs:s.size≤9223372036854775806):Calls Tryz.prog 106 #[.string s,u8 c,.int .i64 n] w fun e w'=>e=.returned (.tuple #[str ((nthD (cutAt c s.data.toList) n).getD []),.bool (nthD (cutAt c s.data.toList) n).isSome])∧Below w.heap.size w w':=by
  refine (callsIn_wide (n:=9)).1 ?_
  have HS:=hid hs
  have HL:Hid ((cutAt c s.data.toList).length≤9223372036854775807):=hid (by rw [cutAt_length];have:=List.count_le_length (a:=c) (l:=s.data.toList);have:=s.size_data;simp at *;omega)
  clear hs
  refine callsIn_of_wp_marks Tryz.func106 rfl trivial ?_ rfl
  simp only [Tryz.ntmps106,List.size_toArray,List.length_cons,List.length_nil,Nat.reduceAdd,Nat.reduceSub,Array.replicate_succ,Array.replicate_zero,List.push_toArray,List.append_toArray,List.nil_append,List.cons_append]
  gi_wp2
  refine ⟨trivial,(callsIn_wide.2 (texts_ s c _)).mono ?_⟩
  rintro e w1 ⟨rfl,rfl⟩
  gi_wp2
  obtain ⟨N,hN⟩:∃ N,N=w.heap.size:=⟨_,rfl⟩
  obtain ⟨W0,hW0⟩:∃ W0,((((((w.alloc (.cells #[.int .i64 n] 3)).alloc (.cells #[.string { data:=#[] }] 9)).alloc (.cells #[.bool false] 4)).alloc (.cells #[.int .i64 0] 3)).alloc (.cells #[.string s] 9)).alloc (.cells #[u8 c] 5))=W0:=⟨_,rfl⟩
  have hI0:NthI N n (.string { data:=#[] }) false 0 W0:=by
    rw [← hW0,hN]
    refine ⟨(((((Boxed.new w 3 _).alloc _).alloc _).alloc _).alloc _).alloc _,?_,?_,?_⟩
    · have:=Boxed.new (w.alloc (.cells #[.int .i64 n] 3)) 9 (.string { data:=#[] })
      rw [World.size_alloc] at this
      exact (((this.alloc _).alloc _).alloc _).alloc _
    · have:=Boxed.new ((w.alloc (.cells #[.int .i64 n] 3)).alloc (.cells #[.string { data:=#[] }] 9)) 4 (.bool false)
      rw [World.size_alloc,World.size_alloc] at this
      exact ((this.alloc _).alloc _).alloc _
    · have:=Boxed.new (((w.alloc (.cells #[.int .i64 n] 3)).alloc (.cells #[.string { data:=#[] }] 9)).alloc (.cells #[.bool false] 4)) 3 (.int .i64 0)
      rw [World.size_alloc,World.size_alloc,World.size_alloc] at this
      exact (this.alloc _).alloc _
  have cs:Boxed W0 (N+1+1+1+1) 9 (.string s):=by
    have:=Boxed.new ((((w.alloc (.cells #[.int .i64 n] 3)).alloc (.cells #[.string { data:=#[] }] 9)).alloc (.cells #[.bool false] 4)).alloc (.cells #[.int .i64 0] 3)) 9 (.string s)
    simp only [World.size_alloc] at this
    rw [← hW0,hN];exact this.alloc _
  have cc:Boxed W0 (N+1+1+1+1+1) 5 (u8 c):=by
    have:=Boxed.new (((((w.alloc (.cells #[.int .i64 n] 3)).alloc (.cells #[.string { data:=#[] }] 9)).alloc (.cells #[.bool false] 4)).alloc (.cells #[.int .i64 0] 3)).alloc (.cells #[.string s] 9)) 5 (u8 c)
    simp only [World.size_alloc] at this
    rw [← hW0,hN];exact this
  have hsz:W0.heap.size=N+6:=by rw [← hW0,hN];simp
  have hb0:Below N w W0:=by
    rw [← hW0,hN]
    exact ((((((Below.refl _ w).alloc (Nat.le_refl _) _).alloc (by simp) _).alloc (by simp;omega) _).alloc (by simp;omega) _).alloc (by simp;omega) _).alloc (by simp;omega) _
  rw [hW0,← hN]
  have HN:=hid hN
  clear hW0 hN
  refine wpIn_rangeFunc_ownF rfl (by decide) (gf:=151) (lb:=#[.pointer (some ⟨N+1+1+1+1,0,none⟩),.pointer (some ⟨N+1+1+1+1+1,0,none⟩)]) rfl trivial (enters_of Tryz.func151 (by kernel_rfl) rfl)
    (texts_stops _ (by decide) (N+1+1+1+1) (N+1+1+1+1+1) s c (by have:=HS.out;omega) cs.cell cc.cell (by omega) (by omega)) keepsB_t (keepsB_b (by omega)) (Below.refl _ _) (fun _=>rfl)
    (fun pre W=>(NthI N n (.string { data:=#[] }) false pre.length W∧Below N w W)∧¬ (1≤n∧n≤(pre.length:Int)))
    (fun c pre W=>(NthI N n (str (pre.getLastD [])) true pre.length W∧Below N w W)∧c=.ret∧((pre.length:Nat):Int)=n∧pre≠[])
    (OwnFrom.and (OwnFrom.and (Own.from (nthI_own N n (fun _=>.string { data:=#[] }) false (fun pre:List (List UInt8)=>pre.length)) _) (ownFrom_below (by rw [HN.out];exact Nat.le_refl _) (by omega))) (ownFrom_pure _ _))
    (fun c=>OwnFrom.and (OwnFrom.and (Own.from (nthI_own N n (fun pre:List (List UInt8)=>str (pre.getLastD [])) true (fun pre:List (List UInt8)=>pre.length)) _) (ownFrom_below (by rw [HN.out];exact Nat.le_refl _) (by omega))) (ownFrom_pure _ _))
    ⟨⟨hI0,hb0⟩,by simp;omega⟩
    (fun x=>{ tmps:=#[.string s,u8 c,.int .i64 n,undef,undef,.pointer (some ⟨N,0,none⟩),.pointer (some ⟨N+1,0,none⟩),.pointer (some ⟨N+1+1,0,none⟩),.pointer (some ⟨N+1+1+1,0,none⟩),str x,.string s,u8 c,.func (.func 151) #[] #[.pointer (some ⟨N+1+1+1+1,0,none⟩),.pointer (some ⟨N+1+1+1+1+1,0,none⟩)],str x,undef,undef,undef,undef,undef,undef],defers:=[] }) ?assign ?body ?done ?stop
  case assign =>
    intro l x W K hK
    gi_wp2
    simpa using hK
  case body =>
    rintro l pre x W ⟨⟨hI,hB⟩,hno⟩ hlt
    have ew:IntKind.i64.wrap ((pre.length:Int)+1)=((pre.length+1:Nat):Int):=by have:=HL.out;rw [IntKind.wrap_i64];omega
    have hcn:=hI.bn.cell
    have hc1:=hI.b1.cell
    have hf1:=hI.b1.frozen
    have hc2:=hI.b2.cell
    have hf2:=hI.b2.frozen
    have hck:=hI.bk.cell
    have hfk:=hI.bk.frozen
    have HI:=hid hI
    have HB:=hid hB
    have HNO:=hid hno
    clear hI hB hno
    by_cases he:((pre.length+1:Nat):Int)=n
    · have d:(((pre.length+1:Nat):Int) == n)=true:=by simpa using he
      have HE:=hid he
      clear he
      gi_wp2
      exact ⟨((KeepsOthers.setCell _ _ _).trans (KeepsOthers.setCell _ _ _)).trans (KeepsOthers.setCell _ _ _),⟨by have h1:=(HI.out.count).tell (str x) true;rw [getLastD_snoc,List.length_append];exact h1,((HB.out.setCell (p:=⟨N+1+1+1,0,none⟩) (by simp;omega) _).setCell (p:=⟨N+1,0,none⟩) (by simp) _).setCell (p:=⟨N+1+1,0,none⟩) (by simp;omega) _⟩,rfl,by rw [List.length_append];exact HE.out,by simp⟩
    · have d:(((pre.length+1:Nat):Int) == n)=false:=by simpa using he
      have HE:=hid he
      clear he
      gi_wp2
      exact ⟨KeepsOthers.setCell _ _ _,(KeepsB.refl _ _).setCell (p:=⟨N+1+1+1,0,none⟩) (by simp;omega) _,⟨by have h1:=HI.out.count;rw [List.length_append];exact h1,HB.out.setCell (p:=⟨N+1+1+1,0,none⟩) (by simp;omega) _⟩,by have h1:=HNO.out;have h2:=HE.out;rw [List.length_append];simp only [List.length_cons,List.length_nil];omega⟩
  case done =>
    rintro D ys W hD rfl ⟨⟨hI,hB⟩,hno⟩ hK
    have hc1:=hI.b1.cell
    have hf1:=hI.b1.frozen
    have hc2:=hI.b2.cell
    have hf2:=hI.b2.frozen
    gi_wp2
    have hq:=hI.tell (.string { data:=#[] }) false
    have hB2:Below N w ((W.setCell ⟨N+1,0,none⟩ (.string { data:=#[] })).setCell ⟨N+1+1,0,none⟩ (.bool false)):=(hB.setCell (p:=⟨N+1,0,none⟩) (by simp) _).setCell (p:=⟨N+1+1,0,none⟩) (by simp;omega) _
    have hK2:((W.setCell ⟨N+1,0,none⟩ (.string { data:=#[] })).setCell ⟨N+1+1,0,none⟩ (.bool false)).heap[D]?=some (.deferred (some [])):=((KeepsOthers.setCell _ _ _).trans (KeepsOthers.setCell _ _ _)).same D _ hK rfl
    rw [nthD_none hno]
    generalize (W.setCell ⟨N+1,0,none⟩ (.string { data:=#[] })).setCell ⟨N+1+1,0,none⟩ (.bool false)=W2 at *
    have hfin:Below N w (W2.putObj D (.deferred none)):=hB2.trans (belowK_b (w:=W0) (by omega) W2 D _ _ (by omega) hK2 rfl rfl)
    have h1:=(hq.b1.kept (grownBy_putObj' W2 D (.deferred none)) (by simp;omega)).cell
    have h2:=(hq.b2.kept (grownBy_putObj' W2 D (.deferred none)) (by simp;omega)).cell
    rw [HN.out] at hfin
    refine ⟨by simp,.inl ⟨_,_,rfl,run_takeDeferred hK2,?_⟩⟩
    refine ⟨.tuple #[str [],.bool false],?_,rfl,hfin⟩
    simp [results,Tryz.results106,go_sem,h1,h2]
  case stop =>
    rintro D c' pre W hD hp ⟨⟨hI,hB⟩,rfl,hn,hne⟩ hK
    have hc1:=hI.b1.cell
    have hf1:=hI.b1.frozen
    have hc2:=hI.b2.cell
    have hf2:=hI.b2.frozen
    gi_wp2
    have hfin:Below N w (W.putObj D (.deferred none)):=hB.trans (belowK_b (w:=W0) (by omega) W D _ _ (by omega) hK rfl rfl)
    have h1:=(hI.b1.kept (grownBy_putObj' W D (.deferred none)) (by simp;omega)).cell
    have h2:=(hI.b2.kept (grownBy_putObj' W D (.deferred none)) (by simp;omega)).cell
    have hx:nthD (cutAt c s.data.toList) n=some (pre.getLastD []):=by
      obtain ⟨q,x,rfl⟩:∃ q x,pre=q++[x]:=⟨pre.dropLast,pre.getLast hne,(List.dropLast_concat_getLast hne).symm⟩
      rw [getLastD_snoc]
      exact nthD_last hp (by rw [← hn,List.length_append];rfl)
    rw [hx]
    rw [HN.out] at hfin
    refine ⟨by simp,.inl ⟨_,_,rfl,run_takeDeferred hK,?_⟩⟩
    refine ⟨.tuple #[str (pre.getLastD []),.bool true],?_,rfl,hfin⟩
    simp [results,Tryz.results106,go_sem,h1,h2]
end
/- Layer 8: names,fields and their parts,walked. -/
section
open Go.RowKit
abbrev mshB:ByteArray:=⟨#[77,83,72]⟩
def nameS (s:ByteArray):ByteArray:=s.extract 0 (min s.size 3)
def behD (s:ByteArray) (c:UInt8):Option ByteArray:=if 3<s.size∧s.data.toList.getD 3 0=c then some (s.extract 4 s.size) else none
def fieldsD (s:ByteArray) (c:UInt8):List (List UInt8) :=
  if nameS s=mshB then match behD s c with
    | none=>[]
    | some r=>[c] :: cutAt c r.data.toList
  else (cutAt c s.data.toList).tail
theorem strEq (a b:ByteArray):(a.toList == b.toList)=decide (a=b):=by
  rw [Go.ByteArray.toList_eq,Go.ByteArray.toList_eq]
  by_cases h:a=b
  · subst h;simp
  · have h2:a.data.toList≠b.data.toList:=fun e=>h (ByteArray.ext (Array.toList_inj.1 e))
    rw [beq_eq_false_iff_ne.2 h2,decide_eq_false h]
theorem strEq_t {a b:ByteArray} (h:a=b):(a.toList == b.toList)=true:=by rw [strEq];simpa using h
theorem strEq_f {a b:ByteArray} (h:a≠b):(a.toList == b.toList)=false:=by rw [strEq];simpa using h
theorem nameS_ (s:ByteArray) (w:World):Calls Tryz.prog 72 #[.string s] w fun e w'=>e=.returned (.string (nameS s))∧w'=w:=by
  go_enter Tryz.func72,Tryz.ntmps72
  go_wp2_with (fail)
  go_ret
  exact ⟨by unfold nameS;rw [show (min (s.size:Int) 3).toNat=min s.size 3 by omega];rfl,rfl⟩
theorem behind_ (s:ByteArray) (c:UInt8) (w:World):Calls Tryz.prog 107 #[.string s,u8 c] w fun e w'=>e=.returned (.tuple #[.string ((behD s c).getD ⟨#[]⟩),.bool (behD s c).isSome])∧w'=w:=by
  by_cases h3:3<s.size
  · have d1:decide ((s.size:Int)≤3)=false:=by simp;omega
    have hix:s.data[3]'h3=s.data.toList.getD 3 0:=by
      rw [List.getD_eq_getElem?_getD,List.getElem?_eq_getElem (by simpa using h3)];rfl
    by_cases hc:s.data.toList.getD 3 0=c
    · have d2:((((s.data[3]'h3).toNat:Nat):Int) != ((c.toNat:Nat):Int))=false:=by rw [hix,hc];simp
      have hb:behD s c=some (s.extract 4 s.size):=if_pos ⟨h3,hc⟩
      have h4:(4:Int)≤s.size:=by omega
      rw [hb]
      have d3:((((s[3]'h3).toNat:Nat):Int) != ((c.toNat:Nat):Int))=_:=d2
      clear hb hix
      go_enter Tryz.func107,Tryz.ntmps107
      go_wp2_with (fail)
      go_ret2
      exact ⟨rfl,rfl⟩
    · have d2:((((s.data[3]'h3).toNat:Nat):Int) != ((c.toNat:Nat):Int))=true:=by
        rw [hix,bne_iff_ne];intro e;exact hc (UInt8.toNat_inj.1 (by omega))
      have hb:behD s c=none:=if_neg (fun h=>hc h.2)
      rw [hb]
      have d3:((((s[3]'h3).toNat:Nat):Int) != ((c.toNat:Nat):Int))=_:=d2
      clear hb hix
      go_enter Tryz.func107,Tryz.ntmps107
      go_wp2_with (fail)
      go_ret2
      exact ⟨rfl,rfl⟩
  · have d1:decide ((s.size:Int)≤3)=true:=by simp;omega
    have hb:behD s c=none:=if_neg (fun h=>h3 h.1)
    rw [hb]
    clear hb
    go_enter Tryz.func107,Tryz.ntmps107
    go_wp2_with (fail)
    go_ret2
    exact ⟨rfl,rfl⟩
theorem name_t {s:ByteArray} (h:nameS s=mshB):((nameS s).toList == [77,83,72])=true:=by
  rw [h,Go.ByteArray.toList_eq];rfl
theorem name_f {s:ByteArray} (h:nameS s≠mshB):((nameS s).toList == [77,83,72])=false:=by
  rw [Go.ByteArray.toList_eq,beq_eq_false_iff_ne]
  exact fun e=>h (ByteArray.ext (Array.toList_inj.1 e))
theorem cut_le (c:UInt8) (s:ByteArray):(cutAt c s.data.toList).length≤s.size+1:=by
  rw [cutAt_length]
  have:=List.count_le_length (a:=c) (l:=s.data.toList)
  have h2:s.data.toList.length=s.size:=by simp
  omega
theorem behD_size {s r:ByteArray} {c:UInt8} (h:behD s c=some r):r.size+4=s.size:=by
  unfold behD at h
  split at h
  · injection h with h
    rw [← h,ByteArray.size_extract];omega
  · cases h
abbrev boxSgn (d:Sgn) (w:World):World:=w.alloc (.cells #[u8 d.a,u8 d.b,u8 d.c,u8 d.d,u8 d.e] 109)
theorem boxSgn_cells (d:Sgn) (w w2:World) (h:Below (w.heap.size+1) (boxSgn d w) w2):w2.cell? ⟨w.heap.size,0,none⟩=some (u8 d.a)∧w2.cell? ⟨w.heap.size,1,none⟩=some (u8 d.b)∧w2.cell? ⟨w.heap.size,2,none⟩=some (u8 d.c):=by
  have hr:w2.heap[w.heap.size]?=some (.cells #[u8 d.a,u8 d.b,u8 d.c,u8 d.d,u8 d.e] 109):=(h.block _ (by omega)).trans (heap_alloc_new w _)
  exact ⟨cell_of_row w2 _ 0 _ _ _ hr,cell_of_row w2 _ 1 _ _ _ hr,cell_of_row w2 _ 2 _ _ _ hr⟩
theorem boxSgn_below (d:Sgn) (w:World):Below w.heap.size w (boxSgn d w):=(Below.refl _ w).alloc (Nat.le_refl _) _
theorem boxSgn_size (d:Sgn) (w:World):(boxSgn d w).heap.size=w.heap.size+1:=by simp
end
/- Layer 8: a field,its repetitions and components,walked. -/
section
open Go.RowKit
abbrev toldV (o:Option (List UInt8)):Value:=.tuple #[str (o.getD []),.bool o.isSome]
theorem nthD_pos {T:List (List UInt8)} {n:Int} (h:n<1):nthD T n=none:=by
  unfold nthD
  rw [if_neg (by omega)]
theorem nthD_tail (T:List (List UInt8)) (n:Int) (h:1≤n):nthD T.tail n=nthD T (n+1):=by
  unfold nthD
  rw [if_pos h,if_pos (by omega),List.getElem?_tail]
  rw [show (n+1-1).toNat=(n-1).toNat+1 by omega]
theorem nthD_cons (x:List UInt8) (T:List (List UInt8)) (n:Int) (h:2≤n):nthD (x :: T) n=nthD T (n-1):=by
  unfold nthD
  rw [if_pos (by omega),if_pos (by omega),show (n-1).toNat=(n-1-1).toNat+1 by omega,List.getElem?_cons_succ]
theorem nthD_le {T:List (List UInt8)} {n:Int} {k:Nat} {x:List UInt8} (hT:∀ y ∈ T,y.length≤k) (h:nthD T n=some x):x.length≤k:=by
  unfold nthD at h
  split at h
  · exact hT x (List.mem_of_getElem? h)
  · cases h
set_option maxHeartbeats 4000000 in
theorem field_ (s:ByteArray) (n:Int) (d:Sgn) (w:World) (hs:s.size≤9223372036854775806) (hn:n≤9223372036854775807) (hn2:-9223372036854775808≤n):Calls Tryz.prog 73 #[.string s,.int .i64 n,d.v] w fun e w'=>e=.returned (toldV (nthD (fieldsD s d.a) n))∧Below w.heap.size w w':=by
  have HS:=hid hs
  have hb0:=boxSgn_below d w
  have HB0:=hid hb0
  clear hs hb0
  by_cases h1:n<1
  · have d0:decide (n<1)=true:=by simpa using h1
    rw [nthD_pos h1]
    clear hn hn2
    go_enter Tryz.func73,Tryz.ntmps73
    go_wp2_with (fail)
    go_ret2
    exact ⟨rfl,HB0.out⟩
  have d0:decide (n<1)=false:=by simpa using h1
  by_cases hm:nameS s=mshB
  · have d1:=name_t hm
    cases hb:behD s d.a with
    | none =>
      have hf:fieldsD s d.a=[]:=by unfold fieldsD;rw [if_pos hm,hb]
      rw [hf,nthD_none (by simp;omega)]
      have HB:=hid hb
      clear hb hm hf hn hn2
      go_enter Tryz.func73,Tryz.ntmps73
      go_wp2_with (fail)
      refine (nameS_ s _).mono ?_
      rintro e w1 ⟨rfl,rfl⟩
      go_wp2_with (fail)
      refine (behind_ s d.a _).mono ?_
      rintro e w1 ⟨rfl,rfl⟩
      rw [HB.out]
      go_wp2_with (fail)
      go_ret2
      exact ⟨rfl,HB0.out⟩
    | some r =>
      have hf:fieldsD s d.a=[d.a] :: cutAt d.a r.data.toList:=by unfold fieldsD;rw [if_pos hm,hb]
      rw [hf]
      have hrs:=behD_size hb
      have HR:Hid (r.size≤9223372036854775806):=hid (by have:=HS.out;omega)
      have HB:=hid hb
      by_cases he:n=1
      · subst he
        have HX:Hid (nthD ([d.a] :: cutAt d.a r.data.toList) 1=some [d.a]):=hid rfl
        rw [HX.out]
        have hcv:=(Bs.of_block (w:=(boxSgn d w).alloc (.cells #[u8 d.a] 5)) (g:=w.heap.size+1) (n:=1) (c:=1) (l:=[d.a]) (by have:=heap_alloc_new (boxSgn d w) (.cells #[u8 d.a] 5);rw [boxSgn_size] at this;exact this) (by rfl) rfl (by decide) (by decide)).str (P:=Tryz.prog) 40 5 9 Tryz.underlying40 Tryz.underlying5 Tryz.underlying9
        have HBF:Hid (Below w.heap.size w ((boxSgn d w).alloc (.cells #[u8 d.a] 5))):=hid (HB0.out.alloc HB0.out.size _)
        clear hb hm hf hrs hn hn2 h1
        go_enter Tryz.func73,Tryz.ntmps73
        go_wp2_with (fail)
        refine (nameS_ s _).mono ?_
        rintro e w1 ⟨rfl,rfl⟩
        go_wp2_with (fail)
        refine (behind_ s d.a _).mono ?_
        rintro e w1 ⟨rfl,rfl⟩
        rw [HB.out]
        go_wp2_with (fail)
        go_ret2
        exact ⟨rfl,HBF.out⟩
      · have d2:(n == 1)=false:=by simpa using he
        rw [nthD_cons _ _ n (by omega)]
        obtain ⟨m,hm1⟩:∃ m:Int,n-1=m:=⟨_,rfl⟩
        have hw:IntKind.i64.wrap (n-1)=m:=by rw [IntKind.wrap_i64];omega
        rw [hm1]
        have hr1:-9223372036854775808≤m∧m≤9223372036854775807:=by omega
        clear hb hm hf hrs hn hn2 h1 he
        go_enter Tryz.func73,Tryz.ntmps73
        go_wp2_with (fail)
        refine (nameS_ s _).mono ?_
        rintro e w1 ⟨rfl,rfl⟩
        go_wp2_with (fail)
        refine (behind_ s d.a _).mono ?_
        rintro e w1 ⟨rfl,rfl⟩
        rw [HB.out]
        go_wp2_with (fail)
        refine (nth_ r d.a m _ HR.out).mono ?_
        rintro e w2 ⟨rfl,hb2⟩
        have HB2:=hid (HB0.out.trans (hb2.mono HB0.out.size))
        clear hb2
        go_wp2_with (fail)
        go_ret2
        exact ⟨rfl,HB2.out⟩
  · have d1:=name_f hm
    have hf:fieldsD s d.a=(cutAt d.a s.data.toList).tail:=by unfold fieldsD;rw [if_neg hm]
    rw [hf,nthD_tail _ n (by omega)]
    have hcl:=cut_le d.a s
    obtain ⟨m,hm1⟩:∃ m:Int,wrap64 (n+1)=m:=⟨_,rfl⟩
    have hnn:nthD (cutAt d.a s.data.toList) (n+1)=nthD (cutAt d.a s.data.toList) m:=by
      by_cases hx:n+1≤9223372036854775807
      · rw [← hm1,IntWalk.wrap64_in _ (by omega)]
      · have hs2:=HS.out
        have:n=9223372036854775807:=by omega
        subst this
        rw [nthD_none (by omega),← hm1,nthD_pos (by unfold wrap64;omega)]
    rw [hnn]
    have hw:IntKind.i64.wrap (n+1)=m:=by rw [← hm1,IntKind.wrap_i64,wrap64]
    clear hm hf hcl hm1 hnn hn hn2
    go_enter Tryz.func73,Tryz.ntmps73
    go_wp2_with (fail)
    refine (nameS_ s _).mono ?_
    rintro e w1 ⟨rfl,rfl⟩
    go_wp2_with (fail)
    refine (nth_ s d.a m _ HS.out).mono ?_
    rintro e w2 ⟨rfl,hb2⟩
    have HB2:=hid (HB0.out.trans (hb2.mono HB0.out.size))
    clear hb2
    go_wp2_with (fail)
    go_ret2
    exact ⟨rfl,HB2.out⟩
def partsD (f:ByteArray) (d:Sgn) (i:Int):List (List UInt8):=match nthD (cutAt d.c f.data.toList) i with
  | none=>[]
  | some x=>cutAt d.b x
theorem told_size {f : ByteArray} {c : UInt8} {i : Int} {x : List UInt8} (hx : nthD (cutAt c f.data.toList) i = some x) : x.length ≤ f.size :=
  nthD_le (k := f.size) (fun y hy => by have := cutAt_mem_le c _ y hy; have h2 : f.data.toList.length = f.size := by simp
                                        omega) hx
theorem txt_size' (x:List UInt8):(txt x).size=x.length:=by simp [ByteArray.size]
set_option maxHeartbeats 4000000 in
theorem part_ (f:ByteArray) (i k:Int) (d:Sgn) (w:World) (hs:f.size≤9223372036854775806):Calls Tryz.prog 179 #[.string f,.int .i64 i,.int .i64 k,d.v] w fun e w'=>e=.returned (toldV (nthD (partsD f d i) k))∧Below w.heap.size w w':=by
  have HB0:=hid (boxSgn_below d w)
  have HS:=hid hs
  clear hs
  unfold partsD
  cases hx:nthD (cutAt d.c f.data.toList) i with
  | none =>
    have HX:=hid hx
    clear hx
    rw [show nthD (match none with | none=>[] | some x=>cutAt d.b x) k=none from nthD_none (by simp;omega)]
    go_enter Tryz.func179,Tryz.ntmps179
    go_wp2_with (fail)
    refine (nth_ f d.c i _ HS.out).mono ?_
    rintro e w2 ⟨rfl,hb2⟩
    rw [HX.out]
    have HB2:=hid (HB0.out.trans (hb2.mono HB0.out.size))
    clear hb2
    go_wp2_with (fail)
    go_ret2
    exact ⟨rfl,HB2.out⟩
  | some x =>
    have HX:=hid hx
    have HXS:=hid (told_size hx)
    clear hx
    go_enter Tryz.func179,Tryz.ntmps179
    go_wp2_with (fail)
    refine (nth_ f d.c i _ HS.out).mono ?_
    rintro e w2 ⟨rfl,hb2⟩
    rw [HX.out]
    obtain ⟨_,hc1,_⟩:=boxSgn_cells d w w2 (hb2.mono (by simp))
    have HB2:=hid (HB0.out.trans (hb2.mono HB0.out.size))
    clear hb2
    go_wp2_with (fail)
    refine (nth_ (txt x) d.b k _ (by rw [txt_size'];have:=HXS.out;have:=HS.out;omega)).mono ?_
    rintro e w3 ⟨rfl,hb3⟩
    have HB3:=hid (HB2.out.trans (hb3.mono HB2.out.size))
    clear hb3 hc1
    go_wp2_with (fail)
    go_ret2
    exact ⟨rfl,HB3.out⟩
end
/- Layer 8: the document's examples,walked. -/
section
open Go.RowKit
end
/- SegmentCounts,walked. -/
section
open Go.RowKit
theorem ex_list (s:ByteArray) (i j:Nat):(s.extract i j).data.toList=(s.data.toList.drop i).take (j-i):=by
  rw [ByteArray.data_extract,Array.toList_extract,List.extract_eq_take_drop]
theorem ba_ext {a b:ByteArray} (h:a.data.toList=b.data.toList):a=b:=ByteArray.ext (Array.toList_inj.1 h)
def BoxS (d:Sgn) (g:Nat) (w:World):Prop:=w.heap[g]?=some (.cells #[u8 d.a,u8 d.b,u8 d.c,u8 d.d,u8 d.e] 109)
theorem BoxS.cells {d:Sgn} {g:Nat} {w:World} (h:BoxS d g w):w.cell? ⟨g,0,none⟩=some (u8 d.a)∧w.cell? ⟨g,1,none⟩=some (u8 d.b)∧w.cell? ⟨g,2,none⟩=some (u8 d.c)∧w.cell? ⟨g,3,none⟩=some (u8 d.d)∧w.cell? ⟨g,4,none⟩=some (u8 d.e) :=
  ⟨cell_of_row w g 0 _ _ _ h,cell_of_row w g 1 _ _ _ h,cell_of_row w g 2 _ _ _ h,cell_of_row w g 3 _ _ _ h,cell_of_row w g 4 _ _ _ h⟩
theorem BoxS.below {d:Sgn} {g:Nat} {w w':World} (h:BoxS d g w) (hb:Below w.heap.size w w'):BoxS d g w':=(hb.block g (Array.getElem?_eq_some_iff.1 h).1).trans h
end
/- Layer 8: the answer's repetitions and components,walked. -/
section
open Go.RowKit
theorem refAgains (s:ByteArray) (d:Sgn) (w:World) (hs:s.size≤1099511627000):Calls Tryz.prog 183 #[.string s,d.v] w (RetSs w (cutAt d.c s.data.toList)):=by
  have HB0:=hid (boxSgn_below d w)
  go_enter Tryz.func183,Tryz.ntmps183
  go_wp2_with (fail)
  refine (refCut s d.c _ hs).mono ?_
  rintro e w2 ⟨A,c,rfl,hS,hb2⟩
  have HS:=hid hS
  have HB2:=hid (HB0.out.trans (hb2.mono HB0.out.size))
  clear hb2 hS
  go_wp2_with (fail)
  go_ret
  exact ⟨A,c,rfl,HS.out,HB2.out⟩
theorem RetSs.nil {w w':World} {T:List (List UInt8)} (hT:T=[]) (h:Below w.heap.size w w'):RetSs w T (.returned (.slice none 0 0)) w':=by
  subst hT
  exact ⟨none,0,rfl,Ss.nil _ _ _ (by simp [maxLen]),h⟩
set_option maxHeartbeats 4000000 in
set_option maxRecDepth 100000 in
theorem refParts (s:ByteArray) (i:Int) (d:Sgn) (w:World) (hs:s.size≤1000000000) (hi:-9223372036854775808≤i∧i≤9223372036854775807):Calls Tryz.prog 167 #[.string s,.int .i64 i,d.v] w (RetSs w (partsD s d i)):=by
  have HB0:=hid (boxSgn_below d w)
  have HX0:Hid (BoxS d w.heap.size (boxSgn d w)):=hid (heap_alloc_new w _)
  have HI:=hid hi
  have HS:=hid hs
  clear hi hs
  go_enter Tryz.func167,Tryz.ntmps167
  go_wp2_with (fail)
  refine (refAgains s d _ (by have:=HS.out;omega)).mono ?_
  rintro e w2 ⟨A,c,rfl,hS,hb2⟩
  have HT:=hid hS
  have HX2:=hid (HX0.out.below hb2)
  have HB2:=hid (HB0.out.trans (hb2.mono HB0.out.size))
  obtain ⟨n,hn⟩:∃ n:Nat,n=(cutAt d.c s.data.toList).length:=⟨_,rfl⟩
  have HN:=hid hn
  rw [← hn] at HT ⊢
  have HNL:Hid (n≤s.size+1):=hid (by rw [hn];exact cut_le d.c s)
  clear hS hb2 hn HX0 HB0
  by_cases h1:i<1
  · have d1:decide (i<1)=true:=by simpa using h1
    have hp:partsD s d i=[]:=by unfold partsD;rw [nthD_pos h1]
    have HP:=hid hp
    clear hp
    go_wp2_with (fail)
    go_ret
    exact RetSs.nil HP.out HB2.out
  · have d1:decide (i<1)=false:=by simpa using h1
    by_cases h2:(n:Int)<i
    · have d2:decide ((n:Int)<i)=true:=by simpa using h2
      have hp:partsD s d i=[]:=by unfold partsD;rw [nthD_none (by rw [← HN.out];omega)]
      have HP:=hid hp
      clear hp
      go_wp2_with (fail)
      go_ret
      exact RetSs.nil HP.out HB2.out
    · have d2:decide ((n:Int)<i)=false:=by simpa using h2
      obtain ⟨j,hji⟩:∃ j:Nat,i-1=(j:Int):=⟨(i-1).toNat,by omega⟩
      have hj:j<n:=by omega
      obtain ⟨b,o,rfl,hbl,hcell⟩:=HT.out.read hj
      obtain ⟨x,hx⟩:∃ x,x=(cutAt d.c s.data.toList).getD j []:=⟨_,rfl⟩
      rw [← hx] at hcell
      have hp:partsD s d i=cutAt d.b (txt x).data.toList:=by
        unfold partsD nthD
        rw [if_pos (by omega),show (i-1).toNat=j by omega,List.getElem?_eq_getElem (by rw [← HN.out];exact hj)]
        rw [hx,List.getD_eq_getElem?_getD,List.getElem?_eq_getElem (by rw [← HN.out];exact hj)]
        rfl
      have HXS:Hid ((txt x).size≤s.size):=hid (by rw [txt_size',hx];exact cutAt_part_le d.c _ s.size (by simp) j)
      have ew:IntKind.i64.wrap (i-1)=(j:Int):=by rw [IntKind.wrap_i64];have:=HNL.out;have:=HS.out;omega
      have hjn:(j:Int)<(n:Int):=by omega
      have h0j:(0:Int)≤(j:Int):=by omega
      have ew2:wrap64 (i-1)=(j:Int):=by rw [hji];exact IntWalk.wrap64_in _ (by have:=HNL.out;have:=HS.out;omega)
      have tn:((j:Nat):Int).toNat=j:=by simp
      have HP:=hid hp
      obtain ⟨c0,c1,c2,c3,c4⟩:=HX2.out.cells
      have hgl:w.heap.size<w2.heap.size:=(Array.getElem?_eq_some_iff.1 HX2.out).1
      clear hp hx hji
      go_wp2_with (fail)
      go_region_held3 (fun w'=>w'.cell? ⟨b,o+j,none⟩=some (.string (txt x))∧w'.cell? ⟨w.heap.size,1,none⟩=some (.int .u8 (d.b.toNat:Int))) (first | exact ⟨hk1,hk2⟩ | go_keep)
        (first
        | (go_at_call 165;refine (refCut (txt x) d.b w2.drew (by have:=HXS.out;have:=HS.out;omega)).mono ?_
           rintro e w4 ⟨A4,c4',rfl,hS4,hb4⟩
           have HS4:=hid hS4
           have HB4:=hid ((HB2.out.drew).trans (hb4.mono (HB2.out.drew).size))
           have hk1:w4.cell? ⟨b,o+j,none⟩=some (.string (txt x)):=(hb4.cell (p:=⟨b,o+j,none⟩) hbl).trans hcell
           have hk2:w4.cell? ⟨w.heap.size,1,none⟩=some (.int .u8 (d.b.toNat:Int)):=(hb4.cell (p:=⟨w.heap.size,1,none⟩) hgl).trans c1
           clear hS4 hb4))
      go_wp2_with (fail)
      go_ret
      refine ⟨A4,c4',?_,?_,HB4.out⟩
      · rw [HP.out];rfl
      · rw [HP.out];exact HS4.out
end
/- Layer 8: segments of a message,walked. -/
section
open Go.RowKit Go.Shelf
attribute [local go_sem] Oper.semAt_some
def splitD (l:List UInt8):List (List UInt8):=if (cutAt 13 l).getLastD []=[] then (cutAt 13 l).dropLast else cutAt 13 l
theorem Ss.take {w:World} {A:Option Addr} {n c k:Nat} {T:List (List UInt8)} (h:Ss w A n c T) (hk:k≤n):Ss w A k c (T.take k):=by
  refine ⟨by rw [List.length_take,h.len];omega,Nat.le_trans hk h.le,h.2.2.1,fun h0=>?_⟩
  obtain ⟨b,o,e,_,hc⟩:=h.at_ (by omega)
  refine ⟨b,o,e,fun i x hx=>hc i x ?_⟩
  rw [List.getElem?_take] at hx
  split at hx
  · exact hx
  · cases hx
theorem OwnS.ss' {w:World} {base g c:Nat} {T:List (List UInt8)} (h:OwnS w base (.slice (some ⟨g,0,none⟩) T.length c) T):Ss w (some ⟨g,0,none⟩) T.length c T:=by
  obtain ⟨A4,c4,e4,h4,_⟩:=h.ss
  injection e4 with e5 _ e6
  rw [e5,e6];exact h4
set_option maxHeartbeats 4000000 in
set_option maxRecDepth 100000 in
theorem split_ (A:Option Addr) (n cp:Nat) (l:List UInt8) (w:World) (hb:Bs w A n cp l) (hn:n≤1000000):Calls Tryz.prog 71 #[.slice A n cp] w (RetSs w (splitD l)):=by
  refine (callsIn_wide (n:=9)).1 ?_
  obtain ⟨i0,hi,hz0,hz1,hz2⟩:=info_parts (show (Tryz.prog.info? 9).map (fun i=>(i.zero,i.size,i.bytes))=some (some (.string ByteArray.empty),1,16) from by kernel_rfl)
  have hln:=hb.len
  have hcv:=(hb.below ((Below.refl _ w).alloc (Nat.le_refl _) (.cells #[.slice none 0 0] 135))).str (P:=Tryz.prog) 40 5 9 Tryz.underlying40 Tryz.underlying5 Tryz.underlying9
  obtain ⟨s,hs⟩:∃ s:ByteArray,s=txt l:=⟨_,rfl⟩
  have hsl:s.data.toList=l:=by rw [hs]
  have HS:Hid (s.size=n):=hid (by rw [hs,txt_size',hln])
  have HL:Hid ((cutAt 13 l).length≤n+1):=hid (by have:=cut_le 13 s;rw [hsl] at this;have:=HS.out;omega)
  have HT:Hid (0<(cutAt 13 l).length):=hid (by rw [cutAt_length];omega)
  rw [← hs] at hcv
  clear hb hs
  have HSL:=hid hsl
  clear hsl hln
  refine callsIn_of_wp_marks Tryz.func71 rfl trivial ?_ rfl
  simp only [Tryz.ntmps71,List.size_toArray,List.length_cons,List.length_nil,Nat.reduceAdd,Nat.reduceSub,Array.replicate_succ,Array.replicate_zero,List.push_toArray,List.append_toArray,List.nil_append,List.cons_append]
  gi_wp2
  refine ⟨trivial,(callsIn_wide.2 (texts_ s 13 _)).mono ?_⟩
  rintro e w1 ⟨rfl,rfl⟩
  gi_wp2
  obtain ⟨N,hN⟩:∃ N,N=w.heap.size:=⟨_,rfl⟩
  obtain ⟨W0,hW0⟩:∃ W0,(((w.alloc (.cells #[.slice none 0 0] 135)).alloc (.cells #[.string s] 9)).alloc (.cells #[u8 13] 5))=W0:=⟨_,rfl⟩
  have bo:Boxed W0 N 135 (.slice none 0 0):=by rw [← hW0,hN];exact ((Boxed.new w 135 _).alloc _).alloc _
  have cs:Boxed W0 (N+1) 9 (.string s):=by
    have:=Boxed.new (w.alloc (.cells #[.slice none 0 0] 135)) 9 (.string s)
    simp only [World.size_alloc] at this
    rw [← hW0,hN];exact this.alloc _
  have cc:Boxed W0 (N+1+1) 5 (u8 13):=by
    have:=Boxed.new ((w.alloc (.cells #[.slice none 0 0] 135)).alloc (.cells #[.string s] 9)) 5 (u8 13)
    simp only [World.size_alloc] at this
    rw [← hW0,hN];exact this
  have hsz:W0.heap.size=N+3:=by rw [← hW0,hN];simp
  have hb0:Below N w W0:=by
    rw [← hW0,hN]
    exact ((((Below.refl _ w).alloc (Nat.le_refl _) _).alloc (by simp) _).alloc (by simp;omega) _)
  rw [show u8 13=.int .u8 13 from rfl] at hW0
  rw [show (.int .u8 13:Value)=u8 13 from rfl] at hW0
  rw [hW0,← hN]
  have HN:=hid hN
  clear hW0 hN hcv
  refine wpIn_rangeFunc_ownG rfl (by decide) (gf:=151) (lb:=#[.pointer (some ⟨N+1,0,none⟩),.pointer (some ⟨N+1+1,0,none⟩)]) rfl trivial (enters_of Tryz.func151 (by kernel_rfl) rfl)
    (texts_stops _ (by decide) (N+1) (N+1+1) s 13 (by have:=HS.out;omega) cs.cell cc.cell (by omega) (by omega)) keepsB_t (keepsB_b (by omega)) (Below.refl _ _) (fun _=>rfl)
    (fun pre W=>((∃ v,Boxed W N 135 v∧W.ownsRow N 9 1 v pre.length (pre.map str)∧True)∧Below N w W)∧Boxed W (N+1+1) 5 (u8 13))
    (fun _ _ _=>False)
    (OwnFrom.and (OwnFrom.and (Own.from (holdsRow_own N N 135 9 1 (fun pre:List (List UInt8)=>pre.length) (fun pre=>pre.map str) (fun _ _=>True)) _) (ownFrom_below (by rw [HN.out];exact Nat.le_refl _) (by omega))) (Own.from (boxed_own (N+1+1) _ (fun _=>u8 13)) _))
    (fun _ _ _ _ _ hs _ _=>hs)
    ⟨⟨⟨_,bo,World.ownsRow_nil _ _ _ _,trivial⟩,hb0⟩,cc⟩
    (fun x=>{ tmps:=#[.slice A n cp,undef,.slice none 0 0,.pointer (some ⟨N,0,none⟩),str x,undef,.slice A n cp,.string s,.func (.func 151) #[] #[.pointer (some ⟨N+1,0,none⟩),.pointer (some ⟨N+1+1,0,none⟩)],str x,undef,undef,undef,undef,undef,undef,undef,undef,undef,undef,undef,undef,undef,undef,undef,undef],defers:=[] }) ?assign ?body ?done ?stop
  case assign =>
    intro l x W K hK
    gi_wp2
    simpa using hK
  case body =>
    rintro l' pre x W ⟨⟨⟨v,hv,hrow,_⟩,hB⟩,hbc⟩ hlt
    have hc:=hv.cell
    have HLT:Hid (pre.length≤1000001):=hid (by have h1:=HL.out;rw [HSL.out] at hlt;omega)
    have HB:=hid hB
    have HROW:=hid hrow
    have HV:=hid hv
    have HBC:=hid hbc
    have HSB:Hid (N≤W.heap.size):=hid (Nat.le_trans (by rw [HN.out];exact Nat.le_refl _) hB.size)
    clear hB hrow hv hbc hlt
    gi_wp2_with (gi_at_builtin;refine wpListIn_append_own _ rfl _ _ 135 rfl N 9 i0 (.string ByteArray.empty) 1 16 Tryz.underlying135 hi hz0 hz1 hz2 rfl (by decide) _ _ _ rfl (HROW.out.alloc _) ⟨W.heap.size,0,none⟩ 1 1 [str x] rfl rfl (cell_one_new _ _ _) (by simp [Value.oneCell']) (by have:=HLT.out;simp [maxLen];omega) (by have:=HLT.out;simp;omega) (by have:=HSB.out;simp;omega) ?_;intro v' w1 hown' hgrow _;obtain ⟨g',cap',rfl⟩:=ownsRow_succ hown';obtain ⟨hv1,hv2,hr2,hk2,hb2⟩:=HV.out.appended (by decide) HROW.out HSB.out (Nat.le_refl _) hown' hgrow;have hc1:=hv1.cell;have hf1:=hv1.frozen;have HBC2:=hid (((HBC.out.alloc _).kept hgrow (HBC.out.not_row (by decide) HROW.out)).other (show N+1+1≠N by omega) (.slice (some ⟨g',0,none⟩) (pre.length+1) cap')))
    refine ⟨hk2.from _,?_,⟨⟨_,hv2,by simpa using hr2,trivial⟩,HB.out.trans hb2⟩,HBC2.out⟩
    exact HBC2.out.trans HBC.out.symm
  case done =>
    rintro D ys W hD rfl ⟨⟨⟨v,hv,hrow,_⟩,hB⟩,_⟩ hK
    have HOW:Hid (OwnS W N v (cutAt 13 l)):=hid (by rw [← HSL.out];exact hrow)
    obtain ⟨g,cap,rfl,hgN,hgW,hcap,hcm⟩:=HOW.out.form HT.out
    have hc:=hv.cell
    have hf:=hv.frozen
    have HV:=hid hv
    have HB:=hid hB
    have HK:=hid hK
    obtain ⟨A3,c3,e3,hSs,_⟩:=HOW.out.ss
    have hSs2:Ss W (some ⟨g,0,none⟩) (cutAt 13 l).length cap (cutAt 13 l):=by
      injection e3 with e1 e2 e4
      rw [e1,e4]
      exact hSs
    have HSS:=hid hSs2
    obtain ⟨m1,hm1⟩:∃ m1:Nat,((cutAt 13 l).length:Int)-1=(m1:Int):=⟨(cutAt 13 l).length-1,by have:=HT.out;omega⟩
    have hlast:((cutAt 13 l))[m1]?=some ((cutAt 13 l).getLastD []):=by
      rw [List.getLastD_eq_getLast?,List.getLast?_eq_getElem?,show (cutAt 13 l).length-1=m1 by omega,List.getElem?_eq_getElem (by have:=HT.out;omega)]
      rfl
    have hcell:=HOW.out.cell hlast
    have HSP:Hid (splitD l=if (cutAt 13 l).getLastD []=[] then (cutAt 13 l).dropLast else cutAt 13 l):=hid rfl
    have HDL:Hid ((cutAt 13 l).dropLast=(cutAt 13 l).take m1):=hid (by rw [List.dropLast_eq_take,show (cutAt 13 l).length-1=m1 by omega])
    have HM1:Hid (m1+1=(cutAt 13 l).length):=hid (by have:=HT.out;omega)
    rw [HSL.out] at *
    generalize cutAt 13 l=T at *
    generalize T.getLastD []=x at *
    have ew:IntKind.i64.wrap (m1:Int)=(m1:Int):=by rw [IntKind.wrap_i64];have:=HL.out;omega
    have hlt1:(m1:Int)<(T.length:Int):=by have:=HM1.out;omega
    have hlt2:(m1:Int)≤(cap:Int):=by have:=HM1.out;omega
    clear hrow hB hv hK e3 hSs hSs2 hlast
    by_cases hx:x=[]
    · have dx:x.isEmpty=true:=by rw [hx];rfl
      have HX:=hid hx
      clear hx
      gi_wp2
      have HK2:Hid ((W.setCell ⟨N,0,none⟩ (.slice (some ⟨g,0,none⟩) m1 cap)).heap[D]?=some (.deferred (some []))):=hid ((KeepsOthers.setCell W _ _).same D _ HK.out rfl)
      refine ⟨by simp,.inl ⟨_,_,rfl,run_takeDeferred HK2.out,?_⟩⟩
      have hg2:W.grownBy (W.setCell ⟨N,0,none⟩ (.slice (some ⟨g,0,none⟩) m1 cap)) (some N):=grownBy_setCell' W N _
      have hN:=HN.out
      have hB2:Below N w (W.setCell ⟨N,0,none⟩ (.slice (some ⟨g,0,none⟩) m1 cap)):=HB.out.setCell (p:=⟨N,0,none⟩) (Nat.le_refl _) _
      have hfin:=fun (W2:World) (h2:Below N w W2) (hk:W2.heap[D]?=some (.deferred (some [])))=>h2.trans (belowK_b (w:=W0) (n₀:=N) (by omega) W2 D _ (.deferred none) (by omega) hk rfl rfl)
      have hS3:=OwnS.ss' (show OwnS ((W.setCell ⟨N,0,none⟩ (.slice (some ⟨g,0,none⟩) m1 cap)).putObj D (.deferred none)) N (.slice (some ⟨g,0,none⟩) T.length cap) T from ownsRow_putObj (show OwnS (W.setCell ⟨N,0,none⟩ (.slice (some ⟨g,0,none⟩) m1 cap)) N (.slice (some ⟨g,0,none⟩) T.length cap) T from (HOW.out.kept hg2 (.inr (HV.out.not_row (by decide) HOW.out).symm))) (.deferred none) HK2.out rfl)
      have hsp:splitD l=T.take m1:=by rw [HSP.out,if_pos HX.out,HDL.out]
      have hS4:=hS3.take (k:=m1) (by have:=HM1.out;omega)
      have hl4:(T.take m1).length=m1:=by rw [List.length_take];have:=HM1.out;omega
      refine ⟨_,results_tmp rfl _ _ _,⟨some ⟨g,0,none⟩,cap,?_,?_,?_⟩⟩
      · rw [hsp,hl4];rfl
      · rw [hsp,hl4];exact hS4
      · rw [← hN];exact hfin _ hB2 HK2.out
    · have dx:x.isEmpty=false:=by
        cases x with
        | nil=>exact absurd rfl hx
        | cons=>rfl
      have HX:=hid hx
      clear hx
      gi_wp2
      refine ⟨by simp,.inl ⟨_,_,rfl,run_takeDeferred HK.out,?_⟩⟩
      have hN:=HN.out
      have hsp:splitD l=T:=by rw [HSP.out,if_neg HX.out]
      have hS3:=OwnS.ss' (show OwnS (W.putObj D (.deferred none)) N (.slice (some ⟨g,0,none⟩) T.length cap) T from ownsRow_putObj HOW.out (.deferred none) HK.out rfl)
      refine ⟨_,results_tmp rfl _ _ _,⟨some ⟨g,0,none⟩,cap,?_,?_,?_⟩⟩
      · rw [hsp];rfl
      · rw [hsp];exact hS3
      · rw [← hN];exact HB.out.trans (belowK_b (w:=W0) (by omega) W D _ _ (by omega) HK.out rfl rfl)
  case stop =>
    rintro D c pre W _ _ h _
    exact h.elim
end
end Go.Proofs.YtodjilljcjkacaaGreatDoor
