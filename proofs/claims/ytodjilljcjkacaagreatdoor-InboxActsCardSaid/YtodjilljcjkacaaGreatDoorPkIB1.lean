/- Laid together: Base, Later, HeldMore, Plan, CrcLit, CrcMath, Crc, CrcSeal, EntryMath. -/
import Derived.Test.YtodjilljcjkacaaGreatDoorRows
import Derived.WalkKit
import Derived.IntWalk
import Derived.ProofKit
import Derived.Outline
import Derived.Below
import Derived.Lib.Hide
import Derived.WalkLawsBesides
import Derived.WalkSpells
import Derived.BigQuiet
import Derived.Deep.QuietTactic
import Derived.Deep.Draws
import Derived.Maps.AppendAt
import Derived.Laws.CopyOwn
import Derived.Laws.MakeOwn
import Derived.Laws.BytesArg
import Derived.Shelf.Bytes.SlIndexAt
import Derived.Deep.RegionLaw
import Derived.Deep.RegionHeld3
import Derived.Lib.SlBytesConst
import Derived.Laws.BitsAllLaws
import Derived.RegionTactic
import Derived.BigRegion
import Derived.Deep.RegionWith

namespace Go.Proofs.YtodjilljcjkacaaGreatDoor
open Lib (hid)
section
open Go.RowKit
theorem drawN_below {B:Nat} {a w:World} (h:Below B a w) (n:Nat):Below B a (w.drewN n):=⟨h.os,h.tape,h.output,h.size,h.block⟩
abbrev u8 (x:UInt8):Value:=.int .u8 (x.toNat:Int)
abbrev u8s (l:List UInt8):List Value:=l.map u8
def nums (l:List UInt8):List Int:=l.map fun x=>(x.toNat:Int)
theorem nums_length (l:List UInt8):(nums l).length=l.length:=by simp [nums]
theorem bytesOf_nums (l:List UInt8):Lib.bytesOf (nums l)=l:=by
  unfold Lib.bytesOf nums
  rw [List.map_map]
  conv=>rhs;rw [← List.map_id l]
  exact List.map_congr_left fun x _=>by simp
theorem u8s_one (l:List UInt8):∀ u ∈ u8s l,u.oneCell'=true:=by
  intro u hu
  obtain ⟨x,_,rfl⟩:=List.mem_map.1 hu
  rfl
theorem u8s_get {l:List UInt8} {j:Nat} {u:Value} (h:(u8s l)[j]?=some u):∃ x,l[j]?=some x∧u=u8 x:=by
  rw [List.getElem?_map] at h
  cases hx:l[j]? with
  | none=>rw [hx] at h;cases h
  | some x=>rw [hx] at h;exact ⟨x,rfl,(Option.some.inj h).symm⟩
def Bs (w:World) (A:Option Addr) (n c:Nat) (l:List UInt8):Prop :=
  l.length=n∧n≤c∧c≤maxLen∧(0<n→∃ b o,A=some ⟨b,o,none⟩∧∀ i x,l[i]?=some x→w.cell? ⟨b,o+i,none⟩=some (u8 x))
section
variable {w w':World} {A:Option Addr} {n c:Nat} {l:List UInt8}
theorem Bs.len (h:Bs w A n c l):l.length=n:=h.1
theorem Bs.le (h:Bs w A n c l):n≤c:=h.2.1
theorem Bs.max (h:Bs w A n c l):c≤9223372036854775807:=by have:=h.2.2.1;simpa only [maxLen] using this
theorem Bs.nmax (h:Bs w A n c l):n≤9223372036854775807:=Nat.le_trans h.le h.max
theorem Bs.at_ (h:Bs w A n c l) (hn:0<n):∃ b o,A=some ⟨b,o,none⟩∧b<w.heap.size∧∀ i x,l[i]?=some x→w.cell? ⟨b,o+i,none⟩=some (u8 x):=by
  obtain ⟨b,o,e,hc⟩:=h.2.2.2 hn
  have hl:0<l.length:=by rw [h.1];exact hn
  exact ⟨b,o,e,World.block_lt_of_cell? w _ (hc 0 _ (List.getElem?_eq_getElem hl)),hc⟩
theorem Bs.below (h:Bs w A n c l) (hb:Below w.heap.size w w'):Bs w' A n c l :=
  ⟨h.1,h.2.1,h.2.2.1,fun hn=>by
    obtain ⟨b,o,e,hlt,hc⟩:=h.at_ hn
    exact ⟨b,o,e,fun i x hx=>(hb.cell (p:=⟨b,o+i,none⟩) hlt).trans (hc i x hx)⟩⟩
theorem Bs.alloc (h:Bs w A n c l) (o:Obj):Bs (w.alloc o) A n c l:=h.below ((Below.refl _ _).alloc (Nat.le_refl _) o)
theorem Bs.drew (h:Bs w A n c l):Bs w.drew A n c l:=h
theorem Bs.drewN (h:Bs w A n c l) (k:Nat):Bs (w.drewN k) A n c l:=by
  refine ⟨h.1,h.2.1,h.2.2.1,fun hn=>?_⟩
  obtain ⟨b,o,e,_,hc⟩:=h.at_ hn
  exact ⟨b,o,e,fun i x hx=>by have:=hc i x hx;simpa using this⟩
theorem Bs.nil (w:World) (c:Nat) (A:Option Addr) (hc:c≤maxLen):Bs w A 0 c []:=⟨rfl,Nat.zero_le _,hc,fun h=>absurd h (by omega)⟩
theorem Bs.none_ (w:World):Bs w none 0 0 []:=Bs.nil w 0 none (by simp [maxLen])
theorem Bs.empty (h:Bs w A 0 c l):l=[]:=List.eq_nil_of_length_eq_zero h.1
theorem Bs.of_block {g:Nat} {t:TypeId} {f:Nat × Nat} {cur:List Value} (hg:w.heap[g]?=some (.cells cur.toArray t f)) (hcur:cur.take l.length=u8s l) (hn:l.length=n) (hnc:n≤c) (hc:c≤maxLen) :
    Bs w (some ⟨g,0,none⟩) n c l:=by
  subst hn
  refine ⟨rfl,hnc,hc,fun _=>⟨g,0,rfl,fun i x hx=>?_⟩⟩
  rw [Nat.zero_add,cell_of_row w g i cur.toArray t f hg]
  have h1:(u8s l)[i]?=some (u8 x):=by simp [u8s,hx]
  rw [← hcur,List.getElem?_take] at h1
  split at h1
  · simpa using h1
  · cases h1
theorem Bs.lit (w:World) (l:List UInt8) (t:TypeId) (C:Array Value) (g:Nat) (hg:g=w.heap.size) (hC:C=(u8s l).toArray) (hn:n=l.length) (hl:l.length≤maxLen):Bs (w.alloc (.cells C t)) (some ⟨g,0,none⟩) n n l:=by
  subst hg hC hn
  exact Bs.of_block (heap_alloc_new w _) (by rw [List.take_of_length_le (by simp)]) rfl (Nat.le_refl _) hl
theorem Bs.cut (h:Bs w A n c l) {i j:Nat} (hij:i≤j) (hj:j≤n):Bs w (if c=i then A else A.map (·.add i)) (j-i) (c-i) ((l.take j).drop i):=by
  refine ⟨by rw [List.length_drop,List.length_take,h.1];omega,by have:=h.le;omega,Nat.le_trans (Nat.sub_le _ _) h.2.2.1,fun hn=>?_⟩
  obtain ⟨b,o,rfl,hc⟩:=h.2.2.2 (by omega)
  have:=h.le
  rw [if_neg (by omega)]
  refine ⟨b,o+i,by simp [Addr.add_lit],fun k x hx=>?_⟩
  rw [Nat.add_assoc]
  refine hc _ x ?_
  rw [← hx,List.getElem?_drop,List.getElem?_take]
  split
  · rfl
  · rw [List.getElem?_drop,List.getElem?_take,if_neg (by assumption)] at hx;cases hx
theorem Bs.cells (h:Bs w A n c l) (hn:0<n):∃ b o,A=some ⟨b,o,none⟩∧∀ i,i<n→w.cell? ⟨b,o+i,none⟩=some (.int .u8 ((nums l).getD i 0)):=by
  obtain ⟨b,o,rfl,hc⟩:=h.2.2.2 hn
  refine ⟨b,o,rfl,fun i hi=>?_⟩
  have hl:i<l.length:=by rw [h.1];exact hi
  rw [hc i _ (List.getElem?_eq_getElem hl)]
  simp [nums,hl]
end
abbrev txt (l:List UInt8):ByteArray:=⟨l.toArray⟩
theorem strOfNums_nums (l:List UInt8):strOfNums (nums l)=txt l:=by
  apply ByteArray.ext
  apply Array.toList_inj.1
  have:=bytesOf_nums l
  unfold Lib.bytesOf at this
  simpa [strOfNums] using this
section
variable {P:Program} {w:World} {A:Option Addr} {n c:Nat} {l:List UInt8}
theorem Bs.str (h:Bs w A n c l) (src e dst:TypeId) (hs:P.underlying src=some (.slice e)) (he:P.underlying e=some (.int .u8)) (hd:P.underlying dst=some .string) :
    (convert src dst (.slice A n c)).run P w=.ok (.string (txt l)) w:=by
  rcases Nat.eq_zero_or_pos n with h0|h0
  · subst h0
    obtain rfl:=h.empty
    rcases A with _|a
    · exact run_convert_bytes_nil (P:=P) w src e hs he 0 c dst hd
    · rw [run_convert_bytes_string w src dst e _ 0 c hs he hd]
      simp [Conv.bytesToString,loadCells]
      rfl
  · obtain ⟨b,o,rfl,hc⟩:=h.cells h0
    rw [run_convert_bytes_arg w src e hs he b o n c (nums l) (by rw [nums_length,h.1]) hc dst hd,strOfNums_nums]
end
def Own (E:TypeId) (w:World) (base:Nat) (v:Value) (l:List UInt8):Prop:=w.ownsRow base E 1 v l.length (u8s l)
section
variable {E:TypeId} {w w':World} {base:Nat} {v:Value} {l:List UInt8}
theorem Own.alloc (h:Own E w base v l) (o:Obj):Own E (w.alloc o) base v l:=World.ownsRow.alloc h o
theorem Own.nil (E:TypeId) (w:World) (base:Nat):Own E w base (.slice none 0 0) []:=World.ownsRow_nil w base E 1
theorem Own.made (E:TypeId) (w:World) (cur:Array Value) (cap:Nat) (hb:base≤w.heap.size) (hm:cap≤maxLen) (hs:cur.size=cap) :
    Own E (w.alloc (.cells cur E)) base (.slice (some ⟨w.heap.size,0,none⟩) 0 cap) []:=World.ownsRow_made w cur cap hb hm (by omega)
theorem Own.lit (E:TypeId) (w:World) (l:List UInt8) (hb:base≤w.heap.size) (hm:l.length≤maxLen) :
    Own E (w.alloc (.cells (u8s l).toArray E)) base (.slice (some ⟨w.heap.size,0,none⟩) l.length l.length) l :=
  ⟨by simp,.inr ⟨w.heap.size,l.length,(u8s l).toArray,rfl,hb,heap_alloc_new w _,Nat.le_refl _,hm,by simp,by rw [Nat.mul_one];exact List.take_of_length_le (by simp)⟩⟩
theorem Own.below (h:Own E w base v l) (hb:Below w.heap.size w w'):Own E w' base v l:=by
  refine ⟨h.1,?_⟩
  rcases h.2 with hn|⟨g,cap,cur,e,h1,h2,h3⟩
  · exact .inl hn
  · exact .inr ⟨g,cap,cur,e,h1,(hb.block g (Array.getElem?_eq_some_iff.1 h2).1).trans h2,h3⟩
theorem Own.bs (h:Own E w base v l):∃ A c,v=.slice A l.length c∧Bs w A l.length c l∧∀ b,A=some b→base≤b.block:=by
  rcases h.2 with ⟨rfl,h0⟩|⟨g,cap,cur,rfl,h1,h2,h3,h4,_,h6⟩
  · have:l=[]:=List.eq_nil_of_length_eq_zero h0
    subst this
    exact ⟨none,0,rfl,Bs.none_ w,fun _ hb=>by cases hb⟩
  · refine ⟨_,cap,rfl,Bs.of_block (cur:=cur.toList) (f:=(0,0)) (t:=E) (by simpa using h2) (by simpa using h6) rfl h3 h4,fun b hb=>?_⟩
    injection hb with hb
    subst hb
    exact h1
end
section
variable {P:Program} {w:World}
theorem run_app (base:Nat) (t ty e:TypeId) (ht:P.underlying t=some (.slice e)) (hi:(P.info? e).map (fun i=>(i.zero,i.size,i.bytes))=some (some (.int .u8 0),1,1))
    (v:Value) (xs:List UInt8) (hown:Own e w base v xs) (A:Option Addr) (m c:Nat) (l:List UInt8) (hl:Bs w A m c l) (hbytes:xs.length+m≤140737488355328) (hbase:base≤w.heap.size) :
    ∃ v' w',(Builtin.append_ #[t,t] ty #[v,.slice A m c]).run P w=.ok v' w'∧Own e w' base v' (xs++l)∧Below base w w'∧w.grownBy w' v.ownBlock:=by
  obtain ⟨i,hi,hzz⟩:=Option.map_eq_some_iff.1 hi
  simp only [Prod.mk.injEq] at hzz
  obtain ⟨hz,hsz,hby⟩:=hzz
  have hlen:=hl.len
  rcases A with _|a
  · have hm:m=0:=by
      rcases Nat.eq_zero_or_pos m with h|h
      · exact h
      · obtain ⟨b,o,e,_⟩:=hl.2.2.2 h
        cases e
    subst hm
    obtain rfl:=hl.empty
    refine ⟨v,w,?_,by simpa using hown,Below.refl _ _,World.grownBy.refl w _⟩
    rcases hown.2 with ⟨rfl,_⟩|⟨g,cap,cur,rfl,_,_,hnc,_⟩
    · simp [Builtin.append_,run_underlying ht,sizeOf,typeInfo,hi,Builtin.lenOf,Builtin.firstCells]
    · simp [Builtin.append_,run_underlying ht,sizeOf,typeInfo,hi,Builtin.lenOf,Builtin.firstCells,hnc,storeCells]
  · obtain ⟨v',w',hrun,h2,h3,_,_⟩:=run_append_own_at (P:=P) w base t ty e i (.int .u8 0) 1 1 ht hi hz hsz hby rfl (by omega) v xs.length (u8s xs) hown a m c (u8s l) (by simp [hlen])
      (fun j u hu=>by
        obtain ⟨x,hx,rfl⟩:=u8s_get hu
        have hm:0<m:=by have:=(List.getElem?_eq_some_iff.1 hx).1;omega
        obtain ⟨b,o,e,_,hc⟩:=hl.at_ hm
        injection e with e
        subst e
        rw [Addr.add_lit]
        exact hc j x hx) (u8s_one l) (by simp only [maxLen];omega) (by omega) hbase
    refine ⟨v',w',hrun,?_,(Below.refl _ _).grown h3 hbase fun k hk=>(World.ownsRow.lt hown k hk).1,h3⟩
    unfold Own
    rw [List.length_append,hlen]
    simpa using h2
theorem wpList_app {ops:Array Oper} {rest:List Oper} {o:Oper} {a:Act} {Q:Exit→Act→World→Prop} (hgd:o.guard=none) (s x:Operand) (t:TypeId)
    (ho:o.op=.call { callee:=.builtin .append,args:=#[s,x],argTypes:=#[t,t] }) (base:Nat) (e:TypeId) (ht:P.underlying t=some (.slice e)) (hi:(P.info? e).map (fun i=>(i.zero,i.size,i.bytes))=some (some (.int .u8 0),1,1))
    (v:Value) (xs:List UInt8) (hs:a.eval s=v) (hown:Own e w base v xs) (A:Option Addr) (m c:Nat) (l:List UInt8) (hx:a.eval x=.slice A m c) (hl:Bs w A m c l) (hbytes:xs.length+m≤140737488355328) (hbase:base≤w.heap.size)
    (h:∀ v' w',Own e w' base v' (xs++l)→Below base w w'→w.grownBy w' v.ownBlock→wpList P ops Q rest (a.put o.dst v') w'):wpList P ops Q (o :: rest) a w :=
  wpList_plain hgd fun K hK=>by
    obtain ⟨v',w',hrun,h2,h3,h4⟩:=run_app (P:=P) base t o.type e ht hi v xs hown A m c l hl hbytes hbase
    unfold Oper.wp execOp
    simp only [ho,resolve,invoke,builtin,Sem.run_bind,Sem.run_pure,Result.andThen_ok,List.map_toArray,List.map_cons,List.map_nil,hs,hx,hrun]
    exact hK _ _ (h v' w' h2 h3 h4)
end
section
variable {P:Program}
theorem run_mk (t e:TypeId) (ht:P.underlying t=some (.slice e)) (hi:(P.info? e).map (fun i=>(i.zero,i.size,i.bytes))=some (some (.int .u8 0),1,1)) (k c:Nat) (hk:k≤c) (hc:c≤140737488355328) (w:World) :
    (Instr.makeSlice t (.int .i64 (k:Int)) (.int .i64 (c:Int))).run P w=.ok (.slice (some ⟨w.heap.size,0,none⟩) k c) (w.alloc (.cells (Array.replicate c (.int .u8 0)) e)):=by
  obtain ⟨i,hi,hzz⟩:=Option.map_eq_some_iff.1 hi
  simp only [Prod.mk.injEq] at hzz
  obtain ⟨hz,hsz,hby⟩:=hzz
  have hr:=run_make (P:=P) w t e i (.int .u8 0) ht hi hz .i64 .i64 (k:Int) (c:Int) (by omega) (by omega) (by rw [hby];omega) (by omega)
  simp only [Int.toNat_natCast,hsz,Nat.mul_one] at hr
  rw [hr]
  congr 2
  congr 1
  apply Array.toList_inj.1
  simp only [madeCells,Array.toList_map,Array.toList_range,Array.toList_replicate]
  apply List.ext_getElem (by simp)
  intro j h1 h2
  simp [Value.cells,Nat.mod_one]
end
section
variable {P:Program} {w:World}
end
section
variable {E:TypeId} {w w':World} {base:Nat} {v:Value} {l:List UInt8}
end
end
section
open Go.RowKit
theorem byteInfo:(Tryz.prog.info? 5).map (fun i=>(i.zero,i.size,i.bytes))=some (some (.int .u8 0),1,1):=by kernel_rfl
structure Later (w:World) where
  u:World
  h:Below w.heap.size w u
instance (w:World):Nonempty (Later w):=⟨⟨w,Below.refl _ _⟩⟩
theorem region_later {P:Program} {id:Nat} {Q:Exit→Act→World→Prop} {a:Act} {w:World} {l:List Oper} (hm:P.follows .mixedOrders=true) (hB:Region.lexB .any l.toArray=true)
    (h:wpQuiet P l.toArray (fun w'=>∃ n:Later w,w'=n.u) (fun a'=>∀ n:Later w,Q .normal a' n.u) l a):(Code.region id l.toArray true).wp P Q a w :=
  wp_region_quiet (C:=fun w'=>∃ n:Later w,w'=n.u) hm hB ⟨⟨{ w with drawn:=w.drawn+1 },⟨rfl,rfl,rfl,Nat.le_refl _,fun _ _=>rfl⟩⟩,rfl⟩ (by
    have e:(fun a'=>∀ w',(∃ n:Later w,w'=n.u)→Q .normal a' w')=fun a'=>∀ n:Later w,Q .normal a' n.u :=
      funext fun a'=>propext ⟨fun h n=>h _ ⟨n,rfl⟩,fun h w' ⟨n,e⟩=>e ▸ h n⟩
    rw [e]
    simpa using h)
theorem Calls.later {P:Program} {f:FuncId} {args:Array Value} {w:World} {n:Later w} {v:Value}
    (h:Calls P f args n.u fun e w'=>e=.returned v∧Below n.u.heap.size n.u w'):Calls P f args n.u fun e w''=>e=.returned v∧∃ m:Later w,w''=m.u :=
  h.mono fun _ w' ⟨he,hb⟩=>⟨he,⟨w',n.h.trans (hb.mono n.h.size)⟩,rfl⟩
theorem Calls.later_same {P:Program} {f:FuncId} {args:Array Value} {w:World} {n:Later w} {v:Value}
    (h:Calls P f args n.u fun e w'=>e=.returned v∧n.u=w'):Calls P f args n.u fun e w''=>e=.returned v∧∃ m:Later w,w''=m.u :=
  h.mono fun _ _ ⟨he,hb⟩=>⟨he,n,hb.symm⟩
theorem Later.bs {w:World} (n:Later w) {A:Option Addr} {k c:Nat} {l:List UInt8} (h:Bs w A k c l):Bs n.u A k c l:=h.below n.h
theorem Bs.take {w:World} {A:Option Addr} {n c:Nat} {l:List UInt8} (h:Bs w A n c l) {j:Nat} (hj:j≤n):Bs w A j c (l.take j) :=
  ⟨by rw [List.length_take,h.1];omega,Nat.le_trans hj h.le,h.2.2.1,fun h0=>by
    obtain ⟨b,o,e,hc⟩:=h.2.2.2 (by omega)
    refine ⟨b,o,e,fun i x hx=>hc i x ?_⟩
    rw [List.getElem?_take] at hx
    split at hx
    · exact hx
    · cases hx⟩
theorem Bs.block {w:World} {g n:Nat} {t:TypeId} {f:Nat × Nat} {l:List UInt8} (h:w.heap[g]?=some (.cells (u8s l).toArray t f)) (hn:l.length=n) (hm:n≤maxLen):Bs w (some ⟨g,0,none⟩) n n l :=
  Bs.of_block h (by rw [List.take_of_length_le (by simp)]) hn (Nat.le_refl _) hm
theorem wpList_cpyTo {P:Program} {w:World} {ops:Array Oper} {rest:List Oper} {o:Oper} {a:Act} {Q:Exit→Act→World→Prop} (hgd:o.guard=none) (d s:Operand) (dT sT:TypeId)
    (ho:o.op=.call { callee:=.builtin .copy,args:=#[d,s],argTypes:=#[dT,sT] }) (e:TypeId) (hu:P.underlying dT=some (.slice e)) (hi:(P.info? e).map (fun i=>(i.zero,i.size,i.bytes))=some (some (.int .u8 0),1,1))
    (g off m cap:Nat) (D:Option Addr) (hd:a.eval d=.slice D m cap) (cur:List UInt8) (t:TypeId) (hg:w.heap[g]?=some (.cells (u8s cur).toArray t (0,0)))
    (A:Option Addr) (n' n c:Nat) (l:List UInt8) (hs:a.eval s=.slice A n' c) (hB:Bs w A n c l) (hD:0<n→D=some ⟨g,off,none⟩) (hn:n=min n' m) (hcur:off+n≤cur.length)
    (h:∀ w',Hid (w'.heap[g]?=some (.cells (u8s (cur.take off++(l++cur.drop (off+n)))).toArray t (0,0)))→Below g w w'→wpList P ops Q rest (a.put o.dst (.int .i64 (n:Int))) w'):wpList P ops Q (o :: rest) a w:=by
  have hl:=hB.len
  refine wpList_copy_splice hgd d s dT sT ho e hu (by obtain ⟨i,hi,hzz⟩:=Option.map_eq_some_iff.1 hi;simp only [Prod.mk.injEq] at hzz;rw [hi];simp [hzz.2.1]) D A m cap n' c hd hs g off (u8s cur) t hg (u8s l) (by simp only [List.length_map,hl];exact hn)
    (fun hp=>?_) (by simp [hl];exact hcur) (u8s_one l) g w (Below.refl _ _) (Nat.le_refl _) (fun w' hw' hb=>?_)
  · have h0:0<n:=by simpa [hl] using hp
    obtain ⟨b,o',rfl,_,hc⟩:=hB.at_ h0
    refine ⟨hD h0,_,rfl,fun j v hj=>?_⟩
    obtain ⟨x,hx,rfl⟩:=u8s_get hj
    rw [Addr.add_lit]
    exact hc j x hx
  · have hsp:splice (u8s cur) off (u8s l)=u8s (cur.take off++(l++cur.drop (off+n))):=by
      unfold splice
      simp [u8s,hl]
    have hh:=hw'.out
    rw [hsp] at hh
    have:=h w' (hid hh) hb
    simpa [hl,goInt] using this
theorem zero_cells (r:Nat):Array.replicate r (Value.int .u8 0)=(u8s (List.replicate r 0)).toArray:=by simp [u8s]
theorem mk_zeros (x:Int) (k:Nat) (hx:x=(k:Int)) (hk:k≤140737488355328):∃ Z:List UInt8,Hid (Z=List.replicate k 0)∧Z.length=k∧∀ w:World,(Instr.makeSlice 40 (.int .i64 x) (.int .i64 x)).run Tryz.prog w=.ok (.slice (some ⟨w.heap.size,0,none⟩) k k) (w.alloc (.cells (u8s Z).toArray 5)):=by
  subst hx
  refine ⟨List.replicate k 0,hid rfl,by simp,fun w=>?_⟩
  rw [← zero_cells]
  exact run_mk 40 5 Tryz.underlying40 byteInfo k k (Nat.le_refl _) (by omega) w
theorem Calls.quiet_sym {P:Program} {f:FuncId} {args:Array Value} {w:World} {n:Nat} {v:Value}
    (h:Calls P f args (w.drewN n) fun e w'=>e=.returned v∧w.drewN n=w'):Calls P f args (w.drewN n) fun e w''=>e=.returned v∧∃ m,w''=w.drewN m :=
  h.mono fun _ _ ⟨he,hm⟩=>⟨he,n,hm.symm⟩
theorem Bs.drop {w:World} {A:Option Addr} {n c:Nat} {l:List UInt8} (h:Bs w A n c l) {i:Nat} (hi:i≤n):Bs w (if c=i then A else A.map (·.add i)) (n-i) (c-i) (l.drop i):=by
  have:=h.cut (i:=i) (j:=n) hi (Nat.le_refl _)
  rwa [List.take_of_length_le (by rw [h.len];exact Nat.le_refl _)] at this
def True_ (w:World) (e:Ending) (w':World):Prop:=e=.returned (.bool true)∧Below w.heap.size w w'
end
section
open Go.RowKit
theorem wpAnyH_imp {P:Program} {md:Region.Mode} {ops:Array Oper} {Q:Exit→Act→World→Prop} {S S':World→Prop} (h:∀ w,S' w→S w):∀ (fuel:Nat) (listed:Array Bool) (a:Act) (w:World),wpAnyH P md ops Q S' fuel listed a w→wpAnyH P md ops Q S fuel listed a w
  | 0,_,_,_,hh=>hh
  | fuel+1,_,_,_,hh=>⟨hh.1,fun i hi=>wpOp_mono (fun a' w' h'=>⟨h _ h'.1,wpAnyH_imp h fuel _ a' w' h'.2⟩) (hh.2 i hi)⟩
end
section
open Go.RowKit
structure Meets (S:World→Prop) where
  u:World
  h:S u
def isV:Op→Bool
  | .move _ | .assign _ | .pick .. | .load .. | .nilCheck _ | .binOp .. | .unOp .. | .convert .. | .fieldAddr .. | .indexAddr .. | .index .. | .field .. | .extract .. | .slice .. | .makeInterface ..=>true
  | .call c=>match c.callee with
    | .builtin .len=>true
    | .builtin .max=>true
    | .builtin .min=>true
    | _=>false
  | _=>false
def IsVal (s:Sem Next):Prop:=∀ P w n w',s.run P w=.ok n w'→∃ u,n=.value u
theorem IsVal.pure (v:Value):IsVal (pure (.value v)):=fun P w n w' h=>by simp at h;exact ⟨_,h.1.symm⟩
theorem IsVal.bind {α:Type} {s:Sem α} {k:α→Sem Next} (hk:∀ x,IsVal (k x)):IsVal (s >>= k):=fun P w n w' h=>by
  simp only [Sem.run_bind] at h
  cases hs:s.run P w with
  | ok u w1=>rw [hs] at h;exact hk u P w1 n w' h
  | halt x w1=>rw [hs] at h;simp [Result.andThen] at h
theorem IsVal.nil:IsVal (runtimePanic .nilDeref):=fun P w n w' h=>by simp [runtimePanic,goPanic] at h
theorem isV_value {o:Oper} {f:Operand→Value} (h:isV o.op=true):IsVal (execOp f o):=by
  unfold execOp
  cases ho:o.op <;> rw [ho] at h <;> simp only [isV] at h <;> try cases h
  all_goals first
    | exact IsVal.pure _
    | exact IsVal.bind (fun _=>IsVal.pure _)
    | skip
  · dsimp only
    split
    all_goals first
      | exact IsVal.pure _
      | exact IsVal.nil
      | skip
    split
    · exact IsVal.nil
    · refine IsVal.bind (fun _=>IsVal.bind (fun _=>?_))
      split
      · exact IsVal.bind (fun _=>IsVal.pure _)
      · exact IsVal.pure _
    · exact IsVal.pure _
  · rename_i c
    dsimp only
    have hr:∀ b,c.callee=.builtin b→resolve f c o.type=pure { target:=.builtin b c.argTypes o.type (c.args.map fun | .const _=>true | _=>false),args:=c.args.map f }:=fun b hb=>by
      unfold resolve
      rw [hb]
      rfl
    split at h
    · rename_i hb
      rw [hr _ hb]
      simp only [pure_bind,invoke,builtin]
      exact IsVal.bind (fun _=>IsVal.pure _)
    · rename_i hb
      rw [hr _ hb]
      simp only [pure_bind,invoke,builtin]
      exact IsVal.bind (fun _=>IsVal.pure _)
    · rename_i hb
      rw [hr _ hb]
      simp only [pure_bind,invoke,builtin]
      exact IsVal.bind (fun _=>IsVal.pure _)
    · cases h
def pick (l:List Oper):List Nat→List Oper
  | []=>[]
  | i :: r=>match l[i]? with
    | some o=>o :: pick l r
    | none=>pick l r
def setAll (listed:Array Bool):List Nat→Array Bool
  | []=>listed
  | i :: r=>setAll (listed.setIfInBounds i true) r
def takesB (ops:Array Oper) (listed:Array Bool):List Nat→Bool
  | []=>true
  | i :: r=>((ops[i]?).map (fun o=>isV o.op)).getD false && Region.free .any ops listed i && (Region.ready .any ops listed).contains i && takesB ops (listed.setIfInBounds i true) r
def planB (ops:Array Oper) (listed:Array Bool):List (List Nat × Nat)→List Nat→Bool
  | [],last=>takesB ops listed last && (Region.ready .any ops (setAll listed last) == [])
  | (qs,i) :: r,last=>takesB ops listed qs && (Region.ready .any ops (setAll listed qs) == [i]) && planB ops ((setAll listed qs).setIfInBounds i true) r last
def planN:List (List Nat × Nat)→List Nat→Nat
  | [],last=>last.length
  | (qs,_) :: r,last=>(planN r last+1)+qs.length
section
variable {P:Program} {l:List Oper} {Q:Exit→Act→World→Prop} {S:World→Prop}
abbrev InS (S:World→Prop):World→Prop:=fun w=>∃ m:Meets S,w=m.u
theorem takes (hs:Region.noSelect l.toArray=true) (hQ:∀ c a d v w,Q (.panic c) (a.put (some d) v) w→Q (.panic c) a w) :
    ∀ (qs:List Nat) (fuel:Nat) (listed:Array Bool) (a:Act) (w:World),takesB l.toArray listed qs=true→S w →
      wpQuiet P l.toArray (InS S) (fun a'=>wpAnyH P .any l.toArray Q S fuel (setAll listed qs) a' w) (pick l qs) a→wpAnyH P .any l.toArray Q S (fuel+qs.length) listed a w
  | [],fuel,listed,a,w,_,_,h=>h
  | i :: r,fuel,listed,a,w,hB,hS,h=>by
    simp only [takesB,Bool.and_eq_true,List.getElem?_toArray] at hB
    obtain ⟨⟨⟨h1,h2⟩,h3⟩,h4⟩:=hB
    cases ho:l[i]? with
    | none=>rw [ho] at h1;cases h1
    | some o =>
      rw [ho] at h1
      have hv:isV o.op=true:=h1
      have hp:pick l (i :: r)=o :: pick l r:=by simp only [pick,ho]
      rw [hp] at h
      unfold wpQuiet at h
      have hq:∀ v c a w,Q (.panic c) (a.put o.dst v) w→Q (.panic c) a w:=fun v c a w=>by
        cases o.dst with
        | none=>exact id
        | some d=>exact hQ c a d v w
      have hi:l.toArray[i]?=some o:=by rw [List.getElem?_toArray];exact ho
      have ih:=takes hs hQ r fuel (listed.setIfInBounds i true)
      by_cases hw:Region.wanted o (yielded l.toArray a.tmps)=true
      · rw [if_pos hw] at h
        obtain ⟨v,hy,hk⟩:=h
        refine wpAnyH_take (v:=v) hi hs h2 h3 (hq v) (.inl ⟨hw,fun W hW=>?_⟩) hS (ih _ w h4 hS hk)
        have:=hy W ⟨⟨W,hW⟩,rfl⟩
        unfold Oper.quietAt at this
        cases hr:(execOp a.eval o).run P W with
        | ok n w' =>
          obtain ⟨u,rfl⟩:=isV_value hv P W n w' hr
          rw [hr] at this
          obtain ⟨rfl,rfl⟩:=this
          rfl
        | halt x w'=>rw [hr] at this;cases this
      · rw [if_neg hw] at h
        exact wpAnyH_take (v:=undef) hi hs h2 h3 (hq undef) (.inr ⟨by simpa using hw,rfl⟩) hS (ih _ w h4 hS h)
def wpPlan (P:Program) (l:List Oper) (Q:Exit→Act→World→Prop) (S:World→Prop):List (List Nat × Nat)→List Nat→Act→World→Prop
  | [],last,a,w=>wpQuiet P l.toArray (InS S) (fun a'=>Q .normal a' w) (pick l last) a
  | (qs,i) :: r,last,a,w=>wpQuiet P l.toArray (InS S) (fun a'=>∀ K:Act→World→Prop,Shut (∀ a w,S w→(S w→wpPlan P l Q S r last a w)→K a w) →
      (l[i]?).elim False fun o=>if Region.wanted o (yielded l.toArray a'.tmps)=true then Oper.wp P o a' w K Q else K (a'.put o.dst undef) w) (pick l qs) a
theorem wpQuiet_mono {ops:Array Oper} {C:World→Prop} {A B:Act→Prop} (h:∀ a,A a→B a):∀ (os:List Oper) (a:Act),wpQuiet P ops C A os a→wpQuiet P ops C B os a
  | [],a,k=>h a k
  | o :: r,a,k=>by
    unfold wpQuiet at k ⊢
    split
    · rename_i hw
      rw [if_pos hw] at k
      obtain ⟨v,h1,h2⟩:=k
      exact ⟨v,h1,wpQuiet_mono h r _ h2⟩
    · rename_i hw
      rw [if_neg hw] at k
      exact wpQuiet_mono h r _ k
theorem plan_any (hs:Region.noSelect l.toArray=true) (hQ:∀ c a d v w,Q (.panic c) (a.put (some d) v) w→Q (.panic c) a w) :
    ∀ (r:List (List Nat × Nat)) (last:List Nat) (listed:Array Bool) (a:Act) (w:World),planB l.toArray listed r last=true→S w→wpPlan P l Q S r last a w→wpAnyH P .any l.toArray Q S (planN r last) listed a w
  | [],last,listed,a,w,hB,hS,h=>by
    simp only [planB,Bool.and_eq_true,beq_iff_eq] at hB
    have:=takes (P:=P) hs hQ last 0 listed a w hB.1 hS (wpQuiet_mono (fun a' ha=>wpAnyH_done hB.2 ha 0) _ _ h)
    simpa [planN] using this
  | (qs,i) :: r,last,listed,a,w,hB,hS,h=>by
    simp only [planB,Bool.and_eq_true,beq_iff_eq] at hB
    refine takes (P:=P) hs hQ qs (planN r last+1) listed a w hB.1.1 hS (wpQuiet_mono (fun a' ha=>?_) _ _ h)
    refine wpAnyH_ready hB.1.2 (by simp) (fun j hj=>?_)
    rw [List.mem_singleton.1 hj]
    have h1:=fun K hK=>ha K hK
    cases ho:l[i]? with
    | none =>
      rw [ho] at h1
      exact (h1 (fun _ _=>True) (fun _ _ _ _=>trivial)).elim
    | some o =>
      rw [ho] at h1
      exact wpOp_step (by rw [List.getElem?_toArray];exact ho) (fun K hK=>h1 K (fun a w hS hW=>hK a w ⟨hS,plan_any hs hQ r last _ a w hB.2 hS (hW hS)⟩))
theorem region_plan {id:Nat} {a:Act} {w:World} (S:World→Prop) (r:List (List Nat × Nat)) (last:List Nat) (hm:P.follows .mixedOrders=true)
    (hB:(Region.noSelect l.toArray && planB l.toArray (Array.replicate l.length false) r last && (planN r last == l.length))=true) (hQ:∀ c a d v w,Q (.panic c) (a.put (some d) v) w→Q (.panic c) a w) (hS:S w.drew)
    (h:Nonempty (Meets S)→wpPlan P l Q S r last a w.drew):(Code.region id l.toArray true).wp P Q a w:=by
  simp only [Bool.and_eq_true,beq_iff_eq] at hB
  refine wp_region_held_drew (S:=S) hm hS (fun _=>?_)
  have:=plan_any (P:=P) hB.1.1 hQ r last (Array.replicate l.length false) a w.drew hB.1.2 hS (h ⟨⟨_,hS⟩⟩)
  rw [hB.2] at this
  simpa using this
end
end
section
open Go.RowKit
theorem Bs.litText (w:World) (l:List UInt8) (t:TypeId) (C:Array Value) (g n:Nat) (f:Nat × Nat) (hg:g=w.heap.size) (hC:C=(u8s l).toArray) (hn:n=l.length) (hl:l.length≤maxLen):Bs (w.alloc (.cells C t f)) (some ⟨g,0,none⟩) n n l:=by
  subst hg hC hn
  exact Bs.of_block (f:=f) (t:=t) (cur:=u8s l) (by show (w.heap.push _)[w.heap.size]?=_;simp) (by rw [List.take_of_length_le (by simp)]) rfl (Nat.le_refl _) hl
end
namespace Crc
def step (x:Nat):Nat:=if x % 2=1 then 3988292384 ^^^ (x / 2) else x / 2
def it:Nat→Nat→Nat
  | 0,x=>x
  | n+1,x=>it n (step x)
def row (i:Nat):Nat:=it 8 i
def upd (x:Nat) (l:List UInt8):Nat:=l.foldl (fun x c=>row ((x % 256) ^^^ c.toNat) ^^^ (x / 256)) x
def sum (s:Nat) (l:List UInt8):Nat:=4294967295 ^^^ upd (4294967295 ^^^ s) l
theorem it_add (n m:Nat):∀ x,it (n+m) x=it m (it n x):=by
  induction n with
  | zero=>intro x;rw [Nat.zero_add];rfl
  | succ n ih=>intro x;rw [Nat.succ_add];exact ih (step x)
theorem step_lt {x:Nat} (h:x<4294967296):step x<4294967296:=by
  unfold step
  split
  · exact Nat.xor_lt_two_pow (n:=32) (by omega) (by omega)
  · omega
theorem it_lt (n:Nat):∀ {x:Nat},x<4294967296→it n x<4294967296:=by
  induction n with
  | zero=>intro x h;exact h
  | succ n ih=>intro x h;exact ih (step_lt h)
theorem upd_append (x:Nat) (a b:List UInt8):upd x (a++b)=upd (upd x a) b:=List.foldl_append ..
theorem upd_snoc (x:Nat) (a:List UInt8) (c:UInt8):upd x (a++[c])=row (((upd x a) % 256) ^^^ c.toNat) ^^^ ((upd x a) / 256):=by rw [upd_append];rfl
theorem row_lt {x:Nat} (h:x<4294967296):row x<4294967296:=it_lt 8 h
theorem upd_lt (l:List UInt8):∀ {x:Nat},x<4294967296→upd x l<4294967296:=by
  induction l with
  | nil=>intro x h;exact h
  | cons c l ih =>
    intro x h
    have:=c.toNat_lt
    refine ih (Nat.xor_lt_two_pow (n:=32) (row_lt (Nat.xor_lt_two_pow (n:=32) (by omega) (by omega))) (by omega))
theorem sum_lt {s:Nat} (l:List UInt8) (h:s<4294967296):sum s l<4294967296 :=
  Nat.xor_lt_two_pow (n:=32) (by omega) (upd_lt l (Nat.xor_lt_two_pow (n:=32) (by omega) (by omega)))
theorem xor_cancel (a b:Nat):a ^^^ (a ^^^ b)=b:=by rw [← Nat.xor_assoc,Nat.xor_self,Nat.zero_xor]
theorem sum_append (s:Nat) (a b:List UInt8):sum s (a++b)=sum (sum s a) b:=by
  unfold sum
  rw [upd_append,xor_cancel]
end Crc
section
open Go.RowKit
theorem it_snoc (n:Nat) (x:Nat):Crc.it (n+1) x=Crc.step (Crc.it n x):=Crc.it_add n 1 x
set_option maxRecDepth 100000 in
theorem crcRow (i : Nat) (w : World) (hi : i < 256) : Calls Tryz.prog 185 #[.int .u8 (i : Int)] w fun e w' => e = .returned (.int .u32 (Crc.row i : Nat)) ∧ w = w' := by
  go_enter Tryz.func185, Tryz.ntmps185
  go_wp2
  go_loop [3, 6] (fun x k => ∃ n : Nat, n ≤ 8 ∧ k = .int .i64 n ∧ x = .int .u32 (Crc.it n i : Nat)) (fun _ k => 8 - (intOf k).toNat)
  case atStart => exact ⟨0, Nat.zero_le _, rfl, rfl⟩
  case round =>
    obtain ⟨n, hn, rfl, rfl⟩ := hrel
    have hl : Crc.it n i < 4294967296 := Crc.it_lt n (by omega)
    have HS := Lib.hid (it_snoc n i)
    generalize hxx : Crc.it n i = x at *
    have HX := Lib.hid hxx; clear hxx
    by_cases hlt : n < 8
    · go_wp2
      all_goals
        go_round
        case rel =>
          refine ⟨n + 1, by omega, by go_num, ?_⟩
          rw [HS.out]
          unfold Crc.step
          have hx := Lib.hid trivial
          first
          | (rw [if_pos (by have : (((x : Int) % 2) == 1) = true := by assumption
                            have := beq_iff_eq.1 this; omega)]
             rw [show (3988292384 : Int) = ((3988292384 : Nat) : Int) from rfl, show (x : Int) / 2 = ((x / 2 : Nat) : Int) from by omega, u32_xor_nat _ _ (by omega) (by omega)])
          | (rw [if_neg (by have : (((x : Int) % 2) == 1) = false := by assumption
                            have := beq_eq_false_iff_ne.1 this; omega)]
             rw [show (x : Int) / 2 = ((x / 2 : Nat) : Int) from by omega])
        case measure => simp [intOf]; omega
    · obtain rfl : n = 8 := by omega
      go_wp2
      go_ret
      rw [← HX.out]
      exact ⟨rfl, rfl⟩
theorem u32_not (s:Nat) (hs:s<4294967296):bits BinOp.xor IntKind.u32 IntKind.u32.max (s:Int)=((4294967295 ^^^ s:Nat):Int):=by
  rw [show IntKind.u32.max=((4294967295:Nat):Int) from by decide]
  exact u32_xor_nat _ _ (by omega) hs
set_option maxRecDepth 100000 in
theorem crcUpdate (s:Nat) (A:Option Addr) (n c:Nat) (l:List UInt8) (w:World) (hs:s<4294967296) (hB:Bs w A n c l) :
    Calls Tryz.prog 170 #[.int .u32 (s:Int),.slice A n c] w fun e w'=>e=.returned (.int .u32 (Crc.sum s l:Nat))∧w=w':=by
  have hn:=hB.nmax
  have HB:=hid hB;clear hB
  have h1:=u32_not s hs
  go_enter Tryz.func170,Tryz.ntmps170
  go_wp2_with (fail)
  clear h1
  go_loop [5,7,12] (fun x _ k=>∃ m:Nat,m≤n∧k=.int .i64 m∧x=.int .u32 (Crc.upd (4294967295 ^^^ s) (l.take m):Nat)) (fun _ _ k=>n-(intOf k).toNat)
  case atStart=>exact ⟨0,Nat.zero_le _,rfl,rfl⟩
  case round =>
    obtain ⟨m,hm,rfl,rfl⟩:=hrel
    have hl:Crc.upd (4294967295 ^^^ s) (l.take m)<4294967296:=Crc.upd_lt _ (Nat.xor_lt_two_pow (n:=32) (by omega) (by omega))
    by_cases hlt:m<n
    · obtain ⟨b,o,rfl,hb,hc⟩:=HB.out.at_ (by omega)
      have hml:m<l.length:=by have:=HB.out.len;omega
      have hcell:=hc m _ (List.getElem?_eq_getElem hml)
      have HC:=hid (Crc.upd_snoc (4294967295 ^^^ s) (l.take m) l[m])
      have HT:=hid (List.take_succ_eq_append_getElem hml)
      generalize l[m]=d at *
      generalize Crc.upd (4294967295 ^^^ s) (l.take m)=x at *
      have hd:=d.toNat_lt
      have hxd:(x % 256) ^^^ d.toNat<256:=Nat.xor_lt_two_pow (n:=8) (by omega) (by omega)
      have hr:Crc.row ((x % 256) ^^^ d.toNat)<4294967296:=Crc.row_lt (by omega)
      have h2:bits BinOp.xor IntKind.u8 ((x:Int) % 256) (d.toNat:Int)=(((x % 256) ^^^ d.toNat:Nat):Int):=by
        rw [show ((x:Int) % 256)=((x % 256:Nat):Int) from by omega]
        exact u8_xor_nat _ _ (by omega) hd
      have HR:=hid (crcRow _ w hxd)
      have h3:bits BinOp.xor IntKind.u32 ((Crc.row ((x % 256) ^^^ d.toNat):Nat):Int) ((x:Int) / 256)=((Crc.row ((x % 256) ^^^ d.toNat) ^^^ (x / 256):Nat):Int):=by
        rw [show ((x:Int) / 256)=((x / 256:Nat):Int) from by omega]
        exact u32_xor_nat _ _ hr (by omega)
      generalize Crc.row ((x % 256) ^^^ d.toNat)=r at *
      generalize (x % 256) ^^^ d.toNat=y at *
      clear hc hxd hr hd hl
      go_wp2_with (go_at_call 185;refine (HR.out).mono ?_;rintro e w' ⟨rfl,rfl⟩)
      go_round
      case rel =>
        refine ⟨m+1,by omega,by go_num,?_⟩
        rw [HT.out,HC.out]
      case measure=>simp [intOf];omega
    · obtain rfl:m=n:=by omega
      have hl2:l.take m=l:=List.take_of_length_le (by have:=HB.out.len;omega)
      rw [hl2] at hl ⊢
      clear hl2
      have h4:=u32_not _ hl
      go_wp2
      go_ret
      exact ⟨rfl,rfl⟩
theorem crcSum (A:Option Addr) (n c:Nat) (l:List UInt8) (w:World) (hB:Bs w A n c l) :
    Calls Tryz.prog 171 #[.slice A n c] w fun e w'=>e=.returned (.int .u32 (Crc.sum 0 l:Nat))∧w=w':=by
  have HB:=hid hB;clear hB
  go_enter Tryz.func171,Tryz.ntmps171
  go_wp2_with (fail)
  refine (crcUpdate 0 A n c l w (by omega) HB.out).mono ?_
  rintro e w' ⟨rfl,rfl⟩
  go_wp2
  go_ret
  exact ⟨rfl,rfl⟩
end
section
open Go.RowKit
def be4 (x:Nat):List UInt8:=[UInt8.ofNat (x / 16777216),UInt8.ofNat (x / 65536),UInt8.ofNat (x / 256),UInt8.ofNat x]
theorem be4_length (x:Nat):(be4 x).length=4:=rfl
theorem be4_cells (x:Nat) (hx:x<4294967296):#[Value.int .u8 ((x:Int) / 16777216),.int .u8 ((x:Int) / 65536 % 256),.int .u8 ((x:Int) / 256 % 256),.int .u8 ((x:Int) % 256)]=(u8s (be4 x)).toArray:=by
  simp [be4,u8s]
  omega
theorem four {l:List UInt8} (h:l.length=4):∃ p q r s,l=[p,q,r,s]:=by
  match l,h with
  | [p,q,r,s],_=>exact ⟨p,q,r,s,rfl⟩
end
section
open Go.RowKit
def okLen (n:Nat):Bool:=decide (1≤n) && decide (n≤65536)
def record (l:List UInt8):List UInt8:=be4 l.length++be4 (Crc.sum 0 (be4 l.length++l))++l
def beNum (l:List UInt8):Nat:=l.foldl (fun x c=>x*256+c.toNat) 0
theorem beNum_snoc (l:List UInt8) (c:UInt8):beNum (l++[c])=beNum l*256+c.toNat:=by simp [beNum]
theorem beNum_go (l:List UInt8):∀ x N:Nat,x<N→l.foldl (fun x c=>x*256+c.toNat) x<N*256 ^ l.length:=by
  induction l with
  | nil=>intro x N h;simpa using h
  | cons c l ih =>
    intro x N h
    have hc:=c.toNat_lt
    have h2:=ih (x*256+c.toNat) (N*256) (by omega)
    simp only [List.foldl_cons,List.length_cons,Nat.pow_succ]
    rw [Nat.mul_assoc,Nat.mul_comm 256] at h2
    exact h2
theorem beNum_lt (l:List UInt8):beNum l<256 ^ l.length:=by
  have:=beNum_go l 0 1 (by omega)
  simpa [beNum] using this
theorem beNum_be4 {x:Nat} (hx:x<4294967296):beNum (be4 x)=x:=by
  simp [beNum,be4]
  omega
theorem be4_beNum {l:List UInt8} (h:l.length=4):be4 (beNum l)=l:=by
  obtain ⟨p,q,r,s,rfl⟩:=four h
  have b0:=p.toNat_lt
  have b1:=q.toNat_lt
  have b2:=r.toNat_lt
  have b3:=s.toNat_lt
  simp only [beNum,List.foldl,be4,List.cons.injEq,and_true]
  refine ⟨?_,?_,?_,?_⟩ <;> (apply UInt8.toNat_inj.1;simp only [UInt8.toNat_ofNat'];omega)
def getErr (l:List UInt8):Int :=
  if l.length<8 then 7 else if okLen (beNum (l.take 4))=false then 9 else if l.length-8<beNum (l.take 4) then 7
  else if Crc.sum 0 (l.take 4++(l.drop 8).take (beNum (l.take 4)))=beNum ((l.drop 4).take 4) then 0 else 8
def getGet (l:List UInt8):List UInt8:=if getErr l=0 then (l.drop 8).take (beNum (l.take 4)) else []
def getLen (l:List UInt8):Nat:=if getErr l=0 then 8+beNum (l.take 4) else 0
end
end Go.Proofs.YtodjilljcjkacaaGreatDoor
