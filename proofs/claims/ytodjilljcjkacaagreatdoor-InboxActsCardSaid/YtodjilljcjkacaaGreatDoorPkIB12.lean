/- Laid together: Strs, Shelf, Sgn, RefCut. -/
import Derived.Test.YtodjilljcjkacaaGreatDoorPkIB11
import Derived.OwnWalk
import Derived.Shelf.Strings.Builder1
import Derived.Shelf.Small.Strs
import Derived.Shelf.Strings.BuilderF
import Derived.Shelf.Strings.BuilderK
import Derived.Shelf.Strings.Search1
import Derived.Shelf.Strings.BuilderCap
import Derived.Shelf.Bytes.SlIndexSmall
import Derived.Shelf.Bytes.SlIndexAt
import Derived.Shelf.Bytes.SlSearch0
import Derived.Shelf.Bytes.SlSearch1
import Derived.Shelf.Bytes.SlSearch2
import Derived.Shelf.Bytes.SlIndexWhole
import Derived.Shelf.LaysM
import Derived.Shelf.Bytes.SlEqualAll
import Derived.Ground.SlbtProg
import Derived.Shelf.Bytes.SlCut
import Derived.Shelf.Bytes.Small
import Derived.Shelf.Bytes.IndexByte
import Derived.Test.YtodjilljcjkacaaGreatDoorProg
import Derived.OpenShut
import Derived.LoopTactic
import Derived.RegionTactic
import Derived.BigRegion
import Derived.Deep.RegionLaw
import Derived.Laws.Concat

namespace Go.Proofs.YtodjilljcjkacaaGreatDoor
open Lib (hid)
section
open Go.RowKit
abbrev str (x:List UInt8):Value:=.string (txt x)
def Ss (w:World) (A:Option Addr) (n c:Nat) (T:List (List UInt8)):Prop :=
  T.length=n∧n≤c∧c≤maxLen∧(0<n→∃ b o,A=some ⟨b,o,none⟩∧∀ i x,T[i]?=some x→w.cell? ⟨b,o+i,none⟩=some (str x))
section
variable {w w':World} {A:Option Addr} {n c:Nat} {T:List (List UInt8)}
theorem Ss.len (h:Ss w A n c T):T.length=n:=h.1
theorem Ss.le (h:Ss w A n c T):n≤c:=h.2.1
theorem Ss.max (h:Ss w A n c T):c≤9223372036854775807:=by have:=h.2.2.1;simpa only [maxLen] using this
theorem Ss.nmax (h:Ss w A n c T):n≤9223372036854775807:=Nat.le_trans h.le h.max
theorem Ss.at_ (h:Ss w A n c T) (hn:0<n):∃ b o,A=some ⟨b,o,none⟩∧b<w.heap.size∧∀ i x,T[i]?=some x→w.cell? ⟨b,o+i,none⟩=some (str x):=by
  obtain ⟨b,o,e,hc⟩:=h.2.2.2 hn
  have hl:0<T.length:=by rw [h.1];exact hn
  exact ⟨b,o,e,World.block_lt_of_cell? w _ (hc 0 _ (List.getElem?_eq_getElem hl)),hc⟩
theorem Ss.read (h:Ss w A n c T) {i:Nat} (hi:i<n):∃ b o,A=some ⟨b,o,none⟩∧b<w.heap.size∧w.cell? ⟨b,o+i,none⟩=some (str (T.getD i [])):=by
  obtain ⟨b,o,e,hl,hc⟩:=h.at_ (by omega)
  exact ⟨b,o,e,hl,hc i _ (by rw [List.getD_eq_getElem?_getD,List.getElem?_eq_getElem (by rw [h.1];exact hi)];rfl)⟩
theorem Ss.below (h:Ss w A n c T) (hb:Below w.heap.size w w'):Ss w' A n c T :=
  ⟨h.1,h.2.1,h.2.2.1,fun hn=>by
    obtain ⟨b,o,e,hlt,hc⟩:=h.at_ hn
    exact ⟨b,o,e,fun i x hx=>(hb.cell (p:=⟨b,o+i,none⟩) hlt).trans (hc i x hx)⟩⟩
theorem Ss.nil (w:World) (c:Nat) (A:Option Addr) (hc:c≤maxLen):Ss w A 0 c []:=⟨rfl,Nat.zero_le _,hc,fun h=>absurd h (by omega)⟩
theorem Ss.of_block {g:Nat} {t:TypeId} {f:Nat × Nat} {C:Array Value} (hg:w.heap[g]?=some (.cells C t f)) (hC:∀ (i:Nat) (x:List UInt8),T[i]?=some x→C[i]?=some (str x)) (hn:T.length=n) (hnc:n≤c) (hc:c≤maxLen) :
    Ss w (some ⟨g,0,none⟩) n c T:=by
  subst hn
  refine ⟨rfl,hnc,hc,fun _=>⟨g,0,rfl,fun i x hx=>?_⟩⟩
  rw [Nat.zero_add,cell_of_row w g i C t f hg]
  exact hC i x hx
end
def OwnS (w:World) (base:Nat) (v:Value) (T:List (List UInt8)):Prop:=w.ownsRow base 9 1 v T.length (T.map str)
section
variable {w w':World} {base:Nat} {v:Value} {T:List (List UInt8)}
theorem OwnS.nil (w:World) (base:Nat):OwnS w base (.slice none 0 0) []:=World.ownsRow_nil w base 9 1
theorem OwnS.below (h:OwnS w base v T) (hb:Below w.heap.size w w'):OwnS w' base v T:=by
  refine ⟨h.1,?_⟩
  rcases h.2 with hn|⟨g,cap,cur,e,h1,h2,h3⟩
  · exact .inl hn
  · exact .inr ⟨g,cap,cur,e,h1,(hb.block g (Array.getElem?_eq_some_iff.1 h2).1).trans h2,h3⟩
theorem OwnS.one (w:World) (x:List UInt8) (hb:base≤w.heap.size):OwnS (w.alloc (.cells #[str x] 9)) base (.slice (some ⟨w.heap.size,0,none⟩) 1 1) [x] :=
  ⟨by simp,.inr ⟨w.heap.size,1,#[str x],rfl,hb,heap_alloc_new w _,Nat.le_refl _,by simp [maxLen],by simp,by simp⟩⟩
theorem OwnS.ss (h:OwnS w base v T):∃ A c,v=.slice A T.length c∧Ss w A T.length c T∧∀ b,A=some b→base≤b.block:=by
  rcases h.2 with ⟨rfl,h0⟩|⟨g,cap,cur,rfl,h1,h2,h3,h4,_,h6⟩
  · have:T=[]:=List.eq_nil_of_length_eq_zero h0
    subst this
    exact ⟨none,0,rfl,Ss.nil w 0 none (by simp [maxLen]),fun _ hb=>by cases hb⟩
  · refine ⟨_,cap,rfl,Ss.of_block (by simpa using h2) (fun i x hx=>?_) rfl h3 h4,fun b hb=>?_⟩
    · have hl:i<T.length:=(List.getElem?_eq_some_iff.1 hx).1
      have e:(cur.toList.take (T.length*1))[i]?=(T.map str)[i]?:=by rw [h6]
      rw [Nat.mul_one,List.getElem?_take,if_pos hl,List.getElem?_map,hx] at e
      simpa using e
    · injection hb with hb
      subst hb
      exact h1
theorem OwnS.form (h:OwnS w base v T) (h0:0<T.length):∃ g c,v=.slice (some ⟨g,0,none⟩) T.length c∧base≤g∧g<w.heap.size∧T.length≤c∧c≤9223372036854775807:=by
  rcases h.2 with ⟨_,h1⟩|⟨g,cap,cur,rfl,h1,h2,h3,h4,_⟩
  · omega
  · exact ⟨g,cap,rfl,h1,(Array.getElem?_eq_some_iff.1 h2).1,h3,by simpa only [maxLen] using h4⟩
theorem OwnS.cell {g c:Nat} (h:OwnS w base (.slice (some ⟨g,0,none⟩) T.length c) T) {j:Nat} {x:List UInt8} (hx:T[j]?=some x):w.cell? ⟨g,j,none⟩=some (str x):=by
  have hj:j<T.length:=(List.getElem?_eq_some_iff.1 hx).1
  have:=World.ownsRow.cellAt h j (by omega)
  rw [this]
  simp [hx]
theorem OwnS.frozen {g c:Nat} (h:OwnS w base (.slice (some ⟨g,0,none⟩) T.length c) T) (j:Nat):w.frozen? ⟨g,j,none⟩=false:=World.ownsRow.frozenAt h j
theorem OwnS.store {g c:Nat} (h:OwnS w base (.slice (some ⟨g,0,none⟩) T.length c) T) (j:Nat) (x:List UInt8):OwnS (w.setCell ⟨g,j,none⟩ (str x)) base (.slice (some ⟨g,0,none⟩) T.length c) (T.set j x):=by
  have:=(World.ownsRow.stored h j (str x)).1
  unfold OwnS
  rw [List.length_set,show (T.set j x).map str=(T.map str).set j (str x) from by simp]
  exact this
theorem wpList_str {ops:Array Oper} {rest:List Oper} {o:Oper} {a:Act} {Q:Exit→Act→World→Prop} {w:World} (hgd:o.guard=none) (s x:Operand)
    (ho:o.op=.call { callee:=.builtin .append,args:=#[s,x],argTypes:=#[135,135] }) (base:Nat) (v:Value) (T:List (List UInt8)) (hs:a.eval s=v) (hown:OwnS w base v T) (g:Nat) (y:List UInt8)
    (hx:a.eval x=.slice (some ⟨g,0,none⟩) 1 1) (hg:w.heap[g]?=some (.cells #[str y] 9)) (hn:T.length≤1099511627776) (hbase:base≤w.heap.size)
    (h:∀ v' w',OwnS w' base v' (T++[y])→Below base w w'→w.grownBy w' v.ownBlock→wpList Tryz.prog ops Q rest (a.put o.dst v') w'):wpList Tryz.prog ops Q (o :: rest) a w:=by
  have hi:(Tryz.prog.info? 9).map (fun i=>(i.zero,i.size,i.bytes))=some (some (.string ByteArray.empty),1,16):=by kernel_rfl
  obtain ⟨i,hi,hzz⟩:=Option.map_eq_some_iff.1 hi
  simp only [Prod.mk.injEq] at hzz
  exact wpList_append_own w hgd s x 135 ho base 9 i (.string ByteArray.empty) 1 16 Tryz.underlying135 hi hzz.1 hzz.2.1 hzz.2.2 rfl (by decide) v T.length (T.map str) hs hown ⟨g,0,none⟩ 1 1 [str y] hx rfl
    (fun j u hu=>by
      have hj:j=0:=by
        rcases Nat.lt_or_ge j 1 with h|h
        · omega
        · rw [List.getElem?_eq_none (by simpa using h)] at hu;cases hu
      subst hj
      rw [Addr.add_lit,Nat.zero_add,cell_of_row w g 0 _ _ _ hg]
      exact hu) (fun u hu=>by simp at hu;subst hu;rfl) (by simp only [maxLen];omega) (by omega) hbase (fun v' w' h2 h3 _=>h v' w' (by unfold OwnS;simpa using h2) ((Below.refl _ _).grown h3 hbase fun k hk=>(World.ownsRow.lt hown k hk).1) h3)
end
end
namespace Go.Proofs
open Go.Shelf
def Tryz.lays169_ren:Go.Shelf.Ren:=⟨fun | 169=>163 | n=>n,fun | 70=>212 | 9=>9 | 0=>0 | 72=>214 | 37=>40 | 127=>232 | 3=>3 | 5=>5 | n=>n,fun | n=>n⟩
theorem Tryz.lays169:Go.Proofs.Lays.n169 Tryz.prog Tryz.lays169_ren:={
  mixed:=by kernel_rfl
  f169:=Tryz.func163.trans (congrArg some (by kernel_rfl))
  t0:=Tryz.underlying0
  a0:=Tryz.isAgg0
  z0:=Tryz.sizeOf0
  v0:=Tryz.zeroValue0
  t3:=Tryz.underlying3
  a3:=Tryz.isAgg3
  z3:=Tryz.sizeOf3
  v3:=Tryz.zeroValue3
  t9:=Tryz.underlying9
  a9:=Tryz.isAgg9
  z9:=Tryz.sizeOf9
  v9:=Tryz.zeroValue9
  t37:=Tryz.underlying40
  a37:=Tryz.isAgg40
  z37:=Tryz.sizeOf40
  v37:=Tryz.zeroValue40
  t70:=Tryz.underlying212
  a70:=Tryz.isAgg212
  z70:=Tryz.sizeOf212
  v70:=Tryz.zeroValue212
  t72:=Tryz.underlying214
  a72:=Tryz.isAgg214
  z72:=Tryz.sizeOf214
  v72:=Tryz.zeroValue214
  t127:=Tryz.underlying232
  a127:=Tryz.isAgg232
  z127:=Tryz.sizeOf232
  v127:=Tryz.zeroValue232 }
theorem Tryz.Builder_Extra_169:Builder.Extra Tryz.prog Tryz.lays169_ren:={
  sizeBuilder:=by kernel_rfl
  liesBuilder:=by kernel_rfl
  t5:=Tryz.underlying5
  a5:=Tryz.isAgg5
  z5:=Tryz.sizeOf5
  v5:=Tryz.zeroValue5
  infoByte:=by kernel_rfl
  cellsByte:=by kernel_rfl
  sizeByte:=by kernel_rfl
  neB5:=by decide }
open Go.RowKit in
theorem Tryz.Builder_String_any (B b:Nat) (l:List UInt8) (w:World) (h:Lib.IsBuilder 214 5 B b (Lib.byteCells l) w) (hBw:B≤w.heap.size) :
    Calls Tryz.prog 163 #[.pointer (some ⟨b,0,none⟩)] w fun e w'=>e=.returned (.string ⟨l.toArray⟩)∧Below B w w':=Any.Builder_String_any Tryz.lays169 Tryz.Builder_Extra_169 B b l w h hBw
def Tryz.lays137_ren:Go.Shelf.Ren:=⟨fun | 137=>152 | 217=>175 | 266=>186 | n=>n,fun | 9=>9 | 5=>5 | 3=>3 | n=>n,fun | n=>n⟩
theorem Tryz.lays137:Go.Proofs.Lays.n137 Tryz.prog Tryz.lays137_ren:={
  mixed:=by kernel_rfl
  f137:=Tryz.func152.trans (congrArg some (by kernel_rfl))
  f217:=Tryz.func175.trans (congrArg some (by kernel_rfl))
  f266:=Tryz.func186.trans (congrArg some (by kernel_rfl))
  t3:=Tryz.underlying3
  a3:=Tryz.isAgg3
  z3:=Tryz.sizeOf3
  v3:=Tryz.zeroValue3
  t5:=Tryz.underlying5
  a5:=Tryz.isAgg5
  z5:=Tryz.sizeOf5
  v5:=Tryz.zeroValue5
  t9:=Tryz.underlying9
  a9:=Tryz.isAgg9
  z9:=Tryz.sizeOf9
  v9:=Tryz.zeroValue9 }
open Go.RowKit in
theorem Tryz.strings_IndexByte (s:ByteArray) (c:Int) (w:World) :
    Calls Tryz.prog 152 #[.string s,.int .u8 c] w fun e w'=>e=.returned (.int .i64 (Lib.indexByte s.data.toList c.toNat.toUInt8))∧w'=w:=Any.strings_IndexByte Tryz.lays137 s c w
end Go.Proofs
section
open Go.RowKit
abbrev dlm (a b c d e:Int):Value:=.agg #[.int .u8 a,.int .u8 b,.int .u8 c,.int .u8 d,.int .u8 e]
structure Sgn where
  a:UInt8
  b:UInt8
  c:UInt8
  d:UInt8
  e:UInt8
def Sgn.l (s:Sgn):List UInt8:=[s.a,s.b,s.c,s.d,s.e]
abbrev Sgn.v (s:Sgn):Value:=dlm (s.a.toNat:Int) (s.b.toNat:Int) (s.c.toNat:Int) (s.d.toNat:Int) (s.e.toNat:Int)
end
section
open Go.RowKit
theorem add_run (a b:ByteArray) (h:a.size+b.size≤9223372036854775807) (W:World):(binOp .add 9 (.string a) (.string b)).run Tryz.prog W=.ok (.string (a++b)) W:=by
  have:¬ ((9223372036854775807:Int)<(a.size:Int)+(b.size:Int)):=by omega
  simp [binOp,Op.stringOp,this]
def RetSs (w:World) (T:List (List UInt8)) (e:Ending) (w':World):Prop :=
  ∃ A c,e=.returned (.slice A T.length c)∧Ss w' A T.length c T∧Below w.heap.size w w'
theorem extract_one (s:ByteArray) (k:Nat) (h:k<s.size):(s.extract k (k+1)).data.toList=[s[k]]:=by
  rw [ByteArray.data_extract,Array.toList_extract,List.extract_eq_take_drop,show k+1-k=1 by omega,List.drop_eq_getElem_cons (by simpa using h)]
  rfl
theorem txt_append (a:List UInt8) (s:ByteArray):txt a++s=txt (a++s.data.toList):=by
  apply ByteArray.ext
  apply Array.toList_inj.1
  simp [ByteArray.data_append]
theorem txt_snoc (a:List UInt8) (s:ByteArray) (k:Nat) (h:k<s.size):txt a++s.extract k (k+1)=txt (a++[s[k]]):=by
  rw [txt_append,extract_one s k h]
theorem take_snoc (s:ByteArray) (k:Nat) (h:k<s.size):s.data.toList.take (k+1)=s.data.toList.take k++[s[k]]:=by
  rw [List.take_succ_eq_append_getElem (by simpa using h)];rfl
set_option maxHeartbeats 1000000 in
set_option maxRecDepth 100000 in
theorem refCut (s:ByteArray) (c:UInt8) (w:World) (hs:s.size≤1099511627000):Calls Tryz.prog 165 #[.string s,u8 c] w (RetSs w (cutAt c s.data.toList)):=by
  go_enter Tryz.func165,Tryz.ntmps165
  go_wp2_with (fail)
  have HO:Hid (OwnS (w.alloc (.cells #[str []] 9)) w.heap.size (.slice (some ⟨w.heap.size,0,none⟩) 1 1) [[]]):=hid (OwnS.one w [] (Nat.le_refl _))
  have HB:Hid (Below w.heap.size w (w.alloc (.cells #[str []] 9))):=hid ((Below.refl _ w).alloc (Nat.le_refl _) _)
  go_loopw [5,6] (fun v i wr=>∃ k:Nat,k≤s.size∧i=.int .i64 k∧OwnS wr w.heap.size v (cutAt c (s.data.toList.take k))∧Below w.heap.size w wr) (fun _ i _=>s.size-(intOf i).toNat)
  case atStart=>exact ⟨0,Nat.zero_le _,rfl,by rw [List.take_zero];exact HO.out,HB.out⟩
  case round =>
    clear HO HB
    obtain ⟨k,hk,rfl,ho,hb⟩:=hrel
    have HO:=hid ho
    have HB:=hid hb
    clear ho hb
    by_cases hlt:k<s.size
    · by_cases hx:s[k]=c
      · have d:(((s[k].toNat:Nat):Int) == ((c.toNat:Nat):Int))=true:=by rw [hx];simp
        have HX:=hid hx
        clear hx
        have HL:Hid ((cutAt c (s.data.toList.take k)).length≤k+1):=hid (by rw [cutAt_length];have:=List.count_le_length (a:=c) (l:=s.data.toList.take k);have:=List.length_take_le k s.data.toList;omega)
        have tok1:Hid True:=hid trivial
        go_wp2_with (at_builtin;have _t:=tok1;go_loud ((refine wpList_str rfl (.tmp 19) (.tmp 20) rfl w.heap.size _ (cutAt c (s.data.toList.take k)) rfl (HO.out.below ((Below.refl _ wr).alloc (Nat.le_refl _) _)) wr.heap.size [] rfl (heap_alloc_new wr _) (by have:=HL.out;omega) (by have:=HB.out.size;simp;omega) ?_;intro v' w' hown hbel hgr;have HOWN:=hid hown;have HBEL:=hid hbel;clear tok1 hown hbel hgr _t)))
        have hq:=HOWN.out
        rw [← cutAt_snoc_eq,← HX.out,← take_snoc s k hlt,HX.out] at hq
        exact ⟨⟨k+1,by omega,by go_num,hq,(HB.out.alloc HB.out.size _).trans HBEL.out⟩,by simp [intOf];omega⟩
      · have d:(((s[k].toNat:Nat):Int) == ((c.toNat:Nat):Int))=false:=by
          rw [beq_eq_false_iff_ne];intro e;exact hx (UInt8.toNat_inj.1 (by omega))
        have HX:=hid hx
        have hn0:0<(cutAt c (s.data.toList.take k)).length:=by rw [cutAt_length];omega
        obtain ⟨g,cp,rfl,hg1,hg2,hc1,hc2⟩:=HO.out.form hn0
        have HG1:=hid hg1
        have HST:=hid (HO.out.store ((cutAt c (s.data.toList.take k)).length-1) ((cutAt c (s.data.toList.take k)).getD ((cutAt c (s.data.toList.take k)).length-1) []++[s[k]]))
        have hcell:=HO.out.cell (j:=(cutAt c (s.data.toList.take k)).length-1) (x:=(cutAt c (s.data.toList.take k)).getD ((cutAt c (s.data.toList.take k)).length-1) []) (by rw [List.getD_eq_getElem?_getD,List.getElem?_eq_getElem (by omega)];rfl)
        have hfr:=HO.out.frozen ((cutAt c (s.data.toList.take k)).length-1)
        have HSN:=hid (cutAt_snoc_ne c s[k] hx (s.data.toList.take k))
        rw [← take_snoc s k hlt] at HSN
        unfold lastMore at HSN
        have HYL:Hid (((cutAt c (s.data.toList.take k)).getD ((cutAt c (s.data.toList.take k)).length-1) []).length≤k):=hid (cutAt_part_le c _ k (List.length_take_le k _) _)
        generalize hT:cutAt c (s.data.toList.take k)=T at *
        have HT:=hid hT
        obtain ⟨m,hm⟩:∃ m,m=T.length-1:=⟨_,rfl⟩
        obtain ⟨y,hy⟩:∃ y,y=T.getD (T.length-1) []:=⟨_,rfl⟩
        rw [← hm] at HST hcell hfr HSN hy HYL
        rw [← hy] at HST hcell HSN HYL
        have ew:IntKind.i64.wrap ((T.length:Int)-1)=(m:Int):=by rw [IntKind.wrap_i64];omega
        have e1:(m:Int)<(T.length:Int):=by omega
        have ek:IntKind.i64.wrap ((k:Int)+1)=((k+1:Nat):Int):=by rw [IntKind.wrap_i64];omega
        have HSX:=hid (txt_snoc y s k hlt)
        have hsz:(s.extract k (k+1)).size=1:=by rw [ByteArray.size_extract];omega
        have hle:(y.length:Int)+1≤9223372036854775807:=by have:=HYL.out;omega
        have hle2:¬ (9223372036854775807<y.length+1):=by have:=HYL.out;omega
        have hle3:y.length+1≤9223372036854775807:=by have:=HYL.out;omega
        clear hx hT hy hm hg1 HO hn0 HT
        clear HYL
        go_wp2_with (fail)
        go_region
        all_goals
          go_wp2_with (fail)
          refine ⟨⟨k+1,by omega,by go_num,?_,?_⟩,by simp [intOf];omega⟩
          · rw [HSN.out,HSX.out]
            exact HST.out.below (Below.refl _ _).drew
          · exact (HB.out.setCell (p:=⟨g,m,none⟩) HG1.out _).drew
    · obtain rfl:k=s.size:=by omega
      have hO:=HO.out
      rw [List.take_of_length_le (by simp)] at hO
      obtain ⟨A2,c2,rfl,hS,_⟩:=hO.ss
      have HS:=hid hS
      clear hS hO HO
      go_wp2_with (fail)
      go_ret
      exact ⟨A2,c2,rfl,HS.out,HB.out⟩
end
end Go.Proofs.YtodjilljcjkacaaGreatDoor
