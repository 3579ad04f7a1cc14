/- Laid together: HdRow, Acc1, Frame2, FrameWrapA, Acc2, Comm, In2. -/
import Derived.Test.YtodjilljcjkacaaGreatDoorPkIB19
import Derived.Laws.Rows
import Derived.Laws.ResultCell
import Derived.Laws.CopyOwn
import Derived.Deep.Quiet
import Derived.Deep.RegionHeld3
import Derived.Conc.LoneCalls

namespace Go.Proofs.YtodjilljcjkacaaGreatDoor
open Lib (hid)
section
open Go.RowKit
theorem head_size:(Tryz.prog.info? TH).map (·.size)=some 15:=by kernel_rfl
theorem cells_one (h:Hd):h.cells.all (·.oneCell')=true:=by kernel_rfl
theorem BoxH.setRow {h0:Hd} {g:Nat} {w:World} (k:BoxH h0 g w) (h:Hd):BoxH h g (w.setRow g h.cells):=setRow_heap w g _ _ _ _ k
theorem BoxH.setRow_other {h:Hd} {g t:Nat} {w:World} (k:BoxH h g w) (hne:g≠t) (c:Array Value):BoxH h g (w.setRow t c):=(_root_.Go.setRow_other w t g c hne).trans k
theorem wp_storeH {dst:Option Tmp} {x y:Operand} {ty:TypeId} {pos:String} {af} {a:Act} {w:World} {K:Act→World→Prop} {Q:Exit→Act→World→Prop} {gd}
    (g:Nat) (h h0:Hd) (hx:a.eval x=.pointer (some ⟨g,0,none⟩)) (hy:a.eval y=h.v) (k:BoxH h0 g w)
    (next:K (a.put dst undef) (w.setRow g h.cells)):(⟨dst,.store TH x y,ty,pos,af,gd⟩:Oper).wp Tryz.prog a w K Q :=
  wp_store_row TH x y rfl g h.cells hx hy TH h0.cells k head_size rfl (cells_one h) next
theorem wpList_storeH {ops:Array Oper} {rest:List Oper} {dst:Option Tmp} {x y:Operand} {ty:TypeId} {pos:String} {af} {a:Act} {w:World} {Q:Exit→Act→World→Prop}
    (g:Nat) (h h0:Hd) (hx:a.eval x=.pointer (some ⟨g,0,none⟩)) (hy:a.eval y=h.v) (k:BoxH h0 g w)
    (next:wpList Tryz.prog ops Q rest (a.put dst undef) (w.setRow g h.cells)):wpList Tryz.prog ops Q ((⟨dst,.store TH x y,ty,pos,af,none⟩:Oper) :: rest) a w :=
  wpList_store_row rfl TH x y rfl g h.cells hx hy TH h0.cells k head_size rfl (cells_one h) next
theorem wp_loadH {dst:Option Tmp} {x:Operand} {ty:TypeId} {pos:String} {af} {a:Act} {w:World} {K:Act→World→Prop} {Q:Exit→Act→World→Prop} {gd}
    (g:Nat) (h:Hd) (hx:a.eval x=.pointer (some ⟨g,0,none⟩)) (k:BoxH h g w)
    (next:K (a.put dst h.v) w):(⟨dst,.load TH x,ty,pos,af,gd⟩:Oper).wp Tryz.prog a w K Q :=
  wp_load_row TH x rfl g hx TH h.cells (0,0) _ k Tryz.underlying111 rfl head_size next
theorem wpList_buildH {ops:Array Oper} {rest:List Oper} {dst:Option Tmp} {parts:List (Nat × Operand)} {ty:TypeId} {pos:String} {af} {a:Act} {w:World} {Q:Exit→Act→World→Prop}
    (h:Hd) (vs:List (Nat × Value)) (hv:(parts.map fun p=>(p.1,a.eval p.2))=vs) (hb:Tryz.prog.built TH vs=some h.cells)
    (next:wpList Tryz.prog ops Q rest (a.put dst h.v) w):wpList Tryz.prog ops Q ((⟨dst,.build TH parts.toArray,ty,pos,af,none⟩:Oper) :: rest) a w:=by
  have e:(parts.toArray.map fun (p:Nat × Operand)=>(p.1,a.eval p.2)).toList=vs:=by rw [← hv];simp
  refine wpList_build rfl TH parts.toArray rfl ?_ ?_
  · show (Tryz.prog.built TH (parts.toArray.map fun (p:Nat × Operand)=>(p.1,a.eval p.2)).toList).isSome=true
    rw [e,hb];rfl
  · show wpList _ _ _ _ (a.put dst (.agg ((Tryz.prog.built TH (parts.toArray.map fun (p:Nat × Operand)=>(p.1,a.eval p.2)).toList).getD #[]))) _
    rw [e,hb];exact next
abbrev Hd.parts (h:Hd):List (Nat × Value):=[(0,h.d.v),(1,.string h.a0),(2,.string h.a1),(3,.string h.a2),(4,.string h.a3),(5,.string h.a4),(6,.string h.a5),(7,.string h.a6),(8,.string h.a7),(9,.string h.a8),(10,.string h.a9)]
theorem built_parts (h:Hd):Tryz.prog.built TH h.parts=some h.cells:=by kernel_rfl
theorem wpList_loadHG {ops:Array Oper} {rest:List Oper} {dst:Option Tmp} {x:Operand} {ty:TypeId} {pos:String} {af} {gd} {a:Act} {w:World} {Q:Exit→Act→World→Prop}
    (g:Nat) (h:Hd) (hw:Region.wanted (⟨dst,.load TH x,ty,pos,af,gd⟩:Oper) (yielded ops a.tmps)=true) (hx:a.eval x=.pointer (some ⟨g,0,none⟩)) (k:BoxH h g w)
    (next:wpList Tryz.prog ops Q rest (a.put dst h.v) w):wpList Tryz.prog ops Q ((⟨dst,.load TH x,ty,pos,af,gd⟩:Oper) :: rest) a w :=
  wpList_step fun K hK=>by rw [if_pos hw];exact wp_loadH g h hx k (hK _ _ next)
theorem resultsH {fn:Func} {p u:Tmp} (hf:fn.results=#[.cell p TH,.tmp u]) (tmps:Array Value) (w:World) (g:Nat) (h:Hd) (z:Value)
    (hp:tmps.getD p undef=.pointer (some ⟨g,0,none⟩)) (hz:tmps.getD u undef=z) (k:BoxH h g w):(results fn tmps).run Tryz.prog w=.ok (.tuple #[h.v,z]) w:=by
  rw [results_cell_tmp hf,hp,hz]
  simp only [asAddr]
  rw [show (pure (⟨g,0,none⟩:Addr):Sem Addr).run Tryz.prog w=.ok ⟨g,0,none⟩ w from rfl]
  simp only [Result.andThen_ok]
  rw [run_loadVar_row w g TH TH h.cells (0,0) _ k Tryz.underlying111 rfl head_size]
  rfl
end
section
open Go.RowKit
theorem results_tmp3 {fn:Func} {t u v:Tmp} (h:fn.results=#[.tmp t,.tmp u,.tmp v]) (tmps:Array Value) (P:Program) (w:World) :
    (results fn tmps).run P w=.ok (.tuple #[tmps.getD t undef,tmps.getD u undef,tmps.getD v undef]) w:=by
  simp [results,h]
set_option maxRecDepth 100000 in
set_option maxHeartbeats 2000000 in
theorem bytesIndex1 (A:Option Addr) (n c:Nat) (l:List UInt8) (g:Nat) (w:World) (hB:Bs w A n c l) (hg:w.heap[g]?=some (.cells #[.int .u8 13] 5)) :
    Calls Tryz.prog 178 #[.slice A n c,.slice (some ⟨g,0,none⟩) 1 1] w fun e w'=>e=.returned (.int .i64 (Lib.indexByte l 13))∧w'=w:=by
  have HBS:=hid hB
  have hc:=cell_of_row w g 0 _ _ _ hg
  simp only [List.getElem?_toArray,List.getElem?_cons_zero] at hc
  clear hB hg
  go_enter Tryz.func178,Tryz.ntmps178
  go_wp2_with (fail)
  refine (indexByte_any A n c l 13 13 rfl w HBS.out).mono ?_
  rintro e w1 ⟨rfl,rfl⟩
  clear hc
  go_wp2_with (fail)
  go_ret
  exact ⟨rfl,rfl⟩
set_option maxRecDepth 100000 in
set_option maxHeartbeats 2000000 in
theorem bytesCut13 (A:Option Addr) (n c:Nat) (l:List UInt8) (g:Nat) (w:World) (hB:Bs w A n c l) (hg:w.heap[g]?=some (.cells #[.int .u8 13] 5)) :
    Calls Tryz.prog 156 #[.slice A n c,.slice (some ⟨g,0,none⟩) 1 1] w fun e w'=>∃ k v b,e=.returned (.tuple #[.slice A k c,v,.bool b])∧Bs w' A k c (seg1 l)∧Below w.heap.size w w':=by
  have HBS:=hid hB
  have HL:=hid hB.len
  have hle:=hB.le
  have hnm:=hB.nmax
  have HGE:=hid (Lib.indexByte_ge l 13)
  have HLT:=hid (indexByte_lt l 13)
  have HG:=hid hg
  have hmx:=hB.max
  clear hB hg
  go_enter Tryz.func156,Tryz.ntmps156
  go_wp2_with (fail)
  refine (bytesIndex1 A n c l g w HBS.out HG.out).mono ?_
  rintro e w1 ⟨rfl,rfl⟩
  by_cases h0:Lib.indexByte l 13<0
  · as_aux_lemma =>
    have HS:Hid (seg1 l=l):=hid (if_pos h0)
    have hi:Lib.indexByte l 13=-1:=by have:=HGE.out;omega
    rw [hi]
    clear h0 hi
    go_wp2_with (fail)
    refine bodyPost_ret (v:=.tuple #[.slice A n c,.slice none 0 0,.bool false]) ?_ rfl ⟨n,_,_,rfl,by rw [HS.out];exact HBS.out,Below.refl _ _⟩
    simp [results,Tryz.results156,go_sem]
  · as_aux_lemma =>
    obtain ⟨k,hk⟩:∃ k:Nat,Lib.indexByte l 13=(k:Int):=⟨(Lib.indexByte l 13).toNat,by omega⟩
    have HS:Hid (seg1 l=l.take k):=hid (by unfold seg1;rw [if_neg h0,hk];rfl)
    have hkn:k<n:=by have:=HLT.out;rw [hk,HL.out] at this;omega
    have HBK:Hid (∀ q,Bs (w1.drewN q) A k c (seg1 l)):=hid (fun q=>by rw [HS.out];exact (HBS.out.drewN q).take (by omega))
    rw [hk]
    obtain ⟨b,o,rfl,_,_⟩:=HBS.out.at_ (by omega)
    have e1:(0:Int)≤(k:Int):=by omega
    have e2:(k:Int)≤(n:Int):=by omega
    have e3:(k:Int)≤(c:Int):=by omega
    have e4:(0:Int)≤(k:Int)+1:=by omega
    have e5:(k:Int)+1≤(n:Int):=by omega
    have e6:(n:Int)≤(c:Int):=by omega
    have e7:((k:Int)+1).toNat=k+1:=by omega
    have d1:decide ((0:Int)≤(k:Int))=true:=by simp
    have w1':IntKind.i64.wrap ((k:Int)+1)=(k:Int)+1:=IntWalk.i64_in _ (by omega)
    by_cases hcc:c=k+1
    · as_aux_lemma =>
      have e8:(c:Int)=(k:Int)+1:=by omega
      clear h0 hk hkn hle hnm hmx hcc
      go_wp2_with (fail)
      go_quiet (fail)
      go_wp2_with (fail)
      refine bodyPost_ret (results_tmp3 Tryz.results156 _ _ _) rfl ⟨k,_,true,rfl,HBK.out _,drawN_below (Below.refl _ _) _⟩
    · as_aux_lemma =>
      have e8:¬ (c:Int)=(k:Int)+1:=by omega
      have e9:¬ c=k+1:=hcc
      clear h0 hk hkn hle hnm hmx hcc
      go_wp2_with (fail)
      go_quiet (fail)
      go_wp2_with (fail)
      refine bodyPost_ret (results_tmp3 Tryz.results156 _ _ _) rfl ⟨k,_,true,rfl,HBK.out _,drawN_below (Below.refl _ _) _⟩
set_option maxRecDepth 100000 in
set_option maxHeartbeats 2000000 in
theorem firstSegment_ (A:Option Addr) (n c:Nat) (l:List UInt8) (w:World) (hB:Bs w A n c l) :
    Calls Tryz.prog 112 #[.slice A n c] w fun e w'=>∃ k,e=.returned (.slice A k c)∧Bs w' A k c (seg1 l)∧Below w.heap.size w w':=by
  have HB1:Hid (Bs (w.alloc (.cells #[.int .u8 13] 5)) A n c l):=hid (hB.alloc _)
  have HG:Hid ((w.alloc (.cells #[.int .u8 13] 5)).heap[w.heap.size]?=some (.cells #[.int .u8 13] 5)):=hid (heap_alloc_new w _)
  have HB0:Hid (Below w.heap.size w (w.alloc (.cells #[.int .u8 13] 5))):=hid ((Below.refl _ w).alloc (Nat.le_refl _) _)
  clear hB
  go_enter Tryz.func112,Tryz.ntmps112
  go_wp2_with (fail)
  refine (bytesCut13 A n c l w.heap.size _ HB1.out HG.out).mono ?_
  rintro e w1 ⟨k,v,b,rfl,hB2,hb2⟩
  have HB2:=hid hB2
  have HBB:=hid (HB0.out.trans (hb2.mono HB0.out.size))
  clear hB2 hb2
  go_wp2_with (fail)
  go_ret
  exact ⟨k,rfl,HB2.out,HBB.out⟩
def codesM:List (Int × Value):=[(0,.string (cB 0)),(14,.string (cB 1)),(12,.string (cB 2)),(13,.string (cB 2))]
abbrev i64v (k:Int):Value:=.int .i64 k
noncomputable def keyI64 {P:Program} {k:TypeId} (h:P.underlying k=some (.int .i64)):KeyK P k Int i64v :=
  ⟨.int .i64,h,fun _=>rfl,fun a b=>by
    simp only [Instr.sameNow,if_true,Option.some.injEq]
    rw [Bool.eq_iff_iff]
    simp,fun a=>by simp [Instr.sameBits]⟩
theorem code_get (e:Int) (h:e=0∨e=14∨e=12∨e=13):aget codesM e=some (.string (codeOf e)):=by
  rcases h with rfl|rfl|rfl|rfl <;> rfl
set_option maxRecDepth 100000 in
set_option maxHeartbeats 2000000 in
theorem codes_ (w:World):Calls Tryz.prog 114 #[] w fun e w'=>∃ M,e=.returned (.map (some M))∧MapIs i64v w' M codesM∧Below w.heap.size w w':=by
  have hmm:=@run_makeMap Tryz.prog
  have HM0:Hid (MapIs i64v (w.alloc (.map #[] 0)) w.heap.size ([]:List (Int × Value))):=hid (MapIs.new i64v w)
  have HB0:Hid (Below w.heap.size w (w.alloc (.map #[] 0))):=hid ((Below.refl _ w).alloc (Nat.le_refl _) _)
  have tok1:Hid True:=hid trivial
  have tok2:Hid True:=hid trivial
  have tok3:Hid True:=hid trivial
  have tok4:Hid True:=hid trivial
  go_enter Tryz.func114,Tryz.ntmps114
  go_wp2_with (first
    | (have _t:=tok1;go_loud ((refine wpList_updateL rfl (keyI64 Tryz.underlying46) (.tmp 1) _ _ 183 9 (.inr rfl) Tryz.underlying183 w.heap.size _ rfl HM0.out 0 rfl _ rfl ?_;intro w1 hm1 hc1 hs1;have HM1:=hid hm1;have HB1:=hid (HB0.out.trans (hc1.below (fun j hj=>by rw [hj];exact Nat.le_refl _) HB0.out.size));clear tok1 _t hm1 hc1 hs1)))
    | (have _t:=tok2;go_loud ((refine wpList_updateL rfl (keyI64 Tryz.underlying46) (.tmp 1) _ _ 183 9 (.inr rfl) Tryz.underlying183 w.heap.size _ rfl HM1.out 14 rfl _ rfl ?_;intro w2 hm2 hc2 hs2;have HM2:=hid hm2;have HB2:=hid (HB1.out.trans (hc2.below (fun j hj=>by rw [hj];exact Nat.le_refl _) HB1.out.size));clear tok2 _t hm2 hc2 hs2)))
    | (have _t:=tok3;go_loud ((refine wpList_updateL rfl (keyI64 Tryz.underlying46) (.tmp 1) _ _ 183 9 (.inr rfl) Tryz.underlying183 w.heap.size _ rfl HM2.out 12 rfl _ rfl ?_;intro w3 hm3 hc3 hs3;have HM3:=hid hm3;have HB3:=hid (HB2.out.trans (hc3.below (fun j hj=>by rw [hj];exact Nat.le_refl _) HB2.out.size));clear tok3 _t hm3 hc3 hs3)))
    | (have _t:=tok4;go_loud ((refine wpList_updateL rfl (keyI64 Tryz.underlying46) (.tmp 1) _ _ 183 9 (.inr rfl) Tryz.underlying183 w.heap.size _ rfl HM3.out 13 rfl _ rfl ?_;intro w4 hm4 hc4 hs4;have HM4:=hid hm4;have HB4:=hid (HB3.out.trans (hc4.below (fun j hj=>by rw [hj];exact Nat.le_refl _) HB3.out.size));clear tok4 _t hm4 hc4 hs4))))
  go_ret
  exact ⟨w.heap.size,rfl,HM4.out,HB4.out⟩
theorem exec_code {dst:Option Tmp} {x y:Operand} {ty:TypeId} {pos:String} {af} {gd} {a:Act} {W:World} (M:Nat) (K:Int) (hx:a.eval x=.map (some M)) (hy:a.eval y=.int .i64 K) (hK:K=0∨K=14∨K=12∨K=13) (hM:MapIs i64v W M codesM) :
    (execOp a.eval (⟨dst,.lookup 183 x y false,ty,pos,af,gd⟩:Oper)).run Tryz.prog W=.ok (.value (.string (codeOf K))) W:=by
  have hz:(zeroValue 9).run Tryz.prog W=.ok (.string ⟨#[]⟩) W:=by kernel_rfl
  have hrun:=run_lookupL (keyI64 Tryz.underlying46) 183 9 Tryz.underlying183 W M codesM hM K _ hz false
  rw [code_get K hK] at hrun
  unfold execOp
  simp only [hx,hy,Sem.run_bind]
  rw [hrun]
  rfl
theorem exec_loadH {dst:Option Tmp} {x:Operand} {ty:TypeId} {pos:String} {af} {gd} {a:Act} {W:World} (g:Nat) (h:Hd) (hx:a.eval x=.pointer (some ⟨g,0,none⟩)) (k:BoxH h g W) :
    (execOp a.eval (⟨dst,.load TH x,ty,pos,af,gd⟩:Oper)).run Tryz.prog W=.ok (.value h.v) W:=by
  unfold execOp
  simp only [hx,Instr.loadAt,Instr.sureAddr,Sem.run_bind,Sem.run_pure,Result.andThen_ok,run_loadVar_row W g TH TH h.cells (0,0) _ k Tryz.underlying111 rfl head_size]
theorem resultsH3 {fn:Func} {p u v:Tmp} (hf:fn.results=#[.cell p TH,.tmp u,.tmp v]) (tmps:Array Value) (w:World) (g:Nat) (h:Hd) (y z:Value)
    (hp:tmps.getD p undef=.pointer (some ⟨g,0,none⟩)) (hy:tmps.getD u undef=y) (hz:tmps.getD v undef=z) (k:BoxH h g w):(results fn tmps).run Tryz.prog w=.ok (.tuple #[h.v,y,z]) w:=by
  have hp':tmps[p]?.getD undef=.pointer (some ⟨g,0,none⟩):=by simpa using hp
  have hy':tmps[u]?.getD undef=y:=by simpa using hy
  have hz':tmps[v]?.getD undef=z:=by simpa using hz
  simp [results,hf,hp',hy',hz',asAddr,run_loadVar_row w g TH TH h.cells (0,0) _ k Tryz.underlying111 rfl head_size]
set_option maxRecDepth 100000 in
set_option maxHeartbeats 4000000 in
theorem verdict_ (A:Option Addr) (n c:Nat) (l:List UInt8) (w:World) (hv:Vers w) (hB:Bs w A n c l) (hn:n≤1000000) :
    Calls Tryz.prog 84 #[.slice A n c] w fun e w'=>e=.returned (.tuple #[(verdictD l).1.v,.string (verdictD l).2.1,.int .i64 (verdictD l).2.2])∧Below w.heap.size w w':=by
  have HN:=hid hn
  have HL:=hid hB.len
  have HV:=hid (fun W (hb:Below w.heap.size w W)=>hv.below hb)
  have HZ0:Hid (BoxH Hd.zero w.heap.size (w.alloc (.cells Hd.zero.cells TH))):=hid (BoxH.new _ w)
  have HB0:Hid (Below w.heap.size w (w.alloc (.cells Hd.zero.cells TH))):=hid (boxHd_below _ w)
  have HBS:=hid (hB.below (boxHd_below Hd.zero w))
  clear hB hn hv
  go_enter Tryz.func84,Tryz.ntmps84
  go_wp2_with (fail)
  generalize hw0:w.alloc (.cells #[.int .u8 0,.int .u8 0,.int .u8 0,.int .u8 0,.int .u8 0,.string ⟨#[]⟩,.string ⟨#[]⟩,.string ⟨#[]⟩,.string ⟨#[]⟩,.string ⟨#[]⟩,.string ⟨#[]⟩,.string ⟨#[]⟩,.string ⟨#[]⟩,.string ⟨#[]⟩,.string ⟨#[]⟩] TH)=w0
  rw [show w.alloc (.cells Hd.zero.cells TH)=w0 from hw0] at HZ0 HB0 HBS
  clear hw0
  refine (read_ A n c l w0 HBS.out HN.out).mono ?_
  rintro e w1 ⟨rfl,hb1⟩
  have HZ1:=hid (HZ0.out.below hb1)
  have HB1:=hid (HB0.out.trans (hb1.mono HB0.out.size))
  have HBS1:=hid (HBS.out.below hb1)
  clear hb1 HZ0 HBS HB0
  have HVD:Hid (verdictD l=if (readH l).2=0 then if (28:UInt8) ∈ seg1 l then (Hd.zero,⟨#[]⟩,10) else ((readH l).1,codeOf (checkD (readH l).1),checkD (readH l).1) else (Hd.zero,⟨#[]⟩,(readH l).2)):=hid rfl
  have HKS:Hid (readH l=((readH l).1,0)→(readH l).1.a8.size≤n∧(readH l).1.a9.size≤n):=hid (fun hr=>by
    have t:=sum_le_of (read_stands hr).2.2
    rw [HL.out] at t
    exact ⟨t.1,t.2.1⟩)
  obtain ⟨h,hh⟩:∃ h,h=(readH l).1:=⟨_,rfl⟩
  obtain ⟨x,hx⟩:∃ x,x=(readH l).2:=⟨_,rfl⟩
  have HPR:Hid (readH l=(h,x)):=hid (by rw [hh,hx])
  rw [← hh,← hx] at HVD ⊢
  rw [← hh] at HKS
  clear hh hx
  have HX2:Hid (BoxH h w1.heap.size (w1.alloc (.cells h.cells TH))):=hid (BoxH.new h w1)
  have HZ2:Hid (BoxH Hd.zero w.heap.size (w1.alloc (.cells h.cells TH))):=hid (HZ1.out.below (boxHd_below h w1))
  have HB2:Hid (Below w.heap.size w (w1.alloc (.cells h.cells TH))):=hid (HB1.out.alloc HB1.out.size _)
  have HBS2:Hid (Bs (w1.alloc (.cells h.cells TH)) A n c l):=hid (HBS1.out.alloc _)
  have HGG:Hid (w.heap.size<w1.heap.size):=hid (Array.getElem?_eq_some_iff.1 HZ1.out).1
  by_cases he:x=0
  · subst he
    rw [if_pos rfl] at HVD
    have HK2:=hid (HKS.out HPR.out)
    clear HKS
    go_wp2_with (fail)
    obtain ⟨G,hG⟩:∃ G,G=w1.heap.size:=⟨_,rfl⟩
    rw [← hG] at HX2 HGG ⊢
    clear hG
    generalize w1.alloc (.cells #[u8 h.d.a,u8 h.d.b,u8 h.d.c,u8 h.d.d,u8 h.d.e,.string h.a0,.string h.a1,.string h.a2,.string h.a3,.string h.a4,.string h.a5,.string h.a6,.string h.a7,.string h.a8,.string h.a9] TH)=w2 at *
    refine (firstSegment_ A n c l w2 HBS2.out).mono ?_
    rintro e w3 ⟨k,rfl,hS3,hb3⟩
    have HX3:=hid (HX2.out.below hb3)
    have HZ3:=hid (HZ2.out.below hb3)
    have HB3:=hid (HB2.out.trans (hb3.mono HB2.out.size))
    have HS3:=hid hS3
    clear hb3 hS3 HX2 HZ2 HB2 HBS2 HZ1 HB1 HBS1
    go_wp2_with (fail)
    refine (indexByte_any A k c (seg1 l) 28 28 rfl w3 HS3.out).mono ?_
    rintro e w4 ⟨rfl,rfl⟩
    by_cases h28:(28:UInt8) ∈ seg1 l
    · as_aux_lemma =>
      have HE:Hid (verdictD l=(Hd.zero,⟨#[]⟩,10)):=hid (by rw [HVD.out,if_pos h28])
      have hi:=indexByte_pos h28
      obtain ⟨i,hi2⟩:∃ i,i=Lib.indexByte (seg1 l) 28:=⟨_,rfl⟩
      rw [← hi2] at hi ⊢
      clear h28 hi2
      go_wp2_with (with_reducible refine wpList_storeH w.heap.size Hd.zero Hd.zero (by kernel_rfl) (by kernel_rfl) HZ3.out ?_)
      have HR:=hid (HZ3.out.setRow Hd.zero)
      have HBR:=hid (below_setRow HB3.out (Nat.le_refl _) Hd.zero.cells)
      generalize w3.setRow w.heap.size Hd.zero.cells=w5 at *
      refine bodyPost_ret (v:=.tuple #[Hd.zero.v,.string ⟨#[]⟩,.int .i64 10]) ?_ rfl ⟨by rw [HE.out],HBR.out⟩
      exact resultsH3 Tryz.results84 _ _ _ _ _ _ (by kernel_rfl) (by kernel_rfl) (by kernel_rfl) HR.out
    · have HE:Hid (verdictD l=(h,codeOf (checkD h),checkD h)):=hid (by rw [HVD.out,if_neg h28])
      rw [indexByte_neg h28]
      clear h28
      go_wp2_with (with_reducible refine wpList_loadHG G h (by kernel_rfl) (by kernel_rfl) HX3.out ?_)
      refine (check_ h w3 (HV.out _ HB3.out) (by have:=HK2.out.1;have:=HN.out;omega) (by have:=HK2.out.2;have:=HN.out;omega)).mono ?_
      rintro e w5 ⟨rfl,hb5⟩
      have HX5:=hid (HX3.out.below hb5)
      have HZ5:=hid (HZ3.out.below hb5)
      have HB5:=hid (HB3.out.trans (hb5.mono HB3.out.size))
      have HCC:=hid (checkD_cases h)
      clear hb5 HX3 HZ3 HB3
      obtain ⟨K,hK⟩:∃ K,K=checkD h:=⟨_,rfl⟩
      rw [← hK] at HE HCC ⊢
      clear hK
      go_wp2_with (fail)
      refine wp_region_held_drew (S:=fun W=>BoxH h G W∧(∃ x,BoxH x w.heap.size W)∧Below w.heap.size w W) (by kernel_rfl) ?_ (fun hHeld=>?_)
      · exact ⟨BoxH.drew HX5.out,⟨_,BoxH.drew HZ5.out⟩,HB5.out.drew⟩
      clear HX5 HZ5 HB5
      generalize w5.drew=w6 at *
      refine wpAnyH_take (i:=0) (oi:=⟨some 23,_,_,_,_,_⟩) (v:=h.v) rfl (by kernel_rfl) (by kernel_rfl) (by kernel_rfl) (fun _ _ _ h=>h) (Or.inl ⟨by kernel_rfl,?hy0⟩) hHeld ?r0
      case hy0 =>
        intro W hW
        exact exec_loadH G h (by kernel_rfl) hW.1
      (try simp only [Act.put,List.setIfInBounds_toArray,List.set_cons_zero,List.set_cons_succ])
      refine wpAnyH_take (i:=2) (oi:=⟨some 25,_,_,_,_,_⟩) (v:=.int .i64 K) rfl (by kernel_rfl) (by kernel_rfl) (by kernel_rfl) (fun _ _ _ h=>h) (Or.inl ⟨by kernel_rfl,?hy2⟩) hHeld ?r2
      case hy2 =>
        intro W hW
        rfl
      (try simp only [Act.put,List.setIfInBounds_toArray,List.set_cons_zero,List.set_cons_succ])
      refine wpAnyH_take (i:=4) (oi:=⟨some 27,_,_,_,_,_⟩) (v:=.int .i64 K) rfl (by kernel_rfl) (by kernel_rfl) (by kernel_rfl) (fun _ _ _ h=>h) (Or.inl ⟨by kernel_rfl,?hy4⟩) hHeld ?r4
      case hy4 =>
        intro W hW
        rfl
      (try simp only [Act.put,List.setIfInBounds_toArray,List.set_cons_zero,List.set_cons_succ])
      have HHL:=hid hHeld
      clear hHeld
      refine wpAnyH_ready (rs:=[1]) (by kernel_rfl) (by simp) (AllReadyH.cons (o:=_) rfl (fun K' hK=>?_) AllReadyH.nil)
      go_simp
      refine (codes_ _).mono ?_
      rintro e w7 ⟨M,rfl,hM,hb7⟩
      dsimp only
      refine hK.out _ _ ⟨HHL.out.1.below hb7,HHL.out.2.1.imp (fun _ k=>k.below hb7),HHL.out.2.2.trans (hb7.mono HHL.out.2.2.size)⟩ (fun hHeld=>?_)
      clear hK K' hb7 HHL
      have HHL:=hid hHeld
      have hH2:MapIs i64v w7 M codesM:=hM
      refine wpAnyH_imp (S':=fun W=>(BoxH h G W∧(∃ x,BoxH x w.heap.size W)∧Below w.heap.size w W)∧MapIs i64v W M codesM) (fun _ h=>h.1) _ _ _ _ ?_
      have hHeld2:(BoxH h G w7∧(∃ x,BoxH x w.heap.size w7)∧Below w.heap.size w w7)∧MapIs i64v w7 M codesM:=⟨hHeld,hH2⟩
      clear hHeld hM hH2
      (try simp only [Act.put,List.setIfInBounds_toArray,List.set_cons_zero,List.set_cons_succ])
      refine wpAnyH_take (i:=3) (oi:=⟨some 26,_,_,_,_,_⟩) (v:=.string (codeOf K)) rfl (by kernel_rfl) (by kernel_rfl) (by kernel_rfl) (fun _ _ _ h=>h) (Or.inl ⟨by kernel_rfl,?hy3⟩) hHeld2 ?r3
      case hy3 =>
        intro W hW
        exact exec_code M K (by kernel_rfl) (by kernel_rfl) HCC.out hW.2
      (try simp only [Act.put,List.setIfInBounds_toArray,List.set_cons_zero,List.set_cons_succ])
      have HH2:=hid hHeld2
      clear hHeld2 HHL
      refine wpAnyH_ready (rs:=[5]) (by kernel_rfl) (by simp) (AllReadyH.cons (o:=_) rfl (fun K' hK=>?_) AllReadyH.nil)
      rw [if_pos (by kernel_rfl)]
      obtain ⟨x0,hx0⟩:=HH2.out.1.2.1
      have HX0':=hid hx0
      clear hx0
      refine wp_storeH w.heap.size h x0 (by kernel_rfl) (by kernel_rfl) HX0'.out ?_
      have HR:=hid (HX0'.out.setRow h)
      have HBR:=hid (below_setRow HH2.out.1.2.2 (Nat.le_refl _) h.cells)
      have HGR:=hid (HH2.out.1.1.setRow_other (t:=w.heap.size) (by have:=HGG.out;omega) h.cells)
      refine hK.out _ _ ⟨⟨HGR.out,⟨_,HR.out⟩,HBR.out⟩,HH2.out.2.row (setRow_other _ _ _ _ (HH2.out.2.ne HX0'.out))⟩ (fun hHeld=>?_)
      clear hK K' HH2 HX0' HGR
      generalize w7.setRow w.heap.size h.cells=w8 at *
      (try simp only [Act.put])
      refine wpAnyH_take (i:=6) (oi:=⟨some 3,_,_,_,_,_⟩) (v:=.string (codeOf K)) rfl (by kernel_rfl) (by kernel_rfl) (by kernel_rfl) (fun _ _ _ h=>h) (Or.inl ⟨by kernel_rfl,?hy6⟩) hHeld ?r6
      case hy6 =>
        intro W hW
        rfl
      (try simp only [Act.put,List.setIfInBounds_toArray,List.set_cons_zero,List.set_cons_succ])
      refine wpAnyH_take (i:=7) (oi:=⟨some 4,_,_,_,_,_⟩) (v:=.int .i64 K) rfl (by kernel_rfl) (by kernel_rfl) (by kernel_rfl) (fun _ _ _ h=>h) (Or.inl ⟨by kernel_rfl,?hy7⟩) hHeld ?r7
      case hy7 =>
        intro W hW
        rfl
      (try simp only [Act.put,List.setIfInBounds_toArray,List.set_cons_zero,List.set_cons_succ])
      clear hHeld
      refine wpAnyH_done (by kernel_rfl) ?_ _
      go_wp2_with (fail)
      refine bodyPost_ret (v:=.tuple #[h.v,.string (codeOf K),.int .i64 K]) ?_ rfl ⟨by rw [HE.out],HBR.out⟩
      exact resultsH3 Tryz.results84 _ _ _ _ _ _ (by kernel_rfl) (by kernel_rfl) (by kernel_rfl) HR.out
  · as_aux_lemma =>
    rw [if_neg he] at HVD
    have de:(x == 0)=false:=by simpa using he
    have de2:(x != 0)=true:=by simpa using he
    clear he
    go_wp2_with (with_reducible refine wpList_storeH w.heap.size Hd.zero Hd.zero (by kernel_rfl) (by kernel_rfl) HZ2.out ?_)
    have HR:=hid (HZ2.out.setRow Hd.zero)
    have HBR:=hid (below_setRow HB2.out (Nat.le_refl _) Hd.zero.cells)
    generalize World.setRow (w1.alloc (.cells h.cells TH)) w.heap.size Hd.zero.cells=w5 at *
    refine bodyPost_ret (v:=.tuple #[Hd.zero.v,.string ⟨#[]⟩,.int .i64 x]) ?_ rfl ⟨by rw [HVD.out],HBR.out⟩
    exact resultsH3 Tryz.results84 _ _ _ _ _ _ (by kernel_rfl) (by kernel_rfl) (by kernel_rfl) HR.out
end
section
open Go.RowKit
theorem byteInfoF:(Tryz.prog.info? 5).map (fun i=>(i.zero,i.size,i.bytes))=some (some (.int .u8 0),1,1):=by kernel_rfl
theorem frameGood (A:Option Addr) (n c:Nat) (l:List UInt8) (w:World) (hS:Signs w) (hB:Bs w A n c l) :
    Calls Tryz.prog 68 #[.slice A n c] w fun e w'=>e=.returned (.bool (good l))∧∃ q,w'=w.drewN q:=by
  cases hg:good l with
  | true=>exact frameGood_yes A n c l w hS hB hg
  | false=>exact frameGood_no A n c l w hS hB hg
theorem frameGood_b (A:Option Addr) (n c:Nat) (l:List UInt8) (w:World) (hS:Signs w) (hB:Bs w A n c l) (r:Bool) (hr:good l=r) :
    Calls Tryz.prog 68 #[.slice A n c] w fun e w'=>e=.returned (.bool r)∧Below w.heap.size w w':=by
  subst hr
  exact (frameGood A n c l w hS hB).mono fun e w' ⟨he,q,hq⟩=>⟨he,by rw [hq];exact drawN_below (Below.refl _ _) q⟩
theorem frameCount (k:Int) (h0:0≤k) (h1:k≤4611686018427387904) (w:World) :
    Calls Tryz.prog 69 #[.int .i64 k] w fun e w'=>e=.returned (.int .i64 (k+3))∧w=w':=by
  go_enter Tryz.func69,Tryz.ntmps69
  go_wp2
  go_ret
  exact ⟨rfl,rfl⟩
end
section
open Go.RowKit
def RetNew (err:Int) (l:List UInt8) (w:World) (e:Ending) (w':World):Prop :=
  ∃ A c,e=.returned (.tuple #[.slice A l.length c,.int .i64 err])∧Bs w' A l.length c l∧(∀ b,A=some b→w.heap.size≤b.block)∧Below w.heap.size w w'
set_option maxRecDepth 100000 in
theorem frameWrap_new (A:Option Addr) (n c:Nat) (l:List UInt8) (w:World) (hS:Signs w) (hB:Bs w A n c l) (hg:good l=true) (hn:n≤140737488351232) :
    Calls Tryz.prog 38 #[.slice A n c] w (RetNew 0 (11 :: (l++[28,13])) w):=by
  have hgo:=hid (frameGood_b A n c l w hS hB true hg)
  have hmk:∀ W:World,(Instr.makeSlice 40 (.int .i64 0) (.int .i64 ((n:Int)+3))).run Tryz.prog W=.ok (.slice (some ⟨W.heap.size,0,none⟩) 0 (n+3)) (W.alloc (.cells (Array.replicate (n+3) (.int .u8 0)) 5)):=by
    intro W
    rw [show ((n:Int)+3)=((n+3:Nat):Int) from by omega]
    exact run_mk _ _ Tryz.underlying40 byteInfoF 0 (n+3) (by omega) (by omega) W
  have HS:=hid hS
  have HB:=hid hB
  have HL:l.length≤n:=by have:=hB.len;omega
  have tok1:True:=trivial
  have tok2:True:=trivial
  have tok3:True:=trivial
  clear hS hB hg
  go_enter Tryz.func38,Tryz.ntmps38
  go_wp2_with (first
    | (go_at_call 68;refine (hgo.out).mono ?_;rintro e w1 ⟨rfl,hb1⟩
       have S1:=hid (HS.out.below hb1)
       have B1:=hid (HB.out.below hb1)
       obtain ⟨s0,s1,s2⟩:=HS.out.below hb1
       have hsz1:0<w1.heap.size:=World.block_lt_of_cell? w1 _ s0)
    | (go_at_call 69;refine (frameCount _ (by omega) (by omega) _).mono ?_;rintro e w' ⟨rfl,rfl⟩)
    | (at_builtin;have _t:=tok1
       go_loud (refine wpList_app rfl (.tmp 12) (.tmp 15) 40 rfl w1.heap.size 5 Tryz.underlying40 byteInfoF _ [] rfl ((Own.made 5 w1 (Array.replicate (n+3) (.int .u8 0)) (n+3) (Nat.le_refl _) (by simp only [maxLen];omega) (by simp)).alloc _) _ 1 1 [11] rfl (Bs.lit _ [11] 5 _ _ (by simp) rfl rfl (by simp [maxLen])) (by simp) (by simp;omega) ?_)
       intro v2 w2 hown2 hb2 hg2
       have b12:Below w1.heap.size w1 w2:=(((Below.refl _ _).alloc (Nat.le_refl _) _).alloc (by simp) _).trans hb2
       clear tok1 hb2 hg2 _t)
    | (at_builtin;have _t:=tok2
       go_loud (refine wpList_app rfl (.tmp 17) (.tmp 18) 40 rfl w1.heap.size 5 Tryz.underlying40 byteInfoF _ _ rfl hown2 _ n c l rfl (B1.out.below b12) (by simp;omega) b12.size ?_)
       intro v3 w3 hown3 hb3 hg3
       have b13:=b12.trans hb3
       clear tok2 hb3 hg3 _t
       obtain ⟨s03,s13,s23⟩:=S1.out.below b13)
    | (at_builtin;have _t:=tok3
       go_loud (refine wpList_app rfl (.tmp 20) (.tmp 25) 40 rfl w1.heap.size 5 Tryz.underlying40 byteInfoF _ _ rfl (hown3.alloc _) _ 2 2 [28,13] rfl (Bs.lit _ [28,13] 5 _ _ (by simp) rfl rfl (by simp [maxLen])) (by simp;omega) (by have:=b13.size;simp;omega) ?_)
       intro v4 w4 hown4 hb4 hg4
       have b14:Below w1.heap.size w1 w4:=(b13.alloc b13.size _).trans hb4
       clear tok3 hb4 hg4 _t))
  go_ret2
  obtain ⟨A4,c4,rfl,hB4,hlo4⟩:=hown4.bs
  have hl4:([]++[11]++l++[28,13]:List UInt8)=11 :: (l++[28,13]):=by simp
  rw [hl4] at hB4 ⊢
  exact ⟨A4,c4,rfl,hB4,fun b hb=>Nat.le_trans hb1.size (hlo4 b hb),hb1.trans (b14.mono hb1.size)⟩
end
section
open Go.RowKit
theorem code_eq0 (cd:ByteArray):(cd.toList == [65,65])=decide (cd=cB 0):=by
  rw [show ([65,65]:List UInt8)=(cB 0).toList from by decide +kernel]
  exact strEq cd (cB 0)
theorem code_isEmpty (e:Int):(codeOf e).toList.isEmpty=false:=by
  unfold codeOf
  split
  · decide +kernel
  · split <;> decide +kernel
set_option maxRecDepth 100000 in
set_option maxHeartbeats 2000000 in
theorem stored_ (A:Option Addr) (n c:Nat) (l:List UInt8) (w:World) (hv:Vers w) (hB:Bs w A n c l) (hn:n≤1000000) :
    Calls Tryz.prog 82 #[.slice A n c] w fun e w'=>e=.returned (.bool (decide ((verdictD l).2.1=cB 0)))∧Below w.heap.size w w':=by
  go_enter Tryz.func82,Tryz.ntmps82
  go_wp2_with (fail)
  refine (verdict_ A n c l w hv hB hn).mono ?_
  rintro e w1 ⟨rfl,hb1⟩
  have HB1:=hid hb1
  clear hb1 hv hB hn
  obtain ⟨g,hg⟩:∃ g,g=(verdictD l).1:=⟨_,rfl⟩
  obtain ⟨cd,hcd⟩:∃ cd,cd=(verdictD l).2.1:=⟨_,rfl⟩
  obtain ⟨K,hK⟩:∃ K,K=(verdictD l).2.2:=⟨_,rfl⟩
  have HCE:=hid hcd
  rw [← hg,← hcd,← hK]
  clear hg hcd hK
  have HB2:Hid (Below w.heap.size w (w1.alloc (.cells g.cells TH))):=hid (HB1.out.alloc HB1.out.size _)
  have hd:=code_eq0 cd
  cases hdd:decide (cd=cB 0)
  · have HE:Hid (decide ((verdictD l).2.1=cB 0)=false):=hid (by rw [← HCE.out];exact hdd)
    rw [hdd] at hd
    clear hdd
    go_wp2_with (fail)
    go_ret
    exact ⟨by rw [HE.out];rfl,HB2.out⟩
  · have HE:Hid (decide ((verdictD l).2.1=cB 0)=true):=hid (by rw [← HCE.out];exact hdd)
    rw [hdd] at hd
    clear hdd
    go_wp2_with (fail)
    go_ret
    exact ⟨by rw [HE.out];rfl,HB2.out⟩
def RetBN (w:World) (r:List UInt8 × Bool) (e:Ending) (w':World):Prop :=
  ∃ A m c,e=.returned (.tuple #[.slice A m c,.bool r.2])∧Bs w' A m c r.1∧(∀ b,A=some b→w.heap.size≤b.block)∧Below w.heap.size w w'
theorem RetBN.none_ {w w':World} {r:List UInt8 × Bool} (h:r=([],false)) (hb:Below w.heap.size w w'):RetBN w r (.returned (.tuple #[.slice none 0 0,.bool false])) w':=by
  subst h
  exact ⟨none,0,0,rfl,Bs.none_ _,(fun b h=>by cases h),hb⟩
set_option maxRecDepth 100000 in
set_option maxHeartbeats 4000000 in
theorem reply_n (A:Option Addr) (n c:Nat) (l:List UInt8) (kept:Bool) (w:World) (hv:Vers w) (hs:Signs w) (hc:Cds w) (hB:Bs w A n c l) (hn:n≤29000) :
    Calls Tryz.prog 54 #[.slice A n c,.bool kept] w (RetBN w (replyD l kept)):=by
  have HN:=hid hn
  have HL:=hid hB.len
  have HS:=hid (fun W (hb:Below w.heap.size w W)=>hs.below hb)
  have HC:=hid (fun W (hb:Below w.heap.size w W)=>hc.below hb)
  have HBS:=hid hB
  go_enter Tryz.func54,Tryz.ntmps54
  go_wp2_with (fail)
  refine (verdict_ A n c l w hv hB (by omega)).mono ?_
  rintro e w1 ⟨rfl,hb1⟩
  have HB1:=hid hb1
  have HBS1:=hid (HBS.out.below hb1)
  clear hb1 hv hB hn hs hc HBS
  by_cases hcode:(verdictD l).2.1=⟨#[]⟩
  · as_aux_lemma =>
    have HR:Hid (replyD l kept=([],false)):=hid (if_pos (.inl hcode))
    rw [hcode]
    obtain ⟨g,hg⟩:∃ g,g=(verdictD l).1:=⟨_,rfl⟩
    obtain ⟨K,hK⟩:∃ K,K=(verdictD l).2.2:=⟨_,rfl⟩
    rw [← hg,← hK]
    clear hg hK hcode
    have HB2:Hid (Below w.heap.size w (w1.alloc (.cells g.cells TH))):=hid (HB1.out.alloc HB1.out.size _)
    go_wp2_with (fail)
    go_ret2
    exact RetBN.none_ HR.out HB2.out
  · obtain ⟨g,hr,h28,hvd⟩:=verdict_some hcode
    have HRP:Hid (replyD l kept=if (verdictD l).2.1=⟨#[]⟩∨good l=false then ([],false) else (11 :: ((buildD (verdictD l).1 (if (verdictD l).2.1=cB 0∧kept=false then cB 1 else (verdictD l).2.1)).1++[28,13]),true)):=hid rfl
    rw [hvd] at HRP ⊢
    obtain ⟨cne,ccd,csz⟩:=codeOf_ne (checkD g)
    have ce:=code_isEmpty (checkD g)
    obtain ⟨K,hK⟩:∃ K,K=checkD g:=⟨_,rfl⟩
    rw [← hK] at HRP cne ccd csz ce ⊢
    obtain ⟨cd,hcd⟩:∃ cd,cd=codeOf K:=⟨_,rfl⟩
    rw [← hcd] at HRP cne ccd csz ce ⊢
    have HCD:=hid (And.intro ccd csz)
    have HSU:Hid (g.sum≤290000):=hid (by
      have t:=(sum_le_of (read_stands hr).2.2).2.2
      rw [← Hd.sum_eq,HL.out] at t
      have:=HN.out
      omega)
    have HAG:=hid (fun (hl:good l=true) (c':ByteArray) (hc':codeD c'=true)=>answer_good hr h28 hl hc')
    have HX2:Hid (BoxH g w1.heap.size (w1.alloc (.cells g.cells TH))):=hid (BoxH.new g w1)
    have HB2:Hid (Below w.heap.size w (w1.alloc (.cells g.cells TH))):=hid (HB1.out.alloc HB1.out.size _)
    have HBS2:Hid (Bs (w1.alloc (.cells g.cells TH)) A n c l):=hid (HBS1.out.alloc _)
    have HCN:=hid cne
    clear hK hcd ccd csz hr h28 hvd hcode cne
    go_wp2_with (fail)
    obtain ⟨G,hG⟩:∃ G,G=w1.heap.size:=⟨_,rfl⟩
    rw [← hG] at HX2 ⊢
    clear hG HB1 HBS1
    generalize w1.alloc (.cells #[u8 g.d.a,u8 g.d.b,u8 g.d.c,u8 g.d.d,u8 g.d.e,.string g.a0,.string g.a1,.string g.a2,.string g.a3,.string g.a4,.string g.a5,.string g.a6,.string g.a7,.string g.a8,.string g.a9] TH)=w2 at *
    refine (frameGood_b A n c l w2 (HS.out _ HB2.out) HBS2.out (good l) rfl).mono ?_
    rintro e w3 ⟨rfl,hb3⟩
    have HX3:=hid (HX2.out.below hb3)
    have HB3:=hid (HB2.out.trans (hb3.mono HB2.out.size))
    clear hb3 HX2 HB2 HBS2 ce
    cases hgl:good l
    · as_aux_lemma =>
      have HR:Hid (replyD l kept=([],false)):=hid (by rw [HRP.out,if_pos (.inr hgl)])
      clear hgl
      go_wp2_with (fail)
      go_ret2
      exact RetBN.none_ HR.out HB3.out
    · have HA2:=hid (HAG.out hgl)
      have HR:Hid (replyD l kept=(11 :: ((buildD g (if cd=cB 0∧kept=false then cB 1 else cd)).1++[28,13]),true)):=hid (by
        rw [HRP.out,if_neg]
        rintro (h|h)
        · exact HCN.out h
        · rw [hgl] at h;cases h)
      clear HAG HRP hgl
      have hd:=code_eq0 cd
      cases hdd:decide (cd=cB 0)
      · as_aux_lemma =>
        rw [hdd] at hd
        have hnc:cd≠cB 0:=of_decide_eq_false hdd
        have HNC:=hid hnc
        clear hdd hnc
        have HR2:Hid (replyD l kept=(11 :: ((buildD g cd).1++[28,13]),true)):=hid (by rw [HR.out,if_neg (fun h=>HNC.out h.1)])
        obtain ⟨hbu,hgd⟩:=HA2.out cd HCD.out.1
        have HGD:=hid hgd
        have HBU2:Hid ((buildD g cd).2=0):=hid (by rw [hbu])
        have HBL:=hid (buildD_len g cd)
        clear hbu hgd
        go_wp2_with (with_reducible refine wpList_loadHG G g (by kernel_rfl) (by kernel_rfl) HX3.out ?_)
        refine (ackBuild g cd w3 (HC.out _ HB3.out) (by have:=HSU.out;omega) (by rw [HCD.out.2];decide)).mono ?_
        rintro e w4 ⟨A4,c4,rfl,hB4,hb4⟩
        have HB4:=hid (HB3.out.trans (hb4.mono HB3.out.size))
        have HX4:=hid hB4
        clear hb4 hB4 HX3 HB3
        rw [HBU2.out]
        obtain ⟨X,hX⟩:∃ X,X=(buildD g cd).1:=⟨_,rfl⟩
        rw [← hX] at HR2 HGD HX4 HBL ⊢
        clear hX
        obtain ⟨N,hN⟩:∃ N,N=X.length:=⟨_,rfl⟩
        have HNN:Hid (N≤1000000):=hid (by rw [hN];have:=HBL.out;have:=HSU.out;have h2:=HCD.out.2;have h3:(cB 1).size=2:=rfl;omega)
        rw [← hN] at HX4 ⊢
        clear hN HBL
        go_wp2_with (fail)
        refine (frameWrap_new A4 N c4 X w4 (HS.out _ HB4.out) HX4.out HGD.out (by have:=HNN.out;omega)).mono ?_
        rintro e w5 ⟨A5,c5,rfl,hB5,hf5,hb5⟩
        rw [show ((11:UInt8) :: (X++[28,13])).length=X.length+2+1 from by simp] at hB5 ⊢
        obtain ⟨N5,hN5⟩:∃ N5,N5=X.length+2+1:=⟨_,rfl⟩
        rw [← hN5] at hB5 ⊢
        clear hN5
        have HB5:=hid (HB4.out.trans (hb5.mono HB4.out.size))
        have HX5:=hid hB5
        have HF5:=hid (fun b h=>Nat.le_trans HB4.out.size (hf5 b h))
        clear hb5 hB5 hf5
        go_wp2_with (fail)
        go_ret2
        exact ⟨A5,N5,c5,by rw [HR2.out];rfl,by rw [HR2.out];exact HX5.out,HF5.out,HB5.out⟩
      · have HYC:=hid (of_decide_eq_true hdd)
        rw [hdd] at hd
        clear hdd
        cases kept
        · as_aux_lemma =>
          have HR2:Hid (replyD l false=(11 :: ((buildD g (cB 1)).1++[28,13]),true)):=hid (by rw [HR.out,if_pos ⟨HYC.out,by trivial⟩])
          obtain ⟨hbu,hgd⟩:=HA2.out (cB 1) (by decide +kernel)
          have HGD:=hid hgd
          have HBU2:Hid ((buildD g (cB 1)).2=0):=hid (by rw [hbu])
          have HBL:=hid (buildD_len g (cB 1))
          clear hbu hgd
          go_wp2_with (with_reducible refine wpList_loadHG G g (by kernel_rfl) (by kernel_rfl) HX3.out ?_)
          refine (ackBuild g (cB 1) w3 (HC.out _ HB3.out) (by have:=HSU.out;omega) (by decide)).mono ?_
          rintro e w4 ⟨A4,c4,rfl,hB4,hb4⟩
          have HB4:=hid (HB3.out.trans (hb4.mono HB3.out.size))
          have HX4:=hid hB4
          clear hb4 hB4 HX3 HB3
          rw [HBU2.out]
          obtain ⟨X,hX⟩:∃ X,X=(buildD g (cB 1)).1:=⟨_,rfl⟩
          rw [← hX] at HR2 HGD HX4 HBL ⊢
          clear hX
          obtain ⟨N,hN⟩:∃ N,N=X.length:=⟨_,rfl⟩
          have HNN:Hid (N≤1000000):=hid (by rw [hN];have:=HBL.out;have:=HSU.out;have h2:=HCD.out.2;have h3:(cB 1).size=2:=rfl;omega)
          rw [← hN] at HX4 ⊢
          clear hN HBL
          go_wp2_with (fail)
          refine (frameWrap_new A4 N c4 X w4 (HS.out _ HB4.out) HX4.out HGD.out (by have:=HNN.out;omega)).mono ?_
          rintro e w5 ⟨A5,c5,rfl,hB5,hf5,hb5⟩
          rw [show ((11:UInt8) :: (X++[28,13])).length=X.length+2+1 from by simp] at hB5 ⊢
          obtain ⟨N5,hN5⟩:∃ N5,N5=X.length+2+1:=⟨_,rfl⟩
          rw [← hN5] at hB5 ⊢
          clear hN5
          have HB5:=hid (HB4.out.trans (hb5.mono HB4.out.size))
          have HX5:=hid hB5
          have HF5:=hid (fun b h=>Nat.le_trans HB4.out.size (hf5 b h))
          clear hb5 hB5 hf5
          go_wp2_with (fail)
          go_ret2
          exact ⟨A5,N5,c5,by rw [HR2.out];rfl,by rw [HR2.out];exact HX5.out,HF5.out,HB5.out⟩
        · as_aux_lemma =>
          have HR2:Hid (replyD l true=(11 :: ((buildD g cd).1++[28,13]),true)):=hid (by rw [HR.out,if_neg (fun h=>by simp at h)])
          obtain ⟨hbu,hgd⟩:=HA2.out cd HCD.out.1
          have HGD:=hid hgd
          have HBU2:Hid ((buildD g cd).2=0):=hid (by rw [hbu])
          have HBL:=hid (buildD_len g cd)
          clear hbu hgd
          go_wp2_with (with_reducible refine wpList_loadHG G g (by kernel_rfl) (by kernel_rfl) HX3.out ?_)
          refine (ackBuild g cd w3 (HC.out _ HB3.out) (by have:=HSU.out;omega) (by rw [HCD.out.2];decide)).mono ?_
          rintro e w4 ⟨A4,c4,rfl,hB4,hb4⟩
          have HB4:=hid (HB3.out.trans (hb4.mono HB3.out.size))
          have HX4:=hid hB4
          clear hb4 hB4 HX3 HB3
          rw [HBU2.out]
          obtain ⟨X,hX⟩:∃ X,X=(buildD g cd).1:=⟨_,rfl⟩
          rw [← hX] at HR2 HGD HX4 HBL ⊢
          clear hX
          obtain ⟨N,hN⟩:∃ N,N=X.length:=⟨_,rfl⟩
          have HNN:Hid (N≤1000000):=hid (by rw [hN];have:=HBL.out;have:=HSU.out;have h2:=HCD.out.2;have h3:(cB 1).size=2:=rfl;omega)
          rw [← hN] at HX4 ⊢
          clear hN HBL
          go_wp2_with (fail)
          refine (frameWrap_new A4 N c4 X w4 (HS.out _ HB4.out) HX4.out HGD.out (by have:=HNN.out;omega)).mono ?_
          rintro e w5 ⟨A5,c5,rfl,hB5,hf5,hb5⟩
          rw [show ((11:UInt8) :: (X++[28,13])).length=X.length+2+1 from by simp] at hB5 ⊢
          obtain ⟨N5,hN5⟩:∃ N5,N5=X.length+2+1:=⟨_,rfl⟩
          rw [← hN5] at hB5 ⊢
          clear hN5
          have HB5:=hid (HB4.out.trans (hb5.mono HB4.out.size))
          have HX5:=hid hB5
          have HF5:=hid (fun b h=>Nat.le_trans HB4.out.size (hf5 b h))
          clear hb5 hB5 hf5
          go_wp2_with (fail)
          go_ret2
          exact ⟨A5,N5,c5,by rw [HR2.out];rfl,by rw [HR2.out];exact HX5.out,HF5.out,HB5.out⟩
end
section
open Go.RowKit Go.Conc
def wpN (P:Program) (c:Code) (Q:Exit→Act→World→Prop) (a:Act) (w:World):Prop :=
  ∀ (b:Frame) (k:List Item) (cs:List Frame),b.kind≠.early→∃ e a' w',Q e a' w'∧Arrives P (lone (b.at a (.code c :: k)) cs w) b k cs e a' w'
def opsN (P:Program) (ops:Array Oper) (Q:Exit→Act→World→Prop) (l:List Nat) (a:Act) (w:World):Prop :=
  ∀ (b:Frame) (k:List Item) (cs:List Frame),b.kind≠.early→∃ e a' w',Q e a' w'∧Arrives P (lone (b.at a (.inRegion ops l :: k)) cs w) b k cs e a' w'
section
variable {P:Program} {Q:Exit→Act→World→Prop} {a:Act} {w w':World}
theorem wpN_of {c:Code} (h:c.wp P Q a w):wpN P c Q a w:=fun b k cs _=>h b k cs
theorem wpN_past {x:Item} {b:Frame} {k:List Item} {cs:List Frame} {e:Exit} {a':Act} {w':World} {m:Machine} (hx:x.plain=true) (he:e≠.normal) (hq:Q e a' w') (h:Arrives P m b (x :: k) cs e a' w') :
    ∃ e a' w',Q e a' w'∧Arrives P m b k cs e a' w':=⟨e,a',w',hq,.pass hx (fun _ _=>.inl he) h⟩
theorem wpN_seqN {x y:Code} (h:wpN P x (Exit.then (fun a w=>wpN P y Q a w) Q) a w):wpN P (.seq x y) Q a w:=by
  intro b k cs hb
  obtain ⟨e,a1,w1,hq,harr⟩:=h b (.code y :: k) cs hb
  have hs:Steps P (lone (b.at a (.code (.seq x y) :: k)) cs w) (lone (b.at a (.code x :: .code y :: k)) cs w):=.one step_seq
  by_cases hn:e=.normal
  · subst hn
    obtain ⟨e2,a2,w2,hq2,harr2⟩:=hq b k cs hb
    exact ⟨e2,a2,w2,hq2,.of_steps (hs.trans harr) harr2⟩
  · have hq':Q e a1 w1:=by cases e <;> first | exact hq | exact absurd rfl hn
    exact wpN_past (x:=.code y) rfl hn hq' (.of_steps hs harr)
theorem wpN_seq {x y:Code} (h:x.wp P (Exit.then (fun a w=>wpN P y Q a w) Q) a w):wpN P (.seq x y) Q a w:=wpN_seqN (wpN_of h)
theorem wpN_cond {c:Operand} {x y:Code} {t:Bool} (hc:a.eval c=.bool t) (h:wpN P (if t then x else y) Q a w):wpN P (.cond c x y) Q a w :=
  fun b k cs hb=>let ⟨e,a',w',q,r⟩:=h b k cs hb;⟨e,a',w',q,.of_steps (.one (step_cond hc)) r⟩
theorem wpN_block {id:Nat} {c:Code} (h:wpN P c (Exit.inBlock id Q) a w):wpN P (.block id c) Q a w:=by
  intro b k cs hb
  obtain ⟨e,a1,w1,hq,harr⟩:=h b (.inBlock id :: k) cs hb
  have hs:Steps P (lone (b.at a (.code (.block id c) :: k)) cs w) (lone (b.at a (.code c :: .inBlock id :: k)) cs w):=.one step_block
  cases e with
  | normal=>exact ⟨.normal,a1,w1,hq,hs.trans (Steps.trans harr (.one step_inBlock))⟩
  | exit i =>
    by_cases hid:i=id
    · simp only [Exit.inBlock,hid,if_true] at hq
      exact ⟨.normal,a1,w1,hq,hs.trans (harr k (by simp [exitTo,hid]))⟩
    · simp only [Exit.inBlock,hid,if_false] at hq
      have hne:(id == i)=false:=by simpa using fun h=>hid h.symm
      exact ⟨.exit i,a1,w1,hq,fun k' hk=>hs.trans (harr k' (by simp [exitTo,hne,hk]))⟩
  | goto l=>exact ⟨.goto l,a1,w1,hq,fun k' hk=>hs.trans (harr k' (by simp [gotoIn,hk]))⟩
  | ret=>exact ⟨.ret,a1,w1,hq,.of_steps hs harr⟩
  | panic ch=>exact ⟨.panic ch,a1,w1,hq,.of_steps hs harr⟩
  | outgrown=>exact ⟨.outgrown,a1,w1,hq,.of_steps (b:=b) (k:=k) (cs:=cs) (e:=.outgrown) hs harr⟩
theorem wpN_loop {c:Code} (I:Act→World→Prop) (μ:Act→World→Nat) (h0:I a w) (round:∀ a w,I a w→wpN P c (Exit.then (fun a' w'=>I a' w'∧μ a' w'<μ a w) Q) a w):wpN P (.loop c) Q a w:=by
  intro b k cs hb
  have key:∀ n a w,μ a w≤n→I a w→∃ e a' w',Q e a' w'∧Arrives P (lone (b.at a (.code c :: .inLoop c :: k)) cs w) b k cs e a' w':=by
    intro n
    induction n with
    | zero =>
      intro a w hn hI
      obtain ⟨e,a1,w1,hq,harr⟩:=round a w hI b (.inLoop c :: k) cs hb
      by_cases hne:e=.normal
      · subst hne;have:=hq.2;omega
      · have hq':Q e a1 w1:=by cases e <;> first | exact hq | exact absurd rfl hne
        exact wpN_past (x:=.inLoop c) rfl hne hq' harr
    | succ n ih =>
      intro a w hn hI
      obtain ⟨e,a1,w1,hq,harr⟩:=round a w hI b (.inLoop c :: k) cs hb
      by_cases hne:e=.normal
      · subst hne
        obtain ⟨hI1,hlt⟩:=hq
        obtain ⟨e2,a2,w2,hq2,harr2⟩:=ih a1 w1 (by omega) hI1
        exact ⟨e2,a2,w2,hq2,.of_steps (Steps.trans harr (.one step_inLoop)) harr2⟩
      · have hq':Q e a1 w1:=by cases e <;> first | exact hq | exact absurd rfl hne
        exact wpN_past (x:=.inLoop c) rfl hne hq' harr
  obtain ⟨e,a',w',hq,harr⟩:=key _ a w (Nat.le_refl _) h0
  exact ⟨e,a',w',hq,.of_steps (.one step_loop) harr⟩
theorem wpN_region {id:Nat} {ops:Array Oper} (h:opsN P ops Q (List.range ops.size) a w):wpN P (.region id ops false) Q a w :=
  fun b k cs hb=>let ⟨e,a',w',q,r⟩:=h b k cs hb;⟨e,a',w',q,.of_steps (.one step_region) r⟩
theorem opsN_value {ops:Array Oper} {i:Nat} {l:List Nat} {o:Oper} {v:Value} (ho:ops[i]?=some o) (hw:Region.wanted o (yielded ops a.tmps)=true) (hr:(execOp a.eval o).run P w=.ok (.value v) w') (h:opsN P ops Q l (a.put o.dst v) w'):opsN P ops Q (i :: l) a w:=by
  intro b k cs hb
  obtain ⟨e,a',w2,hq,harr⟩:=h b k cs hb
  refine ⟨e,a',w2,hq,.of_steps (.one (step_lone_go ?_)) harr⟩
  rw [stepG_op (P:=P) (b:=b) (k:=k) (cs:=cs) (w:=w) (rest:=l) ho hw]
  have hf:(b.at a (.inRegion ops (i :: l) :: k)).finish v=b.at (a.put o.dst v) (.inRegion ops l :: k):=by rw [Frame.finish_at,ho];rfl
  rw [← hf]
  simp [stepG.apply,hr]
theorem opsN_nil {ops:Array Oper} (h:Q .normal a w):opsN P ops Q [] a w:=fun _ _ _ _=>⟨.normal,a,w,h,.one step_region_end⟩
theorem opsN_comm {ops:Array Oper} {i:Nat} {l:List Nat} {o:Oper} {v:Value} {cases:Array CommCase} {shape:CommShape} {w1 w2:World} (ho:ops[i]?=some o) (hw:Region.wanted o (yielded ops a.tmps)=true) (hr:(execOp a.eval o).run P w=.ok (.comm cases true shape) w1)
    (hs:∀ fr cs es,stepG P true (G fr cs) w=.comm (G fr cs) cases true shape w1 es→step P (solo (G fr cs) w)=.next (solo (G (fr.finish v) cs) w2)) (h:opsN P ops Q l (a.put o.dst v) w2):opsN P ops Q (i :: l) a w:=by
  intro b k cs hb
  obtain ⟨e,a',w3,hq,harr⟩:=h b k cs hb
  refine ⟨e,a',w3,hq,.of_steps (.one ?_) harr⟩
  have hf:(b.at a (.inRegion ops (i :: l) :: k)).finish v=b.at (a.put o.dst v) (.inRegion ops l :: k):=by rw [Frame.finish_at,ho];rfl
  have:=hs _ cs _ (stepG_comm (P:=P) (main:=true) (b:=b) (k:=k) (cs:=cs) (rest:=l) ho hw hb hr)
  rw [hf] at this
  exact this
theorem bodyN {f:FuncId} {fn:Func} {c:Code} {args:Array Value} {R:Ending→World→Prop} (kd:CallKind) (hk:kd≠.early) (hf:P.funcs[f]?=some fn) (hc:fn.body=some c) (h:wpN P c (bodyPost P fn R) { tmps:=args++Array.replicate (fn.ntmps-args.size) undef,defers:=[] } w) (cs:List Frame) :
    ∃ e w' fr,R e w'∧Comes P (lone (Frame.enter P f args kd) cs w) (lone fr cs w') e∧fr.fn=f∧fr.kind=kd∧fr.going P w' e:=by
  let b:Frame:={ (default:Frame) with fn:=f,kind:=kd }
  have henter:Frame.enter P f args kd=b.at { tmps:=args++Array.replicate (fn.ntmps-args.size) undef,defers:=[] } [.code c]:=by
    simp [Frame.enter,Frame.at,hf,hc,b]
  obtain ⟨e,a',w',hq,harr⟩:=h b [] cs hk
  rw [← henter] at harr
  cases e with
  | normal =>
    obtain ⟨hd,v,hr,hR⟩:=hq
    exact ⟨.returned v,w',_,hR,Steps.trans harr (.one step_end),rfl,rfl,rfl,hd,fn,hf,hr⟩
  | ret =>
    obtain ⟨hd,v,hr,hR⟩:=hq
    obtain ⟨todo,hs⟩:=harr
    exact ⟨.returned v,w',_,hR,hs,rfl,rfl,rfl,hd,fn,hf,hr⟩
  | panic chain =>
    obtain ⟨hd,hR⟩:=hq
    obtain ⟨todo,hs⟩:=harr
    exact ⟨.panicked chain,w',_,hR,hs,rfl,rfl,rfl,hd,fn,hf⟩
  | exit id=>exact hq.elim
  | goto l=>exact hq.elim
  | outgrown=>exact ⟨.outgrown,w',b,hq,harr.resolve_left hk,rfl,rfl,trivial⟩
theorem callsN {f:FuncId} {fn:Func} {c:Code} {args:Array Value} {R:Ending→World→Prop} (hf:P.funcs[f]?=some fn) (hc:fn.body=some c) (h:wpN P c (bodyPost P fn R) { tmps:=args++Array.replicate (fn.ntmps-args.size) undef,defers:=[] } w):Calls P f args w R:=by
  intro cs
  obtain ⟨e,w',fr,hR,hs,hfn,hkd,hg⟩:=bodyN .normal (by decide) hf hc h cs
  refine ⟨e,w',fr,hR,hs,hfn,?_⟩
  cases e with
  | returned v=>exact ⟨hg.1,hg.2.1,hkd,hg.2.2⟩
  | panicked chain=>exact hg
  | outgrown=>trivial
theorem callsDN {f:FuncId} {fn:Func} {c:Code} {args:Array Value} {u:FrameMode} {R:Ending→World→Prop} (hf:P.funcs[f]?=some fn) (hc:fn.body=some c) (h:wpN P c (bodyPost P fn R) { tmps:=args++Array.replicate (fn.ntmps-args.size) undef,defers:=[] } w):CallsD P f args u w fun e u' w'=>u'=u∧R e w':=by
  intro c0 cs hu
  obtain ⟨e,w',fr,hR,hs,_,hkd,hg⟩:=bodyN .deferred (by decide) hf hc h (c0 :: cs)
  refine ⟨e,u,w',fr,⟨rfl,hR⟩,?_,hkd,hg⟩
  rw [show ({ c0 with mode:=u }:Frame)=c0 from by subst hu;rfl]
  exact hs
end
end
section
open Go.RowKit Go.MapKept
def keepD (d:Dk) (fs:Fs) (g:Nat) (l:List UInt8):Out:=if (verdictD l).2.1=cB 0 then addD d fs nmI g l else (.inl 1,d,fs)
def endB:Int ⊕ Int→Ending
  | .inl x=>.returned (.bool (decide (x=0)))
  | .inr op=>.panicked [{ v:=crashI op,recovered:=false }]
def KPost (Z:Nat→Prop) (B D M L Q X:Nat) (O:Option Nat) (F:List Ent) (T:List (List UInt8)) (g:Nat) (v:Value) (most:Nat) (s:St) (va:Value) (an:List (List UInt8)) (sn kp:Nat) (w:World) (l:List UInt8) (r:Out) (e:Ending) (w':World):Prop :=
  ∃ F' v',e=endB r.1∧fsOf F'=r.2.2∧IB Z w' B D M L Q X O r.2.1 F' (if r.1=.inl 0 then T++[l] else T) (if r.1=.inl 0 then g+(record l).length else g) v' most s va an sn (if r.1=.inl 0 then kp+1 else kp)∧ICh (FI L D M Q X O F v va) (FI L D M Q X O F' v' va) w w'
theorem keepD_ok {d:Dk} {fs:Fs} (ok:FsOk d fs) (ho:d.ops+8≤1152921504606846976) (g:Nat) (b:List UInt8):FsOk (keepD d fs g b).2.1 (keepD d fs g b).2.2∧(keepD d fs g b).2.1.ops≤d.ops+3:=by
  unfold keepD
  split
  · exact addD_ok ok ho nmI g b
  · exact ⟨ok,by show d.ops≤d.ops+3;omega⟩
section
variable {Z:Nat→Prop} {w:World} {B D M L Q X g sn kp most:Nat} {O:Option Nat} {d:Dk} {F:List Ent} {T:List (List UInt8)} {v va:Value} {s:St} {an:List (List UInt8)}
set_option maxRecDepth 100000 in
set_option maxHeartbeats 4000000 in
theorem mKeep (h:IB Z w B D M L Q X O d F T g v most s va an sn kp) (hv:Vers w) (ok:FsOk d (fsOf F)) (ho:d.ops+8≤1152921504606846976) (A:Option Addr) (c:Nat) (l:List UInt8) (hl:Bs w A l.length c l) (hln:l.length≤1000000)
    (hoff:0<l.length→∀ b,A=some b→¬ DFoot D M F b.block) (hg:g≤1099511000000) (hn:T.length≤1099511627770) (hBw:B≤w.heap.size) (hkp:kp≤1099511627770) :
    Calls Tryz.prog 53 #[pI X,.slice A l.length c] w (KPost Z B D M L Q X O F T g v most s va an sn kp w l (keepD d (fsOf F) g l)):=by
  have HS:=hid (stored_ A l.length c l w hv hl hln)
  have HL:=hid hl
  have H:=hid h
  have HA:Hid (∀ W,Below w.heap.size w W→Calls Tryz.prog 83 #[pL L,.slice A l.length c] W (KEnd (fun k=>Z k∨k=X∨dS Q O k∨va.ownBlock=some k) B L D M F nmI T g v W l (record l).length (addD d (fsOf F) nmI g l))):=hid (fun W hb =>
    walAdd (h.lg.below hb) (h.dk.below hb) ok ho (by decide) A c l (hl.below hb) hoff hg hn (Nat.le_trans hBw hb.size) (fun k hk=>by
      have:=hb.size
      have hf:=fun j hj=>(h.foot_lt (k:=j) hj).2
      rcases hk with hk|hk|hk|hk
      · have:=(h.zl k hk).1;omega
      · have:=hf k (.inl hk);omega
      · have:=hf k (.inr (.inl hk));omega
      · have:=hf k (.inr (.inr (.inr hk)));omega))
  have HKP:=hid hkp
  clear h hv ok ho hl hln hoff hg hn hBw hkp
  go_enter Tryz.func53,Tryz.ntmps53
  cases hst:decide ((verdictD l).2.1=cB 0)
  · have hK:keepD d (fsOf F) g l=(.inl 1,d,fsOf F):=if_neg (by simpa using hst)
    go_wp2_with (fail)
    refine HS.out.mono ?_
    rintro e w1 ⟨rfl,hb1⟩
    have HB1:=hid hb1
    have HK:=hid hK
    rw [hst]
    clear hb1 hK hst
    go_wp2_with (fail)
    go_ret
    rw [HK.out]
    exact ⟨F,v,rfl,rfl,H.out.below HB1.out,.of_below HB1.out⟩
  · have hK:keepD d (fsOf F) g l=addD d (fsOf F) nmI g l:=if_pos (by simpa using hst)
    have HK:=hid hK
    go_wp2_with (fail)
    refine HS.out.mono ?_
    rintro e w1 ⟨rfl,hb1⟩
    have HB1:=hid hb1
    rw [hst]
    have c1:=(H.out.below hb1).cell 1
    simp only [List.getElem?_toArray,List.getElem?_cons_zero,List.getElem?_cons_succ] at c1
    clear hb1 hK hst
    go_wp2_with (fail)
    refine (HA.out w1 HB1.out).mono ?_
    rintro e w2 ⟨F',v',he,h2,h3,h4,h5⟩
    have HI:Hid (IB Z w2 B D M L Q X O (addD d (fsOf F) nmI g l).2.1 F' (if (addD d (fsOf F) nmI g l).1=.inl 0 then T++[l] else T) (if (addD d (fsOf F) nmI g l).1=.inl 0 then g+(record l).length else g) v' most s va an sn kp):=hid ((H.out.below HB1.out).log h5 h2 h4)
    have HC:Hid (ICh (FI L D M Q X O F v va) (FI L D M Q X O F' v' va) w w2):=hid ((ICh.of_below HB1.out).trans (.of_wl h5))
    have H3:=hid h3
    clear h2 h3 h4 h5 c1
    generalize addD d (fsOf F) nmI g l=r at *
    obtain ⟨x|op,s2⟩:=r
    · obtain rfl:e=.returned (.int .i64 x):=he
      by_cases hx:x=0
      · subst hx
        have c4:=HI.out.cell 4
        simp only [List.getElem?_toArray,List.getElem?_cons_zero,List.getElem?_cons_succ] at c4
        have f4:=HI.out.frozen 4
        have ew:IntKind.i64.wrap ((kp:Int)+1)=((kp+1:Nat):Int):=by have:=HKP.out;rw [IntKind.wrap_i64];omega
        go_wp2_with (fail)
        go_ret
        rw [HK.out]
        have hcs:Ch (At1 X) w2 (w2.setCell ⟨X,4,none⟩ (.int .i64 ((kp+1:Nat):Int))):=(Ch.refl _ w2).set1 4 _
        refine ⟨F',v',rfl,H3.out,?_,HC.out.trans (.wide hcs (fun k hk=>.inl hk) (fun k hk=>.inl hk) (fun k hk=>.inl hk))⟩
        simp only [if_true]
        exact (by simpa using HI.out:IB _ _ _ _ _ _ _ _ _ _ _ _ _ _ _ _ _ _ _ _).setRow hcs (heap_set_row HI.out.row _)
      · have hxd:decide (x=0)=false:=by simpa using hx
        go_wp2_with (fail)
        go_ret
        rw [HK.out]
        have hxx:¬ ((.inl x:Int ⊕ Int)=.inl 0):=fun e=>hx (by injection e)
        have hi:=HI.out
        simp only [if_neg hxx] at hi
        refine ⟨F',v',by simp [endB,hxd],H3.out,?_,HC.out⟩
        simp only [if_neg hxx]
        exact hi
    · obtain rfl:e=.panicked [{ v:=crashI op,recovered:=false }]:=he
      refine ⟨rfl,?_⟩
      rw [HK.out]
      exact ⟨F',v',rfl,H3.out,HI.out,HC.out⟩
end
end
end Go.Proofs.YtodjilljcjkacaaGreatDoor
