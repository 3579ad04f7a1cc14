/- Laid together: Builder, SegQ, Delim. -/
import Derived.Test.YtodjilljcjkacaaGreatDoorPkIB19
import Derived.Lib.Builder
import Derived.Lib.AppendStr
import Derived.Lib.UnsafeStr
import Derived.Laws.Externs
import Derived.LoopTactic
import Derived.BigQuiet
import Derived.Deep.RegionLaw
import Derived.Lib.Bytealg
import Derived.Laws.StructEq

namespace Go.Proofs.YtodjilljcjkacaaGreatDoor
open Lib (hid)
section
open Go.RowKit
abbrev TB:TypeId:=214
abbrev Bu (B b:Nat) (l:List UInt8) (w:World):Prop:=Lib.IsBuilder TB 5 B b (Lib.byteCells l) w
abbrev BuAt (B b:Nat) (l:List UInt8) (w:World):Prop:=Lib.BuilderAt TB 5 B b (.pointer (some ⟨b,0,none⟩)) (Lib.byteCells l) w
theorem buSize:(Tryz.prog.info? TB).map (·.size)=some 2:=by kernel_rfl
theorem buLies:liesAt Tryz.prog Tryz.prog.depth TB (2 / Tryz.prog.cellsOf TB) 0 TB 1=true:=by kernel_rfl
theorem Bu.new {B:Nat} {w:World} (hB:B≤w.heap.size):Bu B w.heap.size [] (w.alloc (.cells #[.pointer none,.slice none 0 0] TB)) :=
  .inl ⟨hB,_,heap_alloc_new w _,World.ownsRow_nil _ B 5 1,by simp [Value.ownBlock]⟩
theorem Bu.base {B b:Nat} {l:List UInt8} {w:World} (h:Bu B b l w):B≤b:=by
  rcases h with h|h <;> exact h.1
set_option maxHeartbeats 1000000 in
set_option maxRecDepth 100000 in
theorem buCheck (B b:Nat) (l:List UInt8) (w:World) (h:Bu B b l w) :
    Calls Tryz.prog 180 #[.pointer (some ⟨b,0,none⟩)] w fun e w'=>e=.returned (.tuple #[])∧BuAt B b l w'∧Below B w w'∧w'.heap.size=w.heap.size:=by
  obtain ⟨j,hj,hjs⟩:=Option.map_eq_some_iff.1 buSize
  rcases h with h|h
  · have c0:=h.cell0
    have hsh:=h.shape
    have hfz:=h.frozen0
    have H:=hid h
    clear h
    go_enter Tryz.func180,Tryz.ntmps180
    go_wp2
    rw [Lib.run_to_unsafe w ⟨b,0,none⟩ Tryz.underlying212 Tryz.underlying237 hj (by rw [hjs];decide) hsh (Nat.zero_lt_succ 1)]
    simp only [Result.andThen]
    rw [Oper.upon_value]
    go_wp2
    rw [run_callFunc_extern Tryz.func194 (by kernel_rfl) (by kernel_rfl) (by kernel_rfl) (e:=Extern.AbiNoEscape.same) (by kernel_rfl)]
    rw [Lib.run_noEscape]
    simp only [Result.andThen]
    rw [Oper.upon_value]
    go_wp2
    rw [Lib.run_from_unsafe w ⟨b,0,none⟩ Tryz.underlying237 Tryz.underlying212 hj hsh buLies]
    simp only [Result.andThen]
    rw [Oper.upon_value]
    go_wp2
    go_end0
    exact ⟨rfl,H.out.used _,(Below.refl B w).setCell (p:=⟨b,0,none⟩) H.out.1 _,by simp [World.setCell]⟩
  · have c0:=h.cell0
    have H:=hid h
    clear h
    go_enter Tryz.func180,Tryz.ntmps180
    go_wp2
    rw [Lib.run_neq_ptr_same w _ Tryz.underlying212 hj]
    go_wp2
    go_end0
    exact ⟨rfl,H.out,Below.refl B _,rfl⟩
theorem BuAt.rows {B b:Nat} {l:List UInt8} {w:World} (h:BuAt B b l w):∃ v,w.heap[b]?=some (.cells #[.pointer (some ⟨b,0,none⟩),v] TB)∧Own 5 w B v l∧v.ownBlock≠some b:=by
  obtain ⟨hB,v,h2,h3,h4⟩:=h
  exact ⟨v,h2,by unfold Own;have:=h3;rw [Lib.byteCells_length] at this;exact this,h4⟩
theorem BuAt.wrote {B b:Nat} {l2:List UInt8} {w1 w2:World} {v v2:Value} (hB:B≤b) (hb:w1.heap[b]?=some (.cells #[.pointer (some ⟨b,0,none⟩),v] TB)) (hgr:w1.grownBy w2 v.ownBlock) (hne:v.ownBlock≠some b) (hown:Own 5 w2 B v2 l2) (hlow:∀ k,v.ownBlock=some k→B≤k) (hBw:B≤w1.heap.size) :
    w2.cell? ⟨b,1,none⟩=some v∧w2.frozen? ⟨b,1,none⟩=false∧Hid (Bu B b l2 (w2.setCell ⟨b,1,none⟩ v2)∧Below B w1 (w2.setCell ⟨b,1,none⟩ v2)):=by
  have hlt:=(Array.getElem?_eq_some_iff.1 hb).1
  have hb2:w2.heap[b]?=some (.cells #[.pointer (some ⟨b,0,none⟩),v] TB):=by rw [hgr.block b hlt (fun e=>hne e.symm)];exact hb
  have hch:Ch (fun k=>v.ownBlock=some k) w1 w2:=Ch.of_grown hgr (fun k hk=>hk)
  refine ⟨by rw [cell_of_row w2 b 1 _ _ _ hb2];rfl,by simp [World.frozen?,hb2],hid ⟨.inr ⟨hB,v2,heap_setCell_same w2 b 1 _ _ v2 hb2,?_,?_⟩,(hch.below hlow hBw).setCell (p:=⟨b,1,none⟩) hB _⟩⟩
  · have h5:Own 5 (w2.setCell ⟨b,1,none⟩ v2) B v2 l2:=hown.ch ((Ch.refl (fun k=>k=b) w2).set (a:=⟨b,1,none⟩) rfl v2) (fun k hk hkb=>by
      rw [hkb] at hk
      exact own_ne (show w2.ownsRow B 5 1 v2 l2.length (u8s l2) from hown) hb2 (by decide) hk.symm)
    unfold Own at h5
    rw [Lib.byteCells_length]
    exact h5
  · exact fun e=>own_ne (show w2.ownsRow B 5 1 v2 l2.length (u8s l2) from hown) hb2 (by decide) e.symm
set_option maxHeartbeats 2000000 in
set_option maxRecDepth 100000 in
theorem buByte (B b:Nat) (l:List UInt8) (c:UInt8) (w:World) (h:Bu B b l w) (hlen:l.length≤1099511627000) (hBw:B≤w.heap.size) :
    Calls Tryz.prog 162 #[.pointer (some ⟨b,0,none⟩),.int .u8 (c.toNat:Int)] w fun e w'=>e=.returned .nilIface∧Bu B b (l++[c]) w'∧Below B w w':=by
  have H:=hid h
  have hBb:=h.base
  clear h
  go_enter Tryz.func162,Tryz.ntmps162
  go_wp2_with (fail)
  refine (buCheck B b l w H.out).mono ?_
  rintro e w1 ⟨rfl,h1,hb1,hz1⟩
  have HZ1:Hid (B≤w1.heap.size):=hid (by omega)
  clear hz1
  obtain ⟨v,hr,hown,hne⟩:=h1.rows
  have c1:=cell_of_row w1 b 1 _ _ _ hr
  simp only [List.getElem?_toArray,List.getElem?_cons_zero,List.getElem?_cons_succ] at c1
  have hblt:=(Array.getElem?_eq_some_iff.1 hr).1
  have HBA:=hid ((Below.refl w1.heap.size w1).alloc (Nat.le_refl _) (.cells #[u8 c] 5))
  have HR:=hid ((HBA.out.block b hblt).trans hr)
  have HNE:=hid hne
  have HO:=hid (hown.below HBA.out)
  have HNW:=hid (newRow w1 c)
  have HON:=hid (oneRow c)
  have HB1:=hid hb1
  have HBZ:Hid (B≤(w1.alloc (.cells #[u8 c] 5)).heap.size):=hid (Nat.le_trans HZ1.out HBA.out.size)
  obtain ⟨Av,cv,hv⟩:=own_form (show w1.ownsRow B 5 1 v l.length (u8s l) from hown)
  subst hv
  have tok1:Hid True:=hid trivial
  clear h1 hr hown hne hb1
  go_wp2_with (at_builtin;have _t:=tok1;go_loud ((refine wpList_appAt rfl (.tmp 11) (.tmp 13) 40 rfl B 5 (.int .u8 0) 1 Tryz.underlying40 byteInfo rfl (by decide) (.slice Av l.length cv) l.length (u8s l) rfl HO.out ⟨w1.heap.size,0,none⟩ 1 1 [.int .u8 (c.toNat:Int)] rfl rfl HNW.out HON.out (by omega) HBZ.out ?_;intro v2 w2 hown2 hgr2 hfr2;have HO2:Hid (Own 5 w2 B v2 (l++[c])):=hid (by unfold Own;rw [List.length_append];simpa using hown2);obtain ⟨z1,z2,HW⟩:=BuAt.wrote hBb HR.out hgr2 HNE.out HO2.out (fun k hk=>(World.ownsRow.lt HO.out k hk).1) HBZ.out;obtain ⟨A2,c2,rfl⟩:=own_form hown2;clear tok1 hown2 hgr2 hfr2 _t)))
  go_ret
  exact ⟨rfl,HW.out.1,HB1.out.trans ((HBA.out.mono HZ1.out).trans HW.out.2)⟩
set_option maxHeartbeats 2000000 in
set_option maxRecDepth 100000 in
theorem buString_ (B b:Nat) (l s:List UInt8) (w:World) (h:Bu B b l w) (hlen:l.length+s.length≤1099511627000) (hBw:B≤w.heap.size) :
    Calls Tryz.prog 161 #[.pointer (some ⟨b,0,none⟩),.string (txt s)] w fun e w'=>e=.returned (.tuple #[.int .i64 (s.length:Int),.nilIface])∧Bu B b (l++s) w'∧Below B w w':=by
  have H:=hid h
  have hBb:=h.base
  clear h
  obtain ⟨i0,hi,hz0,hz1,hz2⟩:=info_parts (byteInfo:(Tryz.prog.info? 5).map (fun i=>(i.zero,i.size,i.bytes))=some (some (.int .u8 0),1,1))
  have HSZ:Hid ((txt s).size=s.length):=hid (by simp [ByteArray.size])
  have HSC:Hid (Lib.strCells (txt s)=u8s s):=hid (by simp [Lib.strCells,u8s])
  go_enter Tryz.func161,Tryz.ntmps161
  go_wp2_with (fail)
  refine (buCheck B b l w H.out).mono ?_
  rintro e w1 ⟨rfl,h1,hb1,hz1'⟩
  have HBZ:Hid (B≤w1.heap.size):=hid (by omega)
  clear hz1'
  obtain ⟨v,hr,hown,hne⟩:=h1.rows
  have c1:=cell_of_row w1 b 1 _ _ _ hr
  simp only [List.getElem?_toArray,List.getElem?_cons_zero,List.getElem?_cons_succ] at c1
  have HR:=hid hr
  have HNE:=hid hne
  have HO:=hid hown
  have HB1:=hid hb1
  obtain ⟨Av,cv,hv⟩:=own_form (show w1.ownsRow B 5 1 v l.length (u8s l) from hown)
  subst hv
  have tok1:Hid True:=hid trivial
  clear h1 hr hown hne hb1
  go_wp2_with (at_builtin;have _t:=tok1;go_loud ((refine Lib.wpList_append_own_string _ rfl (.tmp 12) (.tmp 13) 40 9 rfl B 5 i0 Tryz.underlying40 Tryz.underlying9 hi hz0 hz1 hz2 (.slice Av l.length cv) l.length (u8s l) rfl HO.out (txt s) rfl (by rw [HSZ.out];unfold maxLen;omega) (by rw [HSZ.out];omega) HBZ.out ?_;intro v2 w2 hown2 hgr2 hfr2;have HO2:Hid (Own 5 w2 B v2 (l++s)):=hid (by unfold Own;rw [List.length_append];rw [HSZ.out,HSC.out] at hown2;simpa using hown2);obtain ⟨z1,z2,HW⟩:=BuAt.wrote hBb HR.out hgr2 HNE.out HO2.out (fun k hk=>(World.ownsRow.lt HO.out k hk).1) HBZ.out;obtain ⟨A2,c2,rfl⟩:=own_form hown2;clear tok1 hown2 hgr2 hfr2 _t)))
  go_ret2
  exact ⟨by rw [← HSZ.out];rfl,HW.out.1,HB1.out.trans HW.out.2⟩
end
/- Layer 8: messages of segments,and the law's small functions,walked. -/
section
open Go.RowKit
theorem lens_getD (T:List (List UInt8)) (k:Nat) (hk:k<T.length):Lib.lens (T.take (k+1))=Lib.lens (T.take k)+(T.getD k []).length :=
  Lib.lens_take_succ T k _ (by rw [List.getD_eq_getElem?_getD,List.getElem?_eq_getElem hk];rfl)
theorem take_getD (T:List (List UInt8)) (k:Nat) (hk:k<T.length):T.take (k+1)=T.take k++[T.getD k []]:=by
  rw [List.take_succ_eq_append_getElem hk,List.getD_eq_getElem?_getD,List.getElem?_eq_getElem hk];rfl
def joinD (T:List (List UInt8)):List UInt8:=(T.map (·++[13])).flatten
theorem joinD_snoc (T:List (List UInt8)) (x:List UInt8):joinD (T++[x])=joinD T++x++[13]:=by simp [joinD]
theorem joinD_len (T:List (List UInt8)):(joinD T).length=Lib.lens T+T.length:=by
  induction T with
  | nil=>rfl
  | cons a r ih =>
    simp only [joinD,Lib.lens] at ih ⊢
    simp only [List.map_cons,List.flatten_cons,List.length_append,List.length_cons,List.length_nil,List.sum_cons]
    omega
theorem refName8 (s:ByteArray) (w:World):Calls Tryz.prog 166 #[.string s] w fun e w'=>e=.returned (.string (nameS s))∧w'=w:=by
  by_cases h:s.size<3
  · have d1:decide ((s.size:Int)<3)=true:=by simp;omega
    have hn:nameS s=s:=by
      unfold nameS
      apply ba_ext
      rw [ex_list,List.drop_zero,List.take_of_length_le]
      have:s.data.toList.length=s.size:=by simp
      omega
    rw [hn]
    clear hn
    go_enter Tryz.func166,Tryz.ntmps166
    go_wp2_with (fail)
    go_ret
    exact ⟨rfl,rfl⟩
  · have d1:decide ((s.size:Int)<3)=false:=by simp;omega
    have h3:(3:Int)≤s.size:=by omega
    have hn:nameS s=s.extract 0 3:=by unfold nameS;rw [show min s.size 3=3 by omega]
    rw [hn]
    clear hn
    go_enter Tryz.func166,Tryz.ntmps166
    go_wp2_with (fail)
    go_ret
    exact ⟨rfl,rfl⟩
set_option maxHeartbeats 2000000 in
set_option maxRecDepth 100000 in
theorem refSplit (A:Option Addr) (n cp:Nat) (l:List UInt8) (w:World) (hb:Bs w A n cp l) (hn:n≤1000000):Calls Tryz.prog 120 #[.slice A n cp] w (RetSs w (splitD l)):=by
  have hcv:=hb.str (P:=Tryz.prog) 40 5 9 Tryz.underlying40 Tryz.underlying5 Tryz.underlying9
  have hln:=hb.len
  have HTZ:Hid ((txt l).size≤1099511627000):=hid (by rw [txt_size'];omega)
  have HL:Hid ((cutAt 13 l).length≤n+1):=hid (by have:=cut_le 13 (txt l);rw [txt_size'] at this;rw [← hln];exact this)
  clear hb hln
  go_enter Tryz.func120,Tryz.ntmps120
  go_wp2_with (fail)
  refine (refCut (txt l) 13 w HTZ.out).mono ?_
  rintro e w2 ⟨A2,c2,rfl,hS2,hb2⟩
  rw [show (txt l).data.toList=l from rfl] at hS2 ⊢
  have HT:Hid (0<(cutAt 13 l).length):=hid (by rw [cutAt_length];omega)
  obtain ⟨m1,hm1⟩:∃ m1:Nat,((cutAt 13 l).length:Int)-1=(m1:Int):=⟨(cutAt 13 l).length-1,by have:=HT.out;omega⟩
  have HM1:Hid (m1+1=(cutAt 13 l).length):=hid (by have:=HT.out;omega)
  obtain ⟨b,o,rfl,_,hcell⟩:=hS2.read (i:=m1) (by have:=HM1.out;omega)
  have hx2:(cutAt 13 l).getD m1 []=(cutAt 13 l).getLastD []:=by
    rw [List.getLastD_eq_getLast?,List.getLast?_eq_getElem?,show (cutAt 13 l).length-1=m1 by have:=HM1.out;omega,List.getD_eq_getElem?_getD]
  rw [hx2] at hcell
  have HSP:Hid (splitD l=if (cutAt 13 l).getLastD []=[] then (cutAt 13 l).dropLast else cutAt 13 l):=hid rfl
  have HDL:Hid ((cutAt 13 l).dropLast=(cutAt 13 l).take m1):=hid (by rw [List.dropLast_eq_take,show (cutAt 13 l).length-1=m1 by have:=HM1.out;omega])
  have HS2:=hid hS2
  have HB2:=hid hb2
  have hcap:=hS2.le
  have hcm:=hS2.max
  clear hx2 hS2 hb2
  generalize cutAt 13 l=T at *
  generalize T.getLastD []=x at *
  have ew:IntKind.i64.wrap (m1:Int)=(m1:Int):=by rw [IntKind.wrap_i64];have:=HL.out;omega
  have hlt1:(m1:Int)<(T.length:Int):=by have:=HM1.out;omega
  have hlt2:(m1:Int)≤(c2:Int):=by have:=HM1.out;omega
  by_cases hx:x=[]
  · have dx:x.isEmpty=true:=by rw [hx];rfl
    have HSP2:Hid (splitD l=T.take m1):=hid (by rw [HSP.out,if_pos hx,HDL.out])
    clear hx
    go_wp2_with (fail)
    go_ret
    have hl4:(T.take m1).length=m1:=by rw [List.length_take];have:=HM1.out;omega
    refine ⟨some ⟨b,o,none⟩,c2,?_,?_,HB2.out⟩
    · rw [HSP2.out,hl4];rfl
    · rw [HSP2.out,hl4];exact HS2.out.take (by have:=HM1.out;omega)
  · have dx:x.isEmpty=false:=by
      cases x with
      | nil=>exact absurd rfl hx
      | cons=>rfl
    have HSP2:Hid (splitD l=T):=hid (by rw [HSP.out,if_neg hx])
    clear hx
    go_wp2_with (fail)
    go_ret
    refine ⟨some ⟨b,o,none⟩,c2,?_,?_,HB2.out⟩
    · rw [HSP2.out];rfl
    · rw [HSP2.out];exact HS2.out
set_option maxHeartbeats 2000000 in
set_option maxRecDepth 100000 in
theorem refJoin (A:Option Addr) (n cp:Nat) (T:List (List UInt8)) (w:World) (hS:Ss w A n cp T) (ht:Lib.lens T+T.length≤1048576):Calls Tryz.prog 130 #[.slice A n cp] w fun e w'=>e=.returned (.string (txt (joinD T)))∧Below w.heap.size w w':=by
  have HS:=hid hS
  have HT:=hid ht
  have hmax:=hS.nmax
  clear hS ht
  go_enter Tryz.func130,Tryz.ntmps130
  go_wp2_with (fail)
  go_loopw [3,4] (fun v i wr=>∃ k:Nat,k≤n∧i=.int .i64 k∧v=.string (txt (joinD (T.take k)))∧Below w.heap.size w wr) (fun _ i _=>n-(intOf i).toNat)
  case atStart=>exact ⟨0,Nat.zero_le _,rfl,rfl,Below.refl _ _⟩
  case round =>
    obtain ⟨k,hk,rfl,rfl,hb⟩:=hrel
    have HB:=hid hb
    clear hb
    have hTl:=HS.out.len
    by_cases hlt:k<n
    · have e1:(k:Int)<(n:Int):=by omega
      obtain ⟨b,o,rfl,_,hc⟩:=(HS.out.below HB.out).read hlt
      have hTk:=take_getD T k (by omega)
      have hl2:(T.take (k+1)).length=k+1:=by rw [List.length_take];omega
      have hJ:(joinD (T.take (k+1))).length≤1048576:=by
        rw [joinD_len]
        have hle:=Lib.lens_take_le T (k+1)
        have hTT:=HT.out
        omega
      obtain ⟨y,hy⟩:∃ y,y=T.getD k []:=⟨_,rfl⟩
      rw [← hy] at hTk hc
      rw [hTk,joinD_snoc,List.length_append,List.length_append] at hJ
      rw [show ([13]:List UInt8).length=1 from rfl] at hJ
      have HTK:Hid (joinD (T.take (k+1))=joinD (T.take k)++y++[13]):=hid (by rw [hTk,joinD_snoc])
      generalize joinD (T.take k)=J at *
      have ha1:=fun W=>add_run (txt J) (txt y) (by rw [txt_size',txt_size'];omega) W
      have ha2:=fun W=>add_run (txt (J++y)) ⟨#[13]⟩ (by rw [txt_size',List.length_append];show J.length+y.length+1≤_;omega) W
      have h1:¬ 9223372036854775807<J.length+y.length:=by omega
      have h2:¬ 9223372036854775807<J.length+y.length+1:=by omega
      have HLT:=hid hlt
      clear hTk hl2 hy hlt hTl hJ
      go_wp2_with (fail)
      exact ⟨⟨k+1,HLT.out,by go_num,by rw [HTK.out,txt_append,txt_append],HB.out⟩,by have:=HLT.out;simp [intOf];omega⟩
    · obtain rfl:k=n:=by omega
      rw [List.take_of_length_le (by omega)]
      go_wp2_with (fail)
      go_ret
      exact ⟨rfl,HB.out⟩
theorem own_snoc {w:World} {B:Nat} {v:Value} {l:List UInt8} {c:UInt8} (h:w.ownsRow B 5 1 v (l.length+1) (u8s l++[.int .u8 (c.toNat:Int)])):Own 5 w B v (l++[c]):=by
  unfold Own
  rw [List.length_append,show u8s (l++[c])=u8s l++[u8 c] from List.map_append ..]
  exact h
def RetB (w:World) (l:List UInt8) (e:Ending) (w':World):Prop :=
  ∃ A c,e=.returned (.slice A l.length c)∧Bs w' A l.length c l∧Below w.heap.size w w'
set_option maxHeartbeats 4000000 in
set_option maxRecDepth 100000 in
theorem segJoin (A:Option Addr) (n cp:Nat) (T:List (List UInt8)) (w:World) (hS:Ss w A n cp T) (ht:Lib.lens T+T.length≤1048576):Calls Tryz.prog 117 #[.slice A n cp] w (RetB w (joinD T)):=by
  have HS:=hid hS
  have HT:=hid ht
  have hmax:=hS.nmax
  obtain ⟨i0,hi,hz0,hz1,hz2⟩:=info_parts (byteInfo:(Tryz.prog.info? 5).map (fun i=>(i.zero,i.size,i.bytes))=some (some (.int .u8 0),1,1))
  clear hS ht
  go_enter Tryz.func117,Tryz.ntmps117
  go_wp2_with (fail)
  go_loopw [3,8,5] (fun v i _ wr=>∃ k:Nat,k≤n∧i=.int .i64 k∧Own 5 wr w.heap.size v (joinD (T.take k))∧Below w.heap.size w wr) (fun _ i _ _=>n-(intOf i).toNat)
  case atStart=>exact ⟨0,Nat.zero_le _,rfl,World.ownsRow_nil _ _ _ _,Below.refl _ _⟩
  case round =>
    obtain ⟨k,hk,rfl,hown,hb⟩:=hrel
    have HB:=hid hb
    have HO:=hid hown
    clear hb hown
    have hTl:=HS.out.len
    by_cases hlt:k<n
    · have e1:(k:Int)<(n:Int):=by omega
      obtain ⟨b,o,rfl,_,hc⟩:=(HS.out.below HB.out).read hlt
      have hTk:=take_getD T k (by omega)
      have hl2:(T.take (k+1)).length=k+1:=by rw [List.length_take];omega
      have hJ:(joinD (T.take (k+1))).length≤1048576:=by
        rw [joinD_len]
        have hle:=Lib.lens_take_le T (k+1)
        have hTT:=HT.out
        omega
      obtain ⟨y,hy⟩:∃ y,y=T.getD k []:=⟨_,rfl⟩
      rw [← hy] at hTk hc
      rw [hTk,joinD_snoc,List.length_append,List.length_append] at hJ
      rw [show ([13]:List UInt8).length=1 from rfl] at hJ
      have HTK:Hid (joinD (T.take (k+1))=joinD (T.take k)++y++[13]):=hid (by rw [hTk,joinD_snoc])
      generalize joinD (T.take k)=J at *
      have HJ:=hid hJ
      have HSZ:Hid ((txt y).size=y.length):=hid (txt_size' y)
      have HSC:Hid (Lib.strCells (txt y)=u8s y):=hid (by simp [Lib.strCells,u8s])
      have HBS:Hid (w.heap.size≤wr.heap.size):=hid HB.out.size
      obtain ⟨Av,cv,rfl,_⟩:=HO.out.bs
      have HLT:=hid hlt
      have tok1:Hid True:=hid trivial
      clear hTk hl2 hy hlt hTl hJ
      have tok2:Hid True:=hid trivial
      go_wp2_with (at_builtin;(first | (have _t:=tok1;go_loud ((refine Lib.wpList_append_own_string _ rfl (.tmp 12) (.tmp 13) 40 9 rfl w.heap.size 5 i0 Tryz.underlying40 Tryz.underlying9 hi hz0 hz1 hz2 (.slice Av J.length cv) J.length (u8s J) rfl HO.out (txt y) rfl (by rw [HSZ.out];have:=HJ.out;unfold maxLen;omega) (by rw [HSZ.out];have:=HJ.out;omega) HBS.out ?_;intro v2 w2 hown2 hgr2 hfr2;have HO2:Hid (Own 5 w2 w.heap.size v2 (J++y)):=hid (by unfold Own;rw [List.length_append];rw [HSZ.out,HSC.out] at hown2;simpa using hown2);have HB2:=hid (HB.out.grown hgr2 HBS.out (fun k hk=>(World.ownsRow.lt HO.out k hk).1));obtain ⟨A2,c2,rfl⟩:=own_form (show w2.ownsRow w.heap.size 5 1 v2 (J++y).length (u8s (J++y)) from HO2.out);rw [List.length_append] at HO2 ⊢;have HNW:=hid (newRow w2 13);have HO3:=hid (HO2.out.below ((Below.refl w2.heap.size w2).alloc (Nat.le_refl _) (.cells #[u8 13] 5)));have HBZ:Hid (w.heap.size≤(w2.alloc (.cells #[u8 13] 5)).heap.size):=hid (by have:=HB2.out.size;simp;omega);clear tok1 hown2 hgr2 hfr2 _t))) | (have _t:=tok2;go_loud ((refine wpList_appAt rfl (.tmp 15) (.tmp 16) 40 rfl w.heap.size 5 (.int .u8 0) 1 Tryz.underlying40 byteInfo rfl (by decide) (.slice A2 (J.length+y.length) c2) (J++y).length (u8s (J++y)) rfl HO3.out ⟨w2.heap.size,0,none⟩ 1 1 [.int .u8 13] rfl rfl HNW.out (oneRow 13) (by have:=HJ.out;rw [List.length_append];omega) HBZ.out ?_;intro v3 w3 hown3 hgr3 hfr3;have HO4:Hid (Own 5 w3 w.heap.size v3 (J++y++[13])):=hid (own_snoc (c:=13) hown3);have HB3:=hid ((HB2.out.alloc HB2.out.size _).grown hgr3 HBZ.out (fun k hk=>(World.ownsRow.lt HO3.out k hk).1));obtain ⟨A3,c3,rfl⟩:=own_form hown3;clear tok2 hown3 hgr3 hfr3 _t)))))
      exact ⟨⟨k+1,HLT.out,by go_num,by rw [HTK.out,← List.length_append];exact HO4.out,HB3.out⟩,by have:=HLT.out;simp [intOf];omega⟩
    · obtain rfl:k=n:=by omega
      rw [List.take_of_length_le (by omega)] at HO
      obtain ⟨Av,cv,rfl,hBs,_⟩:=HO.out.bs
      have HBB:=hid hBs
      clear hBs hTl hlt
      go_wp2_with (fail)
      go_ret
      exact ⟨Av,cv,rfl,HBB.out,HB.out⟩
end
/- Layer 8: a segment of a name and fields,walked. -/
section
open Go.RowKit
def sepD (name:ByteArray) (c:UInt8) (k:Nat):List UInt8:=if name=mshB∧k≤1 then [] else [c]
def mkTo (name:ByteArray) (c:UInt8) (T:List (List UInt8)):Nat→List UInt8
  | 0=>name.data.toList
  | k+1=>mkTo name c T k++sepD name c k++T.getD k []
def makeD (name:ByteArray) (c:UInt8) (T:List (List UInt8)):List UInt8:=mkTo name c T T.length
theorem sepD_len (name:ByteArray) (c:UInt8) (k:Nat):(sepD name c k).length≤1:=by unfold sepD;split <;> simp
theorem mkTo_len (name:ByteArray) (c:UInt8) (T:List (List UInt8)):∀ k,k≤T.length→(mkTo name c T k).length≤name.size+Lib.lens (T.take k)+k
  | 0,_=>by simp [mkTo]
  | k+1,h=>by
    have h1:=mkTo_len name c T k (by omega)
    have h2:=sepD_len name c k
    have h3:=lens_getD T k (by omega)
    simp only [mkTo,List.length_append]
    omega
set_option maxHeartbeats 4000000 in
set_option maxRecDepth 100000 in
theorem segMake (d:Sgn) (name:ByteArray) (A:Option Addr) (n cp:Nat) (T:List (List UInt8)) (w:World) (hS:Ss w A n cp T) (hnm:name.size≤1048576) (ht:Lib.lens T+T.length≤1048576):Calls Tryz.prog 118 #[d.v,.string name,.slice A n cp] w fun e w'=>e=.returned (str (makeD name d.a T))∧Below w.heap.size w w':=by
  have HS:=hid (hS.below ((Below.refl _ w).alloc (Nat.le_refl _) (.cells #[u8 d.a,u8 d.b,u8 d.c,u8 d.d,u8 d.e] 109)))
  have HT:=hid ht
  have HNM:=hid hnm
  have hmax:=hS.nmax
  have hTl:=hS.len
  have HLEN:=hid hTl
  have HX0:Hid (BoxS d w.heap.size (boxSgn d w)):=hid (heap_alloc_new w _)
  have HB0:Hid (Below w.heap.size w (boxSgn d w)):=hid (boxSgn_below d w)
  clear hS ht hnm hTl
  go_enter Tryz.func118,Tryz.ntmps118
  go_wp2_with (fail)
  generalize hw0:w.alloc (.cells #[u8 d.a,u8 d.b,u8 d.c,u8 d.d,u8 d.e] 109)=w0 at *
  rw [show boxSgn d w=w0 from hw0] at HX0 HB0
  have HZ0:Hid (w0.heap.size=w.heap.size+1):=hid (by rw [← hw0];simp)
  have HBU:Hid (Bu w0.heap.size w0.heap.size [] (w0.alloc (.cells #[.pointer none,.slice none 0 0] TB))):=hid (Bu.new (Nat.le_refl _))
  have HBA:Hid (Below w0.heap.size w0 (w0.alloc (.cells #[.pointer none,.slice none 0 0] TB))):=hid ((Below.refl _ _).alloc (Nat.le_refl _) _)
  clear hw0
  rw [HZ0.out] at HBU HBA
  obtain ⟨B,hB⟩:∃ B,B=w.heap.size+1:=⟨_,rfl⟩
  rw [← hB] at HBU HBA HZ0 ⊢
  have HBE:=hid hB
  clear hB
  generalize (w0.alloc (.cells #[.pointer none,.slice none 0 0] TB))=w3 at *
  have HW3:Hid (B≤w3.heap.size):=hid (by have:=HBA.out.size;have:=HZ0.out;omega)
  refine (buString_ B B [] name.data.toList w3 HBU.out (by have:=HNM.out;simp;omega) HW3.out).mono ?_
  rintro e w4 ⟨rfl,hbu,hb4⟩
  have HBU4:=hid hbu
  have HB4:Hid (Below B w0 w4):=hid (HBA.out.trans hb4)
  clear hbu hb4 HBU
  go_wp2_with (fail)
  go_loopw [14,8,9] (fun i _ _ wr=>∃ k:Nat,k≤n∧i=.int .i64 k∧Bu B B (mkTo name d.a T k) wr∧Below B w0 wr) (fun i _ _ _=>n-(intOf i).toNat)
  case atStart=>exact ⟨0,Nat.zero_le _,rfl,by simpa [mkTo] using HBU4.out,HB4.out⟩
  case round =>
    obtain ⟨wo,rfl⟩:∃ wo:World,wo=wr:=⟨_,rfl⟩
    obtain ⟨k,hk,rfl,hbu,hb⟩:=hrel
    have HBU:=hid hbu
    have HB:=hid hb
    have HSO:=hid (HS.out.below (hb.mono (Nat.le_of_eq HZ0.out)))
    have HXO:=hid (HX0.out.below (hb.mono (Nat.le_of_eq HZ0.out)))
    have HSZ:Hid (B≤wo.heap.size):=hid (by have:=hb.size;have:=HZ0.out;omega)
    clear hbu hb HBU4 HB4
    have HLN:Hid ((mkTo name d.a T k).length≤2097152):=hid (by
      have h1:=mkTo_len name d.a T k (by have:=HLEN.out;omega)
      have h2:=Lib.lens_take_le T k
      have h3:=HT.out
      have h4:=HNM.out
      have h5:=HLEN.out
      omega)
    by_cases hlt:k<n
    · have e1:(k:Int)<(n:Int):=by omega
      obtain ⟨b,o,rfl,hbl,hc⟩:=HSO.out.read hlt
      obtain ⟨c0,c1,c2,c3,c4⟩:=HXO.out.cells
      obtain ⟨y,hy⟩:∃ y,y=T.getD k []:=⟨_,rfl⟩
      rw [← hy] at hc
      have HMK:Hid (mkTo name d.a T (k+1)=mkTo name d.a T k++sepD name d.a k++y):=hid (by rw [hy];rfl)
      have HYL:Hid (y.length≤1048576):=hid (by
        have h1:=lens_getD T k (by have:=HLEN.out;omega)
        have h2:=Lib.lens_take_le T (k+1)
        have h3:=HT.out
        rw [hy];omega)
      have HLT:=hid hlt
      clear hy hlt hk
      by_cases hm:name=mshB∧k≤1
      · have hs:sepD name d.a k=[]:=if_pos hm
        have d1:(name.toList == [77,83,72])=true:=by rw [hm.1,Go.ByteArray.toList_eq];rfl
        have d2:decide ((1:Int)<(k:Int))=false:=by simp;omega
        have hk1:k≤1:=hm.2
        have HSP:=hid hs
        clear hs hm
        go_wp2_with (fail)
        refine (buString_ B B (mkTo name d.a T k) y wo HBU.out (by have:=HLN.out;have:=HYL.out;omega) HSZ.out).mono ?_
        rintro e w5 ⟨rfl,hbu5,hb5⟩
        have HBU5:=hid hbu5
        have HB5:Hid (Below B w0 w5):=hid (HB.out.trans hb5)
        clear hbu5 hb5
        go_wp2_with (fail)
        exact ⟨⟨k+1,HLT.out,by go_num,by rw [HMK.out,HSP.out,List.append_nil];exact HBU5.out,HB5.out⟩,by have:=HLT.out;simp [intOf];omega⟩
      · have hs:sepD name d.a k=[d.a]:=if_neg hm
        have HSP:=hid hs
        have HTL:Hid ((mkTo name d.a T k++[d.a]).length≤2097153):=hid (by rw [List.length_append];have:=HLN.out;simp;omega)
        clear hs
        by_cases hn:name=mshB
        · have hk1:1<k:=by
            rcases Nat.lt_or_ge 1 k with h|h
            · exact h
            · exact absurd ⟨hn,h⟩ hm
          have d1:(name.toList == [77,83,72])=true:=by rw [hn,Go.ByteArray.toList_eq];rfl
          have d2:decide ((1:Int)<(k:Int))=true:=by simp;omega
          clear hm hn
          go_wp2_with (fail)
          refine (buByte B B (mkTo name d.a T k) d.a wo HBU.out (by have:=HLN.out;omega) HSZ.out).mono ?_
          rintro e w5 ⟨rfl,hbu5,hb5⟩
          have HBU5:=hid hbu5
          have HB5:Hid (Below B w0 w5):=hid (HB.out.trans hb5)
          have HS5:Hid (B≤w5.heap.size):=hid (Nat.le_trans HSZ.out hb5.size)
          clear hbu5 hb5
          go_wp2_with (fail)
          refine (buString_ B B (mkTo name d.a T k++[d.a]) y w5 HBU5.out (by have:=HTL.out;have:=HYL.out;omega) HS5.out).mono ?_
          rintro e w6 ⟨rfl,hbu6,hb6⟩
          have HBU6:=hid hbu6
          have HB6:Hid (Below B w0 w6):=hid (HB5.out.trans hb6)
          clear hbu6 hb6
          go_wp2_with (fail)
          exact ⟨⟨k+1,HLT.out,by go_num,by rw [HMK.out,HSP.out];exact HBU6.out,HB6.out⟩,by have:=HLT.out;simp [intOf];omega⟩
        · have d1:(name.toList == [77,83,72])=false:=by
            rw [Go.ByteArray.toList_eq,beq_eq_false_iff_ne]
            exact fun e=>hn (ByteArray.ext (Array.toList_inj.1 e))
          clear hm hn
          go_wp2_with (fail)
          refine (buByte B B (mkTo name d.a T k) d.a wo HBU.out (by have:=HLN.out;omega) HSZ.out).mono ?_
          rintro e w5 ⟨rfl,hbu5,hb5⟩
          have HBU5:=hid hbu5
          have HB5:Hid (Below B w0 w5):=hid (HB.out.trans hb5)
          have HS5:Hid (B≤w5.heap.size):=hid (Nat.le_trans HSZ.out hb5.size)
          clear hbu5 hb5
          go_wp2_with (fail)
          refine (buString_ B B (mkTo name d.a T k++[d.a]) y w5 HBU5.out (by have:=HTL.out;have:=HYL.out;omega) HS5.out).mono ?_
          rintro e w6 ⟨rfl,hbu6,hb6⟩
          have HBU6:=hid hbu6
          have HB6:Hid (Below B w0 w6):=hid (HB5.out.trans hb6)
          clear hbu6 hb6
          go_wp2_with (fail)
          exact ⟨⟨k+1,HLT.out,by go_num,by rw [HMK.out,HSP.out];exact HBU6.out,HB6.out⟩,by have:=HLT.out;simp [intOf];omega⟩
    · obtain rfl:k=n:=by omega
      have HMD:Hid (makeD name d.a T=mkTo name d.a T k):=hid (by unfold makeD;rw [HLEN.out])
      clear hlt hk
      go_wp2_with (fail)
      refine (Tryz.Builder_String_any B B (mkTo name d.a T k) wo HBU.out HSZ.out).mono ?_
      rintro e w4 ⟨rfl,hb4⟩
      have HB4:Hid (Below w.heap.size w w4):=hid (HB0.out.trans ((HB.out.trans hb4).mono (by have:=HBE.out;omega)))
      clear hb4
      go_wp2_with (fail)
      go_ret
      exact ⟨by rw [HMD.out];rfl,HB4.out⟩
end
/- Layer 8: the answer's Make,Fields and Field,walked. -/
section
open Go.RowKit
set_option maxHeartbeats 4000000 in
set_option maxRecDepth 100000 in
theorem refMake (d:Sgn) (name:ByteArray) (A:Option Addr) (n cp:Nat) (T:List (List UInt8)) (w:World) (hS:Ss w A n cp T) (hnm:name.size≤1048576) (ht:Lib.lens T+T.length≤1048576):Calls Tryz.prog 131 #[d.v,.string name,.slice A n cp] w fun e w'=>e=.returned (str (makeD name d.a T))∧Below w.heap.size w w':=by
  have HS:=hid (hS.below (boxSgn_below d w))
  have HT:=hid ht
  have HNM:=hid hnm
  have hmax:=hS.nmax
  have HLEN:=hid hS.len
  have HX0:Hid (BoxS d w.heap.size (boxSgn d w)):=hid (heap_alloc_new w _)
  have HB0:Hid (Below w.heap.size w (boxSgn d w)):=hid (boxSgn_below d w)
  clear hS ht hnm
  go_enter Tryz.func131,Tryz.ntmps131
  go_wp2_with (fail)
  generalize hw0:w.alloc (.cells #[u8 d.a,u8 d.b,u8 d.c,u8 d.d,u8 d.e] 109)=w0 at *
  rw [show boxSgn d w=w0 from hw0] at HX0 HB0 HS
  clear hw0
  go_loopw [7,8] (fun v i wr=>∃ k:Nat,k≤n∧i=.int .i64 k∧v=.string (txt (mkTo name d.a T k))∧Below w0.heap.size w0 wr) (fun _ i _=>n-(intOf i).toNat)
  case atStart=>exact ⟨0,Nat.zero_le _,rfl,rfl,Below.refl _ _⟩
  case round =>
    obtain ⟨wo,rfl⟩:∃ wo:World,wo=wr:=⟨_,rfl⟩
    obtain ⟨k,hk,rfl,rfl,hb⟩:=hrel
    have HB:=hid hb
    have HSO:=hid (HS.out.below hb)
    have HXO:=hid (HX0.out.below hb)
    clear hb
    have HLN:Hid ((mkTo name d.a T k).length≤2097152):=hid (by
      have h1:=mkTo_len name d.a T k (by have:=HLEN.out;omega)
      have h2:=Lib.lens_take_le T k
      have h3:=HT.out
      have h4:=HNM.out
      have h5:=HLEN.out
      omega)
    by_cases hlt:k<n
    · have e1:(k:Int)<(n:Int):=by omega
      obtain ⟨b,o,rfl,hbl,hc⟩:=HSO.out.read hlt
      obtain ⟨c0,c1,c2,c3,c4⟩:=HXO.out.cells
      obtain ⟨y,hy⟩:∃ y,y=T.getD k []:=⟨_,rfl⟩
      rw [← hy] at hc
      have HMK:Hid (mkTo name d.a T (k+1)=mkTo name d.a T k++sepD name d.a k++y):=hid (by rw [hy];rfl)
      have HYL:Hid (y.length≤1048576):=hid (by
        have h1:=lens_getD T k (by have:=HLEN.out;omega)
        have h2:=Lib.lens_take_le T (k+1)
        have h3:=HT.out
        rw [hy];omega)
      have HLT:=hid hlt
      clear hy hlt hk
      generalize mkTo name d.a T k=M at *
      by_cases hm:name=mshB∧k≤1
      · have hs:sepD name d.a k=[]:=if_pos hm
        have d1:(name.toList == [77,83,72])=true:=by rw [hm.1,Go.ByteArray.toList_eq];rfl
        have d2:decide ((1:Int)<(k:Int))=false:=by simp;omega
        have hk1:k≤1:=hm.2
        have HSP:=hid hs
        have h1:¬ 9223372036854775807<M.length+y.length:=by have:=HLN.out;have:=HYL.out;omega
        clear hs hm
        go_wp2_with (fail)
        exact ⟨⟨k+1,HLT.out,by go_num,by rw [HMK.out,HSP.out,List.append_nil,txt_append],HB.out⟩,by have:=HLT.out;simp [intOf];omega⟩
      · have hs:sepD name d.a k=[d.a]:=if_neg hm
        have HSP:=hid hs
        have h1:¬ 9223372036854775807<M.length+1:=by have:=HLN.out;omega
        have h2:¬ 9223372036854775807<M.length+1+y.length:=by have:=HLN.out;have:=HYL.out;omega
        have hcv:=(Bs.of_block (w:=wo.alloc (.cells #[u8 d.a] 5)) (g:=wo.heap.size) (n:=1) (c:=1) (l:=[d.a]) (heap_alloc_new wo _) (by rfl) rfl (by decide) (by decide)).str (P:=Tryz.prog) 40 5 9 Tryz.underlying40 Tryz.underlying5 Tryz.underlying9
        have hc2:(wo.alloc (.cells #[u8 d.a] 5)).cell? ⟨b,o+k,none⟩=some (str y):=(((Below.refl wo.heap.size wo).alloc (Nat.le_refl _) _).cell (p:=⟨b,o+k,none⟩) hbl).trans hc
        have HB2:Hid (Below w0.heap.size w0 (wo.alloc (.cells #[u8 d.a] 5))):=hid (HB.out.alloc HB.out.size _)
        have h3:¬ 9223372036854775807<M.length+(txt [d.a]).size:=by rw [txt_size'];have:=HLN.out;simp;omega
        clear hs
        by_cases hn:name=mshB
        · have hk1:1<k:=by
            rcases Nat.lt_or_ge 1 k with h|h
            · exact h
            · exact absurd ⟨hn,h⟩ hm
          have d1:(name.toList == [77,83,72])=true:=by rw [hn,Go.ByteArray.toList_eq];rfl
          have d2:decide ((1:Int)<(k:Int))=true:=by simp;omega
          clear hm hn
          go_wp2_with (fail)
          exact ⟨⟨k+1,HLT.out,by go_num,by rw [HMK.out,HSP.out,txt_append,txt_append],HB2.out⟩,by have:=HLT.out;simp [intOf];omega⟩
        · have d1:(name.toList == [77,83,72])=false:=by
            rw [Go.ByteArray.toList_eq,beq_eq_false_iff_ne]
            exact fun e=>hn (ByteArray.ext (Array.toList_inj.1 e))
          clear hm hn
          go_wp2_with (fail)
          exact ⟨⟨k+1,HLT.out,by go_num,by rw [HMK.out,HSP.out,txt_append,txt_append],HB2.out⟩,by have:=HLT.out;simp [intOf];omega⟩
    · obtain rfl:k=n:=by omega
      have HMD:Hid (makeD name d.a T=mkTo name d.a T k):=hid (by unfold makeD;rw [HLEN.out])
      clear hlt hk
      go_wp2_with (fail)
      go_ret
      exact ⟨by rw [HMD.out];rfl,HB0.out.trans (HB.out.mono HB0.out.size)⟩
end
/- Layer 8: the answer's Fields and Field,walked. -/
section
open Go.RowKit
theorem step_strs {ops:Array Oper} {o:Oper} {a:Act} {w:World} {K:Act→World→Prop} {Q:Exit→Act→World→Prop} {E:Prop} (hgd:o.guard=none) (s x:Operand)
    (ho:o.op=.call { callee:=.builtin .append,args:=#[s,x],argTypes:=#[135,135] }) (base:Nat)
    (v:Value) (T:List (List UInt8)) (hs:a.eval s=v) (hown:OwnS w base v T) (A:Option Addr) (m c:Nat) (U:List (List UInt8)) (hx:a.eval x=.slice A m c) (hU:Ss w A m c U) (h0:0<m) (hn:T.length+m≤1099511627776) (hbase:base≤w.heap.size)
    (h:∀ v' w',OwnS w' base v' (T++U)→Below base w w'→w.grownBy w' v.ownBlock→K (a.put o.dst v') w') :
    if Region.wanted o (yielded ops a.tmps)=true then Oper.wp Tryz.prog o a w K Q else E:=by
  have hw:Region.wanted o (yielded ops a.tmps)=true:=by simp [Region.wanted,hgd]
  rw [if_pos hw]
  have hi:(Tryz.prog.info? 9).map (fun i=>(i.zero,i.size,i.bytes))=some (some (.string ByteArray.empty),1,16):=by kernel_rfl
  obtain ⟨i,hi,hzz⟩:=Option.map_eq_some_iff.1 hi
  simp only [Prod.mk.injEq] at hzz
  have hUl:=hU.len
  obtain ⟨b,off,rfl,_,hc⟩:=hU.at_ h0
  obtain ⟨v',w',hrun,h2,h3,_,_⟩:=run_append_own_at (P:=Tryz.prog) w base 135 o.type 9 i (.string ByteArray.empty) 1 16 Tryz.underlying135 hi hzz.1 hzz.2.1 hzz.2.2 rfl (by decide) v T.length (T.map str) hown ⟨b,off,none⟩ m c (U.map str) (by rw [List.length_map,hUl,Nat.mul_one])
    (fun j z hz=>by
      rw [List.getElem?_map] at hz
      cases hj:U[j]? with
      | none=>rw [hj] at hz;cases hz
      | some y =>
        rw [hj] at hz
        simp only [Option.map_some,Option.some.injEq] at hz
        subst hz
        rw [Addr.add_lit]
        exact hc j y hj) (fun z hz=>by
      obtain ⟨y,_,rfl⟩:=List.mem_map.1 hz
      rfl) (by simp only [maxLen];omega) (by omega) hbase
  unfold Oper.wp
  simp [execOp,ho,resolve,invoke,builtin,hs,hx,hrun,Result.andThen]
  refine h v' w' ?_ ((Below.refl _ _).grown h3 hbase fun k hk=>(World.ownsRow.lt hown k hk).1) h3
  unfold OwnS
  rw [List.length_append,List.map_append,hUl]
  exact h2
theorem strIdx (x:ByteArray) (j:Nat) (h:j<x.size) (z:Int) (hz:z=(j:Int)) (W:World):(Instr.index 9 (.string x) (.int .i64 z)).run Tryz.prog W=.ok (u8 x[j]) W:=by
  subst hz
  simp [Instr.index,asIntOf,run_underlying Tryz.underlying9,go_sem,h]
theorem fieldsD_len (s:ByteArray) (c:UInt8):(fieldsD s c).length≤s.size+1:=by
  have h1:=cut_le c s
  unfold fieldsD
  split
  · split
    · simp
    · rename_i r hb
      have h2:=behD_size hb
      have h3:=cut_le c r
      simp;omega
  · rw [List.length_tail];omega
end
section
open Go.RowKit
def isSign (n:Nat):Bool:=decide (33≤n) && decide (n≤126) && !(decide (65≤n) && decide (n≤90)) && !(decide (97≤n) && decide (n≤122)) && !(decide (48≤n) && decide (n≤57))
theorem isSign_yes {n:Nat} (h1:¬ n<33) (h2:¬ 126<n) (h3:¬ (65≤n∧n≤90)) (h4:¬ (97≤n∧n≤122)) (h5:¬ (48≤n∧n≤57)):isSign n=true:=by
  simp [isSign];omega
theorem isSign_no {n:Nat} (h:n<33∨126<n∨(65≤n∧n≤90)∨(97≤n∧n≤122)∨(48≤n∧n≤57)):isSign n=false:=by
  simp [isSign];omega
set_option maxRecDepth 100000 in
theorem delimSign (c:Nat) (w:World):Calls Tryz.prog 174 #[.int .u8 (c:Int)] w fun e w'=>e=.returned (.bool (isSign c))∧w=w':=by
  by_cases h1:(c:Int)<33
  · rw [isSign_no (by omega)]
    go_enter Tryz.func174,Tryz.ntmps174
    go_wp2
    go_ret
    exact ⟨rfl,rfl⟩
  by_cases h2:(126:Int)<c
  · rw [isSign_no (by omega)]
    go_enter Tryz.func174,Tryz.ntmps174
    go_wp2
    go_ret
    exact ⟨rfl,rfl⟩
  by_cases h3:(65:Int)≤c
  · by_cases h4:(c:Int)≤90
    · rw [isSign_no (by omega)]
      go_enter Tryz.func174,Tryz.ntmps174
      go_wp2
      go_ret
      exact ⟨rfl,rfl⟩
    · by_cases h5:(97:Int)≤c
      · by_cases h6:(c:Int)≤122
        · rw [isSign_no (by omega)]
          go_enter Tryz.func174,Tryz.ntmps174
          go_wp2
          go_ret
          exact ⟨rfl,rfl⟩
        · rw [isSign_yes (by omega) (by omega) (by omega) (by omega) (by omega)]
          have h7:(48:Int)≤c:=by omega
          have h8:¬ (c:Int)≤57:=by omega
          go_enter Tryz.func174,Tryz.ntmps174
          go_wp2
          go_ret
          exact ⟨rfl,rfl⟩
      · rw [isSign_yes (by omega) (by omega) (by omega) (by omega) (by omega)]
        have h7:(48:Int)≤c:=by omega
        have h8:¬ (c:Int)≤57:=by omega
        go_enter Tryz.func174,Tryz.ntmps174
        go_wp2
        go_ret
        exact ⟨rfl,rfl⟩
  · have h5:¬ (97:Int)≤c:=by omega
    by_cases h7:(48:Int)≤c
    · by_cases h8:(c:Int)≤57
      · rw [isSign_no (by omega)]
        go_enter Tryz.func174,Tryz.ntmps174
        go_wp2
        go_ret
        exact ⟨rfl,rfl⟩
      · rw [isSign_yes (by omega) (by omega) (by omega) (by omega) (by omega)]
        go_enter Tryz.func174,Tryz.ntmps174
        go_wp2
        go_ret
        exact ⟨rfl,rfl⟩
    · rw [isSign_yes (by omega) (by omega) (by omega) (by omega) (by omega)]
      go_enter Tryz.func174,Tryz.ntmps174
      go_wp2
      go_ret
      exact ⟨rfl,rfl⟩
set_option maxRecDepth 100000 in
theorem delimRow (a b c d e:Int) (w:World):Calls Tryz.prog 173 #[dlm a b c d e] w fun x w'=>x=.returned (dlm a b c d e)∧Below w.heap.size w w':=by
  go_enter Tryz.func173,Tryz.ntmps173
  go_wp2
  exact bodyPost_ret (v:=dlm a b c d e) (by simp [results,Tryz.results173,go_sem]) rfl ⟨rfl,((Below.refl _ w).alloc (Nat.le_refl _) _).alloc (by simp) _⟩
set_option maxRecDepth 100000 in
theorem delimPlain (w:World):Calls Tryz.prog 172 #[] w fun x w'=>x=.returned (dlm 124 94 126 92 38)∧Below w.heap.size w w':=by
  go_enter Tryz.func172,Tryz.ntmps172
  go_wp2
  exact bodyPost_ret (v:=dlm 124 94 126 92 38) (by simp [results,Tryz.results172,go_sem]) rfl ⟨rfl,(Below.refl _ w).alloc (Nat.le_refl _) _⟩
set_option maxRecDepth 100000 in
theorem strIndexByte (s:ByteArray) (c:Int) (w:World):Calls Tryz.prog 152 #[.string s,.int .u8 c] w fun e w'=>e=.returned (.int .i64 (Lib.indexByte s.data.toList c.toNat.toUInt8))∧w=w':=by
  go_enter Tryz.func152,Tryz.ntmps152
  go_wp2
  rw [run_callFunc_extern Tryz.func186 (by kernel_rfl) (by kernel_rfl) (by kernel_rfl) (e:=Extern.BytealgIndexByte.indexByte) (by kernel_rfl),Lib.run_indexByteString]
  simp only [Result.andThen]
  rw [Oper.upon_value]
  go_wp2
  go_ret
  exact ⟨rfl,rfl⟩
end
end Go.Proofs.YtodjilljcjkacaaGreatDoor
