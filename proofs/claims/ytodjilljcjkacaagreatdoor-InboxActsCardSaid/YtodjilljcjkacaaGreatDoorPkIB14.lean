/- Laid together: SegQ, Delim, Delim2, Delim3. -/
import Derived.Test.YtodjilljcjkacaaGreatDoorPkIB13
import Derived.LoopTactic
import Derived.BigQuiet
import Derived.Deep.RegionLaw
import Derived.Lib.Bytealg
import Derived.Laws.Externs
import Derived.Laws.StructEq
import Derived.Lib.BufferMore

namespace Go.Proofs.YtodjilljcjkacaaGreatDoor
open Lib (hid)
/- Layer 8: messages of segments,and the law's small functions,walked. -/
section
open Go.RowKit
theorem lens_getD (T:List (List UInt8)) (k:Nat) (hk:k<T.length):Lib.lens (T.take (k+1))=Lib.lens (T.take k)+(T.getD k []).length :=
  Lib.lens_take_succ T k _ (by rw [List.getD_eq_getElem?_getD,List.getElem?_eq_getElem hk];rfl)
theorem take_getD (T:List (List UInt8)) (k:Nat) (hk:k<T.length):T.take (k+1)=T.take k++[T.getD k []]:=by
  rw [List.take_succ_eq_append_getElem hk,List.getD_eq_getElem?_getD,List.getElem?_eq_getElem hk];rfl
def joinD (T:List (List UInt8)):List UInt8:=(T.map (·++[13])).flatten
theorem joinD_snoc (T:List (List UInt8)) (x:List UInt8):joinD (T++[x])=joinD T++x++[13]:=by simp [joinD]
theorem joinD_len (T:List (List UInt8)):(joinD T).length=Lib.lens T+T.length:=by
  induction T with
  | nil=>rfl
  | cons a r ih =>
    simp only [joinD,Lib.lens] at ih ⊢
    simp only [List.map_cons,List.flatten_cons,List.length_append,List.length_cons,List.length_nil,List.sum_cons]
    omega
theorem refName8 (s:ByteArray) (w:World):Calls Tryz.prog 166 #[.string s] w fun e w'=>e=.returned (.string (nameS s))∧w'=w:=by
  by_cases h:s.size<3
  · have d1:decide ((s.size:Int)<3)=true:=by simp;omega
    have hn:nameS s=s:=by
      unfold nameS
      apply ba_ext
      rw [ex_list,List.drop_zero,List.take_of_length_le]
      have:s.data.toList.length=s.size:=by simp
      omega
    rw [hn]
    clear hn
    go_enter Tryz.func166,Tryz.ntmps166
    go_wp2_with (fail)
    go_ret
    exact ⟨rfl,rfl⟩
  · have d1:decide ((s.size:Int)<3)=false:=by simp;omega
    have h3:(3:Int)≤s.size:=by omega
    have hn:nameS s=s.extract 0 3:=by unfold nameS;rw [show min s.size 3=3 by omega]
    rw [hn]
    clear hn
    go_enter Tryz.func166,Tryz.ntmps166
    go_wp2_with (fail)
    go_ret
    exact ⟨rfl,rfl⟩
set_option maxHeartbeats 2000000 in
set_option maxRecDepth 100000 in
theorem refSplit (A:Option Addr) (n cp:Nat) (l:List UInt8) (w:World) (hb:Bs w A n cp l) (hn:n≤1000000):Calls Tryz.prog 120 #[.slice A n cp] w (RetSs w (splitD l)):=by
  have hcv:=hb.str (P:=Tryz.prog) 40 5 9 Tryz.underlying40 Tryz.underlying5 Tryz.underlying9
  have hln:=hb.len
  have HTZ:Hid ((txt l).size≤1099511627000):=hid (by rw [txt_size'];omega)
  have HL:Hid ((cutAt 13 l).length≤n+1):=hid (by have:=cut_le 13 (txt l);rw [txt_size'] at this;rw [← hln];exact this)
  clear hb hln
  go_enter Tryz.func120,Tryz.ntmps120
  go_wp2_with (fail)
  refine (refCut (txt l) 13 w HTZ.out).mono ?_
  rintro e w2 ⟨A2,c2,rfl,hS2,hb2⟩
  rw [show (txt l).data.toList=l from rfl] at hS2 ⊢
  have HT:Hid (0<(cutAt 13 l).length):=hid (by rw [cutAt_length];omega)
  obtain ⟨m1,hm1⟩:∃ m1:Nat,((cutAt 13 l).length:Int)-1=(m1:Int):=⟨(cutAt 13 l).length-1,by have:=HT.out;omega⟩
  have HM1:Hid (m1+1=(cutAt 13 l).length):=hid (by have:=HT.out;omega)
  obtain ⟨b,o,rfl,_,hcell⟩:=hS2.read (i:=m1) (by have:=HM1.out;omega)
  have hx2:(cutAt 13 l).getD m1 []=(cutAt 13 l).getLastD []:=by
    rw [List.getLastD_eq_getLast?,List.getLast?_eq_getElem?,show (cutAt 13 l).length-1=m1 by have:=HM1.out;omega,List.getD_eq_getElem?_getD]
  rw [hx2] at hcell
  have HSP:Hid (splitD l=if (cutAt 13 l).getLastD []=[] then (cutAt 13 l).dropLast else cutAt 13 l):=hid rfl
  have HDL:Hid ((cutAt 13 l).dropLast=(cutAt 13 l).take m1):=hid (by rw [List.dropLast_eq_take,show (cutAt 13 l).length-1=m1 by have:=HM1.out;omega])
  have HS2:=hid hS2
  have HB2:=hid hb2
  have hcap:=hS2.le
  have hcm:=hS2.max
  clear hx2 hS2 hb2
  generalize cutAt 13 l=T at *
  generalize T.getLastD []=x at *
  have ew:IntKind.i64.wrap (m1:Int)=(m1:Int):=by rw [IntKind.wrap_i64];have:=HL.out;omega
  have hlt1:(m1:Int)<(T.length:Int):=by have:=HM1.out;omega
  have hlt2:(m1:Int)≤(c2:Int):=by have:=HM1.out;omega
  by_cases hx:x=[]
  · have dx:x.isEmpty=true:=by rw [hx];rfl
    have HSP2:Hid (splitD l=T.take m1):=hid (by rw [HSP.out,if_pos hx,HDL.out])
    clear hx
    go_wp2_with (fail)
    go_ret
    have hl4:(T.take m1).length=m1:=by rw [List.length_take];have:=HM1.out;omega
    refine ⟨some ⟨b,o,none⟩,c2,?_,?_,HB2.out⟩
    · rw [HSP2.out,hl4];rfl
    · rw [HSP2.out,hl4];exact HS2.out.take (by have:=HM1.out;omega)
  · have dx:x.isEmpty=false:=by
      cases x with
      | nil=>exact absurd rfl hx
      | cons=>rfl
    have HSP2:Hid (splitD l=T):=hid (by rw [HSP.out,if_neg hx])
    clear hx
    go_wp2_with (fail)
    go_ret
    refine ⟨some ⟨b,o,none⟩,c2,?_,?_,HB2.out⟩
    · rw [HSP2.out];rfl
    · rw [HSP2.out];exact HS2.out
set_option maxHeartbeats 2000000 in
set_option maxRecDepth 100000 in
theorem refJoin (A:Option Addr) (n cp:Nat) (T:List (List UInt8)) (w:World) (hS:Ss w A n cp T) (ht:Lib.lens T+T.length≤1048576):Calls Tryz.prog 130 #[.slice A n cp] w fun e w'=>e=.returned (.string (txt (joinD T)))∧Below w.heap.size w w':=by
  have HS:=hid hS
  have HT:=hid ht
  have hmax:=hS.nmax
  clear hS ht
  go_enter Tryz.func130,Tryz.ntmps130
  go_wp2_with (fail)
  go_loopw [3,4] (fun v i wr=>∃ k:Nat,k≤n∧i=.int .i64 k∧v=.string (txt (joinD (T.take k)))∧Below w.heap.size w wr) (fun _ i _=>n-(intOf i).toNat)
  case atStart=>exact ⟨0,Nat.zero_le _,rfl,rfl,Below.refl _ _⟩
  case round =>
    obtain ⟨k,hk,rfl,rfl,hb⟩:=hrel
    have HB:=hid hb
    clear hb
    have hTl:=HS.out.len
    by_cases hlt:k<n
    · have e1:(k:Int)<(n:Int):=by omega
      obtain ⟨b,o,rfl,_,hc⟩:=(HS.out.below HB.out).read hlt
      have hTk:=take_getD T k (by omega)
      have hl2:(T.take (k+1)).length=k+1:=by rw [List.length_take];omega
      have hJ:(joinD (T.take (k+1))).length≤1048576:=by
        rw [joinD_len]
        have hle:=Lib.lens_take_le T (k+1)
        have hTT:=HT.out
        omega
      obtain ⟨y,hy⟩:∃ y,y=T.getD k []:=⟨_,rfl⟩
      rw [← hy] at hTk hc
      rw [hTk,joinD_snoc,List.length_append,List.length_append] at hJ
      rw [show ([13]:List UInt8).length=1 from rfl] at hJ
      have HTK:Hid (joinD (T.take (k+1))=joinD (T.take k)++y++[13]):=hid (by rw [hTk,joinD_snoc])
      generalize joinD (T.take k)=J at *
      have ha1:=fun W=>add_run (txt J) (txt y) (by rw [txt_size',txt_size'];omega) W
      have ha2:=fun W=>add_run (txt (J++y)) ⟨#[13]⟩ (by rw [txt_size',List.length_append];show J.length+y.length+1≤_;omega) W
      have h1:¬ 9223372036854775807<J.length+y.length:=by omega
      have h2:¬ 9223372036854775807<J.length+y.length+1:=by omega
      have HLT:=hid hlt
      clear hTk hl2 hy hlt hTl hJ
      go_wp2_with (fail)
      exact ⟨⟨k+1,HLT.out,by go_num,by rw [HTK.out,txt_append,txt_append],HB.out⟩,by have:=HLT.out;simp [intOf];omega⟩
    · obtain rfl:k=n:=by omega
      rw [List.take_of_length_le (by omega)]
      go_wp2_with (fail)
      go_ret
      exact ⟨rfl,HB.out⟩
theorem own_snoc {w:World} {B:Nat} {v:Value} {l:List UInt8} {c:UInt8} (h:w.ownsRow B 5 1 v (l.length+1) (u8s l++[.int .u8 (c.toNat:Int)])):Own 5 w B v (l++[c]):=by
  unfold Own
  rw [List.length_append,show u8s (l++[c])=u8s l++[u8 c] from List.map_append ..]
  exact h
def RetB (w:World) (l:List UInt8) (e:Ending) (w':World):Prop :=
  ∃ A c,e=.returned (.slice A l.length c)∧Bs w' A l.length c l∧Below w.heap.size w w'
set_option maxHeartbeats 4000000 in
set_option maxRecDepth 100000 in
theorem segJoin (A:Option Addr) (n cp:Nat) (T:List (List UInt8)) (w:World) (hS:Ss w A n cp T) (ht:Lib.lens T+T.length≤1048576):Calls Tryz.prog 117 #[.slice A n cp] w (RetB w (joinD T)):=by
  have HS:=hid hS
  have HT:=hid ht
  have hmax:=hS.nmax
  obtain ⟨i0,hi,hz0,hz1,hz2⟩:=info_parts (byteInfo:(Tryz.prog.info? 5).map (fun i=>(i.zero,i.size,i.bytes))=some (some (.int .u8 0),1,1))
  clear hS ht
  go_enter Tryz.func117,Tryz.ntmps117
  go_wp2_with (fail)
  go_loopw [3,8,5] (fun v i _ wr=>∃ k:Nat,k≤n∧i=.int .i64 k∧Own 5 wr w.heap.size v (joinD (T.take k))∧Below w.heap.size w wr) (fun _ i _ _=>n-(intOf i).toNat)
  case atStart=>exact ⟨0,Nat.zero_le _,rfl,World.ownsRow_nil _ _ _ _,Below.refl _ _⟩
  case round =>
    obtain ⟨k,hk,rfl,hown,hb⟩:=hrel
    have HB:=hid hb
    have HO:=hid hown
    clear hb hown
    have hTl:=HS.out.len
    by_cases hlt:k<n
    · have e1:(k:Int)<(n:Int):=by omega
      obtain ⟨b,o,rfl,_,hc⟩:=(HS.out.below HB.out).read hlt
      have hTk:=take_getD T k (by omega)
      have hl2:(T.take (k+1)).length=k+1:=by rw [List.length_take];omega
      have hJ:(joinD (T.take (k+1))).length≤1048576:=by
        rw [joinD_len]
        have hle:=Lib.lens_take_le T (k+1)
        have hTT:=HT.out
        omega
      obtain ⟨y,hy⟩:∃ y,y=T.getD k []:=⟨_,rfl⟩
      rw [← hy] at hTk hc
      rw [hTk,joinD_snoc,List.length_append,List.length_append] at hJ
      rw [show ([13]:List UInt8).length=1 from rfl] at hJ
      have HTK:Hid (joinD (T.take (k+1))=joinD (T.take k)++y++[13]):=hid (by rw [hTk,joinD_snoc])
      generalize joinD (T.take k)=J at *
      have HJ:=hid hJ
      have HSZ:Hid ((txt y).size=y.length):=hid (txt_size' y)
      have HSC:Hid (Lib.strCells (txt y)=u8s y):=hid (by simp [Lib.strCells,u8s])
      have HBS:Hid (w.heap.size≤wr.heap.size):=hid HB.out.size
      obtain ⟨Av,cv,rfl,_⟩:=HO.out.bs
      have HLT:=hid hlt
      have tok1:Hid True:=hid trivial
      clear hTk hl2 hy hlt hTl hJ
      have tok2:Hid True:=hid trivial
      go_wp2_with (at_builtin;(first | (have _t:=tok1;go_loud ((refine Lib.wpList_append_own_string _ rfl (.tmp 12) (.tmp 13) 40 9 rfl w.heap.size 5 i0 Tryz.underlying40 Tryz.underlying9 hi hz0 hz1 hz2 (.slice Av J.length cv) J.length (u8s J) rfl HO.out (txt y) rfl (by rw [HSZ.out];have:=HJ.out;unfold maxLen;omega) (by rw [HSZ.out];have:=HJ.out;omega) HBS.out ?_;intro v2 w2 hown2 hgr2 hfr2;have HO2:Hid (Own 5 w2 w.heap.size v2 (J++y)):=hid (by unfold Own;rw [List.length_append];rw [HSZ.out,HSC.out] at hown2;simpa using hown2);have HB2:=hid (HB.out.grown hgr2 HBS.out (fun k hk=>(World.ownsRow.lt HO.out k hk).1));obtain ⟨A2,c2,rfl⟩:=own_form (show w2.ownsRow w.heap.size 5 1 v2 (J++y).length (u8s (J++y)) from HO2.out);rw [List.length_append] at HO2 ⊢;have HNW:=hid (newRow w2 13);have HO3:=hid (HO2.out.below ((Below.refl w2.heap.size w2).alloc (Nat.le_refl _) (.cells #[u8 13] 5)));have HBZ:Hid (w.heap.size≤(w2.alloc (.cells #[u8 13] 5)).heap.size):=hid (by have:=HB2.out.size;simp;omega);clear tok1 hown2 hgr2 hfr2 _t))) | (have _t:=tok2;go_loud ((refine wpList_appAt rfl (.tmp 15) (.tmp 16) 40 rfl w.heap.size 5 (.int .u8 0) 1 Tryz.underlying40 byteInfo rfl (by decide) (.slice A2 (J.length+y.length) c2) (J++y).length (u8s (J++y)) rfl HO3.out ⟨w2.heap.size,0,none⟩ 1 1 [.int .u8 13] rfl rfl HNW.out (oneRow 13) (by have:=HJ.out;rw [List.length_append];omega) HBZ.out ?_;intro v3 w3 hown3 hgr3 hfr3;have HO4:Hid (Own 5 w3 w.heap.size v3 (J++y++[13])):=hid (own_snoc (c:=13) hown3);have HB3:=hid ((HB2.out.alloc HB2.out.size _).grown hgr3 HBZ.out (fun k hk=>(World.ownsRow.lt HO3.out k hk).1));obtain ⟨A3,c3,rfl⟩:=own_form hown3;clear tok2 hown3 hgr3 hfr3 _t)))))
      exact ⟨⟨k+1,HLT.out,by go_num,by rw [HTK.out,← List.length_append];exact HO4.out,HB3.out⟩,by have:=HLT.out;simp [intOf];omega⟩
    · obtain rfl:k=n:=by omega
      rw [List.take_of_length_le (by omega)] at HO
      obtain ⟨Av,cv,rfl,hBs,_⟩:=HO.out.bs
      have HBB:=hid hBs
      clear hBs hTl hlt
      go_wp2_with (fail)
      go_ret
      exact ⟨Av,cv,rfl,HBB.out,HB.out⟩
end
/- Layer 8: a segment of a name and fields,walked. -/
section
open Go.RowKit
def sepD (name:ByteArray) (c:UInt8) (k:Nat):List UInt8:=if name=mshB∧k≤1 then [] else [c]
def mkTo (name:ByteArray) (c:UInt8) (T:List (List UInt8)):Nat→List UInt8
  | 0=>name.data.toList
  | k+1=>mkTo name c T k++sepD name c k++T.getD k []
def makeD (name:ByteArray) (c:UInt8) (T:List (List UInt8)):List UInt8:=mkTo name c T T.length
theorem sepD_len (name:ByteArray) (c:UInt8) (k:Nat):(sepD name c k).length≤1:=by unfold sepD;split <;> simp
theorem mkTo_len (name:ByteArray) (c:UInt8) (T:List (List UInt8)):∀ k,k≤T.length→(mkTo name c T k).length≤name.size+Lib.lens (T.take k)+k
  | 0,_=>by simp [mkTo]
  | k+1,h=>by
    have h1:=mkTo_len name c T k (by omega)
    have h2:=sepD_len name c k
    have h3:=lens_getD T k (by omega)
    simp only [mkTo,List.length_append]
    omega
set_option maxHeartbeats 4000000 in
set_option maxRecDepth 100000 in
theorem segMake (d:Sgn) (name:ByteArray) (A:Option Addr) (n cp:Nat) (T:List (List UInt8)) (w:World) (hS:Ss w A n cp T) (hnm:name.size≤1048576) (ht:Lib.lens T+T.length≤1048576):Calls Tryz.prog 118 #[d.v,.string name,.slice A n cp] w fun e w'=>e=.returned (str (makeD name d.a T))∧Below w.heap.size w w':=by
  have HS:=hid (hS.below ((Below.refl _ w).alloc (Nat.le_refl _) (.cells #[u8 d.a,u8 d.b,u8 d.c,u8 d.d,u8 d.e] 109)))
  have HT:=hid ht
  have HNM:=hid hnm
  have hmax:=hS.nmax
  have hTl:=hS.len
  have HLEN:=hid hTl
  have HX0:Hid (BoxS d w.heap.size (boxSgn d w)):=hid (heap_alloc_new w _)
  have HB0:Hid (Below w.heap.size w (boxSgn d w)):=hid (boxSgn_below d w)
  clear hS ht hnm hTl
  go_enter Tryz.func118,Tryz.ntmps118
  go_wp2_with (fail)
  generalize hw0:w.alloc (.cells #[u8 d.a,u8 d.b,u8 d.c,u8 d.d,u8 d.e] 109)=w0 at *
  rw [show boxSgn d w=w0 from hw0] at HX0 HB0
  have HZ0:Hid (w0.heap.size=w.heap.size+1):=hid (by rw [← hw0];simp)
  have HBU:Hid (Bu w0.heap.size w0.heap.size [] (w0.alloc (.cells #[.pointer none,.slice none 0 0] TB))):=hid (Bu.new (Nat.le_refl _))
  have HBA:Hid (Below w0.heap.size w0 (w0.alloc (.cells #[.pointer none,.slice none 0 0] TB))):=hid ((Below.refl _ _).alloc (Nat.le_refl _) _)
  clear hw0
  rw [HZ0.out] at HBU HBA
  obtain ⟨B,hB⟩:∃ B,B=w.heap.size+1:=⟨_,rfl⟩
  rw [← hB] at HBU HBA HZ0 ⊢
  have HBE:=hid hB
  clear hB
  generalize (w0.alloc (.cells #[.pointer none,.slice none 0 0] TB))=w3 at *
  have HW3:Hid (B≤w3.heap.size):=hid (by have:=HBA.out.size;have:=HZ0.out;omega)
  refine (buString_ B B [] name.data.toList w3 HBU.out (by have:=HNM.out;simp;omega) HW3.out).mono ?_
  rintro e w4 ⟨rfl,hbu,hb4⟩
  have HBU4:=hid hbu
  have HB4:Hid (Below B w0 w4):=hid (HBA.out.trans hb4)
  clear hbu hb4 HBU
  go_wp2_with (fail)
  go_loopw [14,8,9] (fun i _ _ wr=>∃ k:Nat,k≤n∧i=.int .i64 k∧Bu B B (mkTo name d.a T k) wr∧Below B w0 wr) (fun i _ _ _=>n-(intOf i).toNat)
  case atStart=>exact ⟨0,Nat.zero_le _,rfl,by simpa [mkTo] using HBU4.out,HB4.out⟩
  case round =>
    obtain ⟨wo,rfl⟩:∃ wo:World,wo=wr:=⟨_,rfl⟩
    obtain ⟨k,hk,rfl,hbu,hb⟩:=hrel
    have HBU:=hid hbu
    have HB:=hid hb
    have HSO:=hid (HS.out.below (hb.mono (Nat.le_of_eq HZ0.out)))
    have HXO:=hid (HX0.out.below (hb.mono (Nat.le_of_eq HZ0.out)))
    have HSZ:Hid (B≤wo.heap.size):=hid (by have:=hb.size;have:=HZ0.out;omega)
    clear hbu hb HBU4 HB4
    have HLN:Hid ((mkTo name d.a T k).length≤2097152):=hid (by
      have h1:=mkTo_len name d.a T k (by have:=HLEN.out;omega)
      have h2:=Lib.lens_take_le T k
      have h3:=HT.out
      have h4:=HNM.out
      have h5:=HLEN.out
      omega)
    by_cases hlt:k<n
    · have e1:(k:Int)<(n:Int):=by omega
      obtain ⟨b,o,rfl,hbl,hc⟩:=HSO.out.read hlt
      obtain ⟨c0,c1,c2,c3,c4⟩:=HXO.out.cells
      obtain ⟨y,hy⟩:∃ y,y=T.getD k []:=⟨_,rfl⟩
      rw [← hy] at hc
      have HMK:Hid (mkTo name d.a T (k+1)=mkTo name d.a T k++sepD name d.a k++y):=hid (by rw [hy];rfl)
      have HYL:Hid (y.length≤1048576):=hid (by
        have h1:=lens_getD T k (by have:=HLEN.out;omega)
        have h2:=Lib.lens_take_le T (k+1)
        have h3:=HT.out
        rw [hy];omega)
      have HLT:=hid hlt
      clear hy hlt hk
      by_cases hm:name=mshB∧k≤1
      · have hs:sepD name d.a k=[]:=if_pos hm
        have d1:(name.toList == [77,83,72])=true:=by rw [hm.1,Go.ByteArray.toList_eq];rfl
        have d2:decide ((1:Int)<(k:Int))=false:=by simp;omega
        have hk1:k≤1:=hm.2
        have HSP:=hid hs
        clear hs hm
        go_wp2_with (fail)
        refine (buString_ B B (mkTo name d.a T k) y wo HBU.out (by have:=HLN.out;have:=HYL.out;omega) HSZ.out).mono ?_
        rintro e w5 ⟨rfl,hbu5,hb5⟩
        have HBU5:=hid hbu5
        have HB5:Hid (Below B w0 w5):=hid (HB.out.trans hb5)
        clear hbu5 hb5
        go_wp2_with (fail)
        exact ⟨⟨k+1,HLT.out,by go_num,by rw [HMK.out,HSP.out,List.append_nil];exact HBU5.out,HB5.out⟩,by have:=HLT.out;simp [intOf];omega⟩
      · have hs:sepD name d.a k=[d.a]:=if_neg hm
        have HSP:=hid hs
        have HTL:Hid ((mkTo name d.a T k++[d.a]).length≤2097153):=hid (by rw [List.length_append];have:=HLN.out;simp;omega)
        clear hs
        by_cases hn:name=mshB
        · have hk1:1<k:=by
            rcases Nat.lt_or_ge 1 k with h|h
            · exact h
            · exact absurd ⟨hn,h⟩ hm
          have d1:(name.toList == [77,83,72])=true:=by rw [hn,Go.ByteArray.toList_eq];rfl
          have d2:decide ((1:Int)<(k:Int))=true:=by simp;omega
          clear hm hn
          go_wp2_with (fail)
          refine (buByte B B (mkTo name d.a T k) d.a wo HBU.out (by have:=HLN.out;omega) HSZ.out).mono ?_
          rintro e w5 ⟨rfl,hbu5,hb5⟩
          have HBU5:=hid hbu5
          have HB5:Hid (Below B w0 w5):=hid (HB.out.trans hb5)
          have HS5:Hid (B≤w5.heap.size):=hid (Nat.le_trans HSZ.out hb5.size)
          clear hbu5 hb5
          go_wp2_with (fail)
          refine (buString_ B B (mkTo name d.a T k++[d.a]) y w5 HBU5.out (by have:=HTL.out;have:=HYL.out;omega) HS5.out).mono ?_
          rintro e w6 ⟨rfl,hbu6,hb6⟩
          have HBU6:=hid hbu6
          have HB6:Hid (Below B w0 w6):=hid (HB5.out.trans hb6)
          clear hbu6 hb6
          go_wp2_with (fail)
          exact ⟨⟨k+1,HLT.out,by go_num,by rw [HMK.out,HSP.out];exact HBU6.out,HB6.out⟩,by have:=HLT.out;simp [intOf];omega⟩
        · have d1:(name.toList == [77,83,72])=false:=by
            rw [Go.ByteArray.toList_eq,beq_eq_false_iff_ne]
            exact fun e=>hn (ByteArray.ext (Array.toList_inj.1 e))
          clear hm hn
          go_wp2_with (fail)
          refine (buByte B B (mkTo name d.a T k) d.a wo HBU.out (by have:=HLN.out;omega) HSZ.out).mono ?_
          rintro e w5 ⟨rfl,hbu5,hb5⟩
          have HBU5:=hid hbu5
          have HB5:Hid (Below B w0 w5):=hid (HB.out.trans hb5)
          have HS5:Hid (B≤w5.heap.size):=hid (Nat.le_trans HSZ.out hb5.size)
          clear hbu5 hb5
          go_wp2_with (fail)
          refine (buString_ B B (mkTo name d.a T k++[d.a]) y w5 HBU5.out (by have:=HTL.out;have:=HYL.out;omega) HS5.out).mono ?_
          rintro e w6 ⟨rfl,hbu6,hb6⟩
          have HBU6:=hid hbu6
          have HB6:Hid (Below B w0 w6):=hid (HB5.out.trans hb6)
          clear hbu6 hb6
          go_wp2_with (fail)
          exact ⟨⟨k+1,HLT.out,by go_num,by rw [HMK.out,HSP.out];exact HBU6.out,HB6.out⟩,by have:=HLT.out;simp [intOf];omega⟩
    · obtain rfl:k=n:=by omega
      have HMD:Hid (makeD name d.a T=mkTo name d.a T k):=hid (by unfold makeD;rw [HLEN.out])
      clear hlt hk
      go_wp2_with (fail)
      refine (Tryz.Builder_String_any B B (mkTo name d.a T k) wo HBU.out HSZ.out).mono ?_
      rintro e w4 ⟨rfl,hb4⟩
      have HB4:Hid (Below w.heap.size w w4):=hid (HB0.out.trans ((HB.out.trans hb4).mono (by have:=HBE.out;omega)))
      clear hb4
      go_wp2_with (fail)
      go_ret
      exact ⟨by rw [HMD.out];rfl,HB4.out⟩
end
/- Layer 8: the answer's Make,Fields and Field,walked. -/
section
open Go.RowKit
set_option maxHeartbeats 4000000 in
set_option maxRecDepth 100000 in
theorem refMake (d:Sgn) (name:ByteArray) (A:Option Addr) (n cp:Nat) (T:List (List UInt8)) (w:World) (hS:Ss w A n cp T) (hnm:name.size≤1048576) (ht:Lib.lens T+T.length≤1048576):Calls Tryz.prog 131 #[d.v,.string name,.slice A n cp] w fun e w'=>e=.returned (str (makeD name d.a T))∧Below w.heap.size w w':=by
  have HS:=hid (hS.below (boxSgn_below d w))
  have HT:=hid ht
  have HNM:=hid hnm
  have hmax:=hS.nmax
  have HLEN:=hid hS.len
  have HX0:Hid (BoxS d w.heap.size (boxSgn d w)):=hid (heap_alloc_new w _)
  have HB0:Hid (Below w.heap.size w (boxSgn d w)):=hid (boxSgn_below d w)
  clear hS ht hnm
  go_enter Tryz.func131,Tryz.ntmps131
  go_wp2_with (fail)
  generalize hw0:w.alloc (.cells #[u8 d.a,u8 d.b,u8 d.c,u8 d.d,u8 d.e] 109)=w0 at *
  rw [show boxSgn d w=w0 from hw0] at HX0 HB0 HS
  clear hw0
  go_loopw [7,8] (fun v i wr=>∃ k:Nat,k≤n∧i=.int .i64 k∧v=.string (txt (mkTo name d.a T k))∧Below w0.heap.size w0 wr) (fun _ i _=>n-(intOf i).toNat)
  case atStart=>exact ⟨0,Nat.zero_le _,rfl,rfl,Below.refl _ _⟩
  case round =>
    obtain ⟨wo,rfl⟩:∃ wo:World,wo=wr:=⟨_,rfl⟩
    obtain ⟨k,hk,rfl,rfl,hb⟩:=hrel
    have HB:=hid hb
    have HSO:=hid (HS.out.below hb)
    have HXO:=hid (HX0.out.below hb)
    clear hb
    have HLN:Hid ((mkTo name d.a T k).length≤2097152):=hid (by
      have h1:=mkTo_len name d.a T k (by have:=HLEN.out;omega)
      have h2:=Lib.lens_take_le T k
      have h3:=HT.out
      have h4:=HNM.out
      have h5:=HLEN.out
      omega)
    by_cases hlt:k<n
    · have e1:(k:Int)<(n:Int):=by omega
      obtain ⟨b,o,rfl,hbl,hc⟩:=HSO.out.read hlt
      obtain ⟨c0,c1,c2,c3,c4⟩:=HXO.out.cells
      obtain ⟨y,hy⟩:∃ y,y=T.getD k []:=⟨_,rfl⟩
      rw [← hy] at hc
      have HMK:Hid (mkTo name d.a T (k+1)=mkTo name d.a T k++sepD name d.a k++y):=hid (by rw [hy];rfl)
      have HYL:Hid (y.length≤1048576):=hid (by
        have h1:=lens_getD T k (by have:=HLEN.out;omega)
        have h2:=Lib.lens_take_le T (k+1)
        have h3:=HT.out
        rw [hy];omega)
      have HLT:=hid hlt
      clear hy hlt hk
      generalize mkTo name d.a T k=M at *
      by_cases hm:name=mshB∧k≤1
      · have hs:sepD name d.a k=[]:=if_pos hm
        have d1:(name.toList == [77,83,72])=true:=by rw [hm.1,Go.ByteArray.toList_eq];rfl
        have d2:decide ((1:Int)<(k:Int))=false:=by simp;omega
        have hk1:k≤1:=hm.2
        have HSP:=hid hs
        have h1:¬ 9223372036854775807<M.length+y.length:=by have:=HLN.out;have:=HYL.out;omega
        clear hs hm
        go_wp2_with (fail)
        exact ⟨⟨k+1,HLT.out,by go_num,by rw [HMK.out,HSP.out,List.append_nil,txt_append],HB.out⟩,by have:=HLT.out;simp [intOf];omega⟩
      · have hs:sepD name d.a k=[d.a]:=if_neg hm
        have HSP:=hid hs
        have h1:¬ 9223372036854775807<M.length+1:=by have:=HLN.out;omega
        have h2:¬ 9223372036854775807<M.length+1+y.length:=by have:=HLN.out;have:=HYL.out;omega
        have hcv:=(Bs.of_block (w:=wo.alloc (.cells #[u8 d.a] 5)) (g:=wo.heap.size) (n:=1) (c:=1) (l:=[d.a]) (heap_alloc_new wo _) (by rfl) rfl (by decide) (by decide)).str (P:=Tryz.prog) 40 5 9 Tryz.underlying40 Tryz.underlying5 Tryz.underlying9
        have hc2:(wo.alloc (.cells #[u8 d.a] 5)).cell? ⟨b,o+k,none⟩=some (str y):=(((Below.refl wo.heap.size wo).alloc (Nat.le_refl _) _).cell (p:=⟨b,o+k,none⟩) hbl).trans hc
        have HB2:Hid (Below w0.heap.size w0 (wo.alloc (.cells #[u8 d.a] 5))):=hid (HB.out.alloc HB.out.size _)
        have h3:¬ 9223372036854775807<M.length+(txt [d.a]).size:=by rw [txt_size'];have:=HLN.out;simp;omega
        clear hs
        by_cases hn:name=mshB
        · have hk1:1<k:=by
            rcases Nat.lt_or_ge 1 k with h|h
            · exact h
            · exact absurd ⟨hn,h⟩ hm
          have d1:(name.toList == [77,83,72])=true:=by rw [hn,Go.ByteArray.toList_eq];rfl
          have d2:decide ((1:Int)<(k:Int))=true:=by simp;omega
          clear hm hn
          go_wp2_with (fail)
          exact ⟨⟨k+1,HLT.out,by go_num,by rw [HMK.out,HSP.out,txt_append,txt_append],HB2.out⟩,by have:=HLT.out;simp [intOf];omega⟩
        · have d1:(name.toList == [77,83,72])=false:=by
            rw [Go.ByteArray.toList_eq,beq_eq_false_iff_ne]
            exact fun e=>hn (ByteArray.ext (Array.toList_inj.1 e))
          clear hm hn
          go_wp2_with (fail)
          exact ⟨⟨k+1,HLT.out,by go_num,by rw [HMK.out,HSP.out,txt_append,txt_append],HB2.out⟩,by have:=HLT.out;simp [intOf];omega⟩
    · obtain rfl:k=n:=by omega
      have HMD:Hid (makeD name d.a T=mkTo name d.a T k):=hid (by unfold makeD;rw [HLEN.out])
      clear hlt hk
      go_wp2_with (fail)
      go_ret
      exact ⟨by rw [HMD.out];rfl,HB0.out.trans (HB.out.mono HB0.out.size)⟩
end
/- Layer 8: the answer's Fields and Field,walked. -/
section
open Go.RowKit
theorem step_strs {ops:Array Oper} {o:Oper} {a:Act} {w:World} {K:Act→World→Prop} {Q:Exit→Act→World→Prop} {E:Prop} (hgd:o.guard=none) (s x:Operand)
    (ho:o.op=.call { callee:=.builtin .append,args:=#[s,x],argTypes:=#[135,135] }) (base:Nat)
    (v:Value) (T:List (List UInt8)) (hs:a.eval s=v) (hown:OwnS w base v T) (A:Option Addr) (m c:Nat) (U:List (List UInt8)) (hx:a.eval x=.slice A m c) (hU:Ss w A m c U) (h0:0<m) (hn:T.length+m≤1099511627776) (hbase:base≤w.heap.size)
    (h:∀ v' w',OwnS w' base v' (T++U)→Below base w w'→w.grownBy w' v.ownBlock→K (a.put o.dst v') w') :
    if Region.wanted o (yielded ops a.tmps)=true then Oper.wp Tryz.prog o a w K Q else E:=by
  have hw:Region.wanted o (yielded ops a.tmps)=true:=by simp [Region.wanted,hgd]
  rw [if_pos hw]
  have hi:(Tryz.prog.info? 9).map (fun i=>(i.zero,i.size,i.bytes))=some (some (.string ByteArray.empty),1,16):=by kernel_rfl
  obtain ⟨i,hi,hzz⟩:=Option.map_eq_some_iff.1 hi
  simp only [Prod.mk.injEq] at hzz
  have hUl:=hU.len
  obtain ⟨b,off,rfl,_,hc⟩:=hU.at_ h0
  obtain ⟨v',w',hrun,h2,h3,_,_⟩:=run_append_own_at (P:=Tryz.prog) w base 135 o.type 9 i (.string ByteArray.empty) 1 16 Tryz.underlying135 hi hzz.1 hzz.2.1 hzz.2.2 rfl (by decide) v T.length (T.map str) hown ⟨b,off,none⟩ m c (U.map str) (by rw [List.length_map,hUl,Nat.mul_one])
    (fun j z hz=>by
      rw [List.getElem?_map] at hz
      cases hj:U[j]? with
      | none=>rw [hj] at hz;cases hz
      | some y =>
        rw [hj] at hz
        simp only [Option.map_some,Option.some.injEq] at hz
        subst hz
        rw [Addr.add_lit]
        exact hc j y hj) (fun z hz=>by
      obtain ⟨y,_,rfl⟩:=List.mem_map.1 hz
      rfl) (by simp only [maxLen];omega) (by omega) hbase
  unfold Oper.wp
  simp [execOp,ho,resolve,invoke,builtin,hs,hx,hrun,Result.andThen]
  refine h v' w' ?_ ((Below.refl _ _).grown h3 hbase fun k hk=>(World.ownsRow.lt hown k hk).1) h3
  unfold OwnS
  rw [List.length_append,List.map_append,hUl]
  exact h2
theorem strIdx (x:ByteArray) (j:Nat) (h:j<x.size) (z:Int) (hz:z=(j:Int)) (W:World):(Instr.index 9 (.string x) (.int .i64 z)).run Tryz.prog W=.ok (u8 x[j]) W:=by
  subst hz
  simp [Instr.index,asIntOf,run_underlying Tryz.underlying9,go_sem,h]
theorem fieldsD_len (s:ByteArray) (c:UInt8):(fieldsD s c).length≤s.size+1:=by
  have h1:=cut_le c s
  unfold fieldsD
  split
  · split
    · simp
    · rename_i r hb
      have h2:=behD_size hb
      have h3:=cut_le c r
      simp;omega
  · rw [List.length_tail];omega
end
section
open Go.RowKit
def isSign (n:Nat):Bool:=decide (33≤n) && decide (n≤126) && !(decide (65≤n) && decide (n≤90)) && !(decide (97≤n) && decide (n≤122)) && !(decide (48≤n) && decide (n≤57))
theorem isSign_yes {n:Nat} (h1:¬ n<33) (h2:¬ 126<n) (h3:¬ (65≤n∧n≤90)) (h4:¬ (97≤n∧n≤122)) (h5:¬ (48≤n∧n≤57)):isSign n=true:=by
  simp [isSign];omega
theorem isSign_no {n:Nat} (h:n<33∨126<n∨(65≤n∧n≤90)∨(97≤n∧n≤122)∨(48≤n∧n≤57)):isSign n=false:=by
  simp [isSign];omega
set_option maxRecDepth 100000 in
theorem delimSign (c:Nat) (w:World):Calls Tryz.prog 174 #[.int .u8 (c:Int)] w fun e w'=>e=.returned (.bool (isSign c))∧w=w':=by
  by_cases h1:(c:Int)<33
  · rw [isSign_no (by omega)]
    go_enter Tryz.func174,Tryz.ntmps174
    go_wp2
    go_ret
    exact ⟨rfl,rfl⟩
  by_cases h2:(126:Int)<c
  · rw [isSign_no (by omega)]
    go_enter Tryz.func174,Tryz.ntmps174
    go_wp2
    go_ret
    exact ⟨rfl,rfl⟩
  by_cases h3:(65:Int)≤c
  · by_cases h4:(c:Int)≤90
    · rw [isSign_no (by omega)]
      go_enter Tryz.func174,Tryz.ntmps174
      go_wp2
      go_ret
      exact ⟨rfl,rfl⟩
    · by_cases h5:(97:Int)≤c
      · by_cases h6:(c:Int)≤122
        · rw [isSign_no (by omega)]
          go_enter Tryz.func174,Tryz.ntmps174
          go_wp2
          go_ret
          exact ⟨rfl,rfl⟩
        · rw [isSign_yes (by omega) (by omega) (by omega) (by omega) (by omega)]
          have h7:(48:Int)≤c:=by omega
          have h8:¬ (c:Int)≤57:=by omega
          go_enter Tryz.func174,Tryz.ntmps174
          go_wp2
          go_ret
          exact ⟨rfl,rfl⟩
      · rw [isSign_yes (by omega) (by omega) (by omega) (by omega) (by omega)]
        have h7:(48:Int)≤c:=by omega
        have h8:¬ (c:Int)≤57:=by omega
        go_enter Tryz.func174,Tryz.ntmps174
        go_wp2
        go_ret
        exact ⟨rfl,rfl⟩
  · have h5:¬ (97:Int)≤c:=by omega
    by_cases h7:(48:Int)≤c
    · by_cases h8:(c:Int)≤57
      · rw [isSign_no (by omega)]
        go_enter Tryz.func174,Tryz.ntmps174
        go_wp2
        go_ret
        exact ⟨rfl,rfl⟩
      · rw [isSign_yes (by omega) (by omega) (by omega) (by omega) (by omega)]
        go_enter Tryz.func174,Tryz.ntmps174
        go_wp2
        go_ret
        exact ⟨rfl,rfl⟩
    · rw [isSign_yes (by omega) (by omega) (by omega) (by omega) (by omega)]
      go_enter Tryz.func174,Tryz.ntmps174
      go_wp2
      go_ret
      exact ⟨rfl,rfl⟩
set_option maxRecDepth 100000 in
theorem delimRow (a b c d e:Int) (w:World):Calls Tryz.prog 173 #[dlm a b c d e] w fun x w'=>x=.returned (dlm a b c d e)∧Below w.heap.size w w':=by
  go_enter Tryz.func173,Tryz.ntmps173
  go_wp2
  exact bodyPost_ret (v:=dlm a b c d e) (by simp [results,Tryz.results173,go_sem]) rfl ⟨rfl,((Below.refl _ w).alloc (Nat.le_refl _) _).alloc (by simp) _⟩
set_option maxRecDepth 100000 in
theorem delimPlain (w:World):Calls Tryz.prog 172 #[] w fun x w'=>x=.returned (dlm 124 94 126 92 38)∧Below w.heap.size w w':=by
  go_enter Tryz.func172,Tryz.ntmps172
  go_wp2
  exact bodyPost_ret (v:=dlm 124 94 126 92 38) (by simp [results,Tryz.results172,go_sem]) rfl ⟨rfl,(Below.refl _ w).alloc (Nat.le_refl _) _⟩
set_option maxRecDepth 100000 in
theorem strIndexByte (s:ByteArray) (c:Int) (w:World):Calls Tryz.prog 152 #[.string s,.int .u8 c] w fun e w'=>e=.returned (.int .i64 (Lib.indexByte s.data.toList c.toNat.toUInt8))∧w=w':=by
  go_enter Tryz.func152,Tryz.ntmps152
  go_wp2
  rw [run_callFunc_extern Tryz.func186 (by kernel_rfl) (by kernel_rfl) (by kernel_rfl) (e:=Extern.BytealgIndexByte.indexByte) (by kernel_rfl),Lib.run_indexByteString]
  simp only [Result.andThen]
  rw [Oper.upon_value]
  go_wp2
  go_ret
  exact ⟨rfl,rfl⟩
end
section
open Go.RowKit
def goodTo (l:List UInt8):Nat→Bool
  | 0=>true
  | j+1=>goodTo l j && isSign (l.getD j 0).toNat && !((l.take j).contains (l.getD j 0))
theorem indexByte_has (l:List UInt8) (c:UInt8):decide (0≤Lib.indexByte l c)=l.contains c:=by
  induction l with
  | nil=>rfl
  | cons b l ih =>
    have hg:=Lib.indexByte_ge l c
    unfold Lib.indexByte
    by_cases h:b=c
    · simp [h]
    · have h1:(b == c)=false:=by simpa using h
      have h2:(c == b)=false:=by simpa using fun e=>h e.symm
      simp only [h1,List.contains_cons,h2,Bool.false_or,Bool.false_eq_true,if_false]
      rw [← ih]
      by_cases hm:Lib.indexByte l c=-1
      · simp [hm]
      · have h3:(Lib.indexByte l c == -1)=false:=by simpa using hm
        simp only [h3,Bool.false_eq_true,if_false]
        congr 1
        apply propext
        omega
def Sgn.good (s:Sgn):Bool:=goodTo s.l 5
theorem int5 (s:Sgn) (j:Nat) (hj:j<5) (w:World):(Instr.index 226 s.v (.int .i64 (j:Int))).run Tryz.prog w=.ok (.int .u8 ((s.l.getD j 0).toNat:Int)) w:=by
  have h:j=0∨j=1∨j=2∨j=3∨j=4:=by omega
  rcases h with rfl|rfl|rfl|rfl|rfl <;> simp [Instr.index,asIntOf,run_underlying Tryz.underlying226,go_sem,Sgn.l]
theorem len5:Tryz.prog.arrayLen 226=5:=by kernel_rfl
theorem size5 (w:World):(sizeOf (Tryz.prog.elem 226)).run Tryz.prog w=.ok 1 w:=by
  rw [show Tryz.prog.elem 226=5 from by kernel_rfl]
  simp [go_sem]
theorem slice5 (G j:Nat) (hj:j≤5) (w:World):(Instr.sliceAt 226 (.pointer (some ⟨G,0,none⟩)) none (some (.int .i64 (j:Int))) none).run Tryz.prog w=.ok (.slice (some ⟨G,0,none⟩) j 5) w:=by
  rw [run_sliceAt_array_h w 226 ⟨G,0,none⟩ (by kernel_rfl) .i64 (j:Int) (by omega) (by rw [len5];omega),size5]
  simp [slicedAt,len5,Result.andThen,Addr.add]
theorem goodTo_le {l:List UInt8} {j k:Nat} (h:goodTo l k=true) (hjk:j≤k):goodTo l j=true:=by
  induction k with
  | zero=>obtain rfl:j=0:=by omega
            rfl
  | succ k ih =>
    by_cases e:j=k+1
    · subst e;exact h
    · simp only [goodTo,Bool.and_eq_true] at h
      exact ih h.1.1 (by omega)
theorem goodTo_no {l:List UInt8} {j:Nat} (h:goodTo l (j+1)=false) (hj:j<5):goodTo l 5=false:=by
  cases h5:goodTo l 5
  · rfl
  · rw [goodTo_le h5 (show j+1≤5 by omega)] at h
    cases h
def Sgn.plain (s:Sgn):Bool:=(s.a.toNat:Int) == 124 && (s.b.toNat:Int) == 94 && (s.c.toNat:Int) == 126 && (s.d.toNat:Int) == 92 && (s.e.toNat:Int) == 38
theorem Sgn.plain_good {s:Sgn} (h:s.plain=true):s.good=true:=by
  obtain ⟨a,b,c,d,e⟩:=s
  simp only [Sgn.plain,Bool.and_eq_true,beq_iff_eq] at h
  obtain rfl:a=124:=UInt8.toNat_inj.1 (by show _=124;omega)
  obtain rfl:b=94:=UInt8.toNat_inj.1 (by show _=94;omega)
  obtain rfl:c=126:=UInt8.toNat_inj.1 (by show _=126;omega)
  obtain rfl:d=92:=UInt8.toNat_inj.1 (by show _=92;omega)
  obtain rfl:e=38:=UInt8.toNat_inj.1 (by show _=38;omega)
  decide
theorem delims_eq (s:Sgn) (w:World):(binOp .eql 109 s.v (dlm 124 94 126 92 38)).run Tryz.prog w=.ok (.bool s.plain) w:=by
  rw [run_eql_struct,run_equalIn_agg (ht:=by kernel_rfl) (hp:=by kernel_rfl)]
  simp [Op.eqFields,Program.fieldsOf,Tryz.underlying109,part,go_sem]
  by_cases h1:(s.a.toNat:Int)=124 <;> by_cases h2:(s.b.toNat:Int)=94 <;> by_cases h3:(s.c.toNat:Int)=126 <;> by_cases h4:(s.d.toNat:Int)=92 <;> by_cases h5:(s.e.toNat:Int)=38 <;> simp [Sgn.plain,h1,h2,h3,h4,h5]
set_option maxRecDepth 100000 in
theorem delimRight (s:Sgn) (w:World):Calls Tryz.prog 140 #[s.v] w fun x w'=>x=.returned (.bool s.good)∧Below w.heap.size w w':=by
  have heq:=fun w=>delims_eq s w
  have HGO:=hid (show s.good=goodTo s.l 5 from rfl)
  have HPG:=hid (@Sgn.plain_good s)
  go_enter Tryz.func140,Tryz.ntmps140
  go_wp2_with (fail)
  have hr:=heap_alloc_new w (.cells #[.int .u8 (s.a.toNat:Int),.int .u8 (s.b.toNat:Int),.int .u8 (s.c.toNat:Int),.int .u8 (s.d.toNat:Int),.int .u8 (s.e.toNat:Int)] 109)
  have B1:Hid (Below w.heap.size w (w.alloc (.cells #[.int .u8 (s.a.toNat:Int),.int .u8 (s.b.toNat:Int),.int .u8 (s.c.toNat:Int),.int .u8 (s.d.toNat:Int),.int .u8 (s.e.toNat:Int)] 109))):=hid ((Below.refl _ w).alloc (Nat.le_refl _) _)
  have hg:w.heap.size<(w.alloc (.cells #[.int .u8 (s.a.toNat:Int),.int .u8 (s.b.toNat:Int),.int .u8 (s.c.toNat:Int),.int .u8 (s.d.toNat:Int),.int .u8 (s.e.toNat:Int)] 109)).heap.size:=by simp
  obtain ⟨G,hG⟩:∃ G,G=w.heap.size:=⟨_,rfl⟩
  generalize w.alloc (.cells #[.int .u8 (s.a.toNat:Int),.int .u8 (s.b.toNat:Int),.int .u8 (s.c.toNat:Int),.int .u8 (s.d.toNat:Int),.int .u8 (s.e.toNat:Int)] 109)=W1 at *
  rw [← hG] at hr hg B1 ⊢
  have HBL:Hid (Below w.heap.size w W1):=hid (by rw [← hG];exact B1.out)
  clear hG B1
  have L:∀ (k:Nat) (x:Value),(#[Value.int .u8 (s.a.toNat:Int),.int .u8 (s.b.toNat:Int),.int .u8 (s.c.toNat:Int),.int .u8 (s.d.toNat:Int),.int .u8 (s.e.toNat:Int)]:Array Value)[k]?=some x→∀ n:Later W1,n.u.cell? ⟨G,k,none⟩=some x:=fun k x hx n=>by
    rw [cell_of_row _ _ _ _ _ _ (by rw [n.h.block _ hg];exact hr)];exact hx
  have L0:=L 0 _ rfl
  have L1:=L 1 _ rfl
  have L2:=L 2 _ rfl
  have L3:=L 3 _ rfl
  have L4:=L 4 _ rfl
  clear L hr hg
  cases hp:s.plain
  all_goals rw [hp] at heq HPG
  all_goals
    refine region_later (by kernel_rfl) (by kernel_rfl) ?_
    repeat (go_big_quiet_step ((first
      | (go_at_call 172;exact Calls.later (delimPlain _)))))
    refine wpQuiet_nil ?_
    intro nq
    have l0:=L0 nq
    have l1:=L1 nq
    have l2:=L2 nq
    have l3:=L3 nq
    have l4:=L4 nq
    clear L0 L1 L2 L3 L4 heq
    have HB1:Hid (Below w.heap.size w nq.u):=hid (HBL.out.trans (nq.h.mono HBL.out.size))
    clear HBL
    generalize nq.u=W2 at *
    clear nq
    go_wp2_with (fail)
  · clear l0 l1 l2 l3 l4
    refine (delimRow _ _ _ _ _ W2).mono ?_
    rintro e w3 ⟨rfl,hb3⟩
    have HB3:Hid (Below w.heap.size w w3):=hid (HB1.out.trans (hb3.mono HB1.out.size))
    clear HB1 hb3
    go_wp2_with (fail)
    have hr:=heap_alloc_new w3 (.cells #[.int .u8 (s.a.toNat:Int),.int .u8 (s.b.toNat:Int),.int .u8 (s.c.toNat:Int),.int .u8 (s.d.toNat:Int),.int .u8 (s.e.toNat:Int)] 226)
    have hg:w3.heap.size<(w3.alloc (.cells #[.int .u8 (s.a.toNat:Int),.int .u8 (s.b.toNat:Int),.int .u8 (s.c.toNat:Int),.int .u8 (s.d.toNat:Int),.int .u8 (s.e.toNat:Int)] 226)).heap.size:=by simp
    have HB4:Hid (Below w.heap.size w (w3.alloc (.cells #[.int .u8 (s.a.toNat:Int),.int .u8 (s.b.toNat:Int),.int .u8 (s.c.toNat:Int),.int .u8 (s.d.toNat:Int),.int .u8 (s.e.toNat:Int)] 226))):=hid (HB3.out.alloc HB3.out.size _)
    obtain ⟨G2,hG⟩:∃ G,G=w3.heap.size:=⟨_,rfl⟩
    clear HB3
    generalize w3.alloc (.cells #[.int .u8 (s.a.toNat:Int),.int .u8 (s.b.toNat:Int),.int .u8 (s.c.toNat:Int),.int .u8 (s.d.toNat:Int),.int .u8 (s.e.toNat:Int)] 226)=W4 at *
    rw [← hG] at hr hg ⊢
    clear hG
    have HBs:Hid (Bs W4 (some ⟨G2,0,none⟩) 5 5 s.l):=hid (Bs.block hr rfl (by simp [maxLen]))
    clear hr hg
    go_loop [12] (fun k=>∃ j:Nat,j≤5∧k=.int .i64 j∧goodTo s.l j=true) (fun k=>5-(intOf k).toNat)
    case atStart=>exact ⟨0,Nat.zero_le _,rfl,rfl⟩
    case round =>
      obtain ⟨j,hj,rfl,hgo⟩:=hrel
      have HGJ:=hid hgo
      clear hgo
      by_cases hlt:j<5
      · have hix:=int5 s j hlt
        have HTJ:=hid (indexByte_has (s.l.take j) (s.l.getD j 0))
        have HNX:=hid (show goodTo s.l (j+1)=(goodTo s.l j && isSign (s.l.getD j 0).toNat && !((s.l.take j).contains (s.l.getD j 0))) from rfl)
        have hcv:=(Bs.take HBs.out hj).str (P:=Tryz.prog) 40 5 9 Tryz.underlying40 Tryz.underlying5 Tryz.underlying9
        rw [HGJ.out] at HNX
        have hx:=(s.l.getD j 0).toNat_lt
        have HX:Hid (((s.l.getD j 0).toNat:Int).toNat.toUInt8=s.l.getD j 0):=hid (by simp)
        generalize s.l.getD j 0=x at *
        generalize (s.l.take j).contains x=h at *
        generalize s.l.take j=L at *
        go_wp2_with (fail)
        refine (delimSign x.toNat W4).mono ?_
        rintro e w5 ⟨rfl,rfl⟩
        generalize isSign x.toNat=i at *
        have hsl:=fun w=>slice5 G2 j hj w
        have HLT:=hid hlt
        cases i
        · go_wp2_with (fail)
          go_ret
          exact ⟨by rw [HGO.out,goodTo_no (j:=j) (by rw [HNX.out];rfl) HLT.out];rfl,HB4.out⟩
        · go_wp2_with (fail)
          refine (strIndexByte _ _ W4).mono ?_
          rintro e w6 ⟨rfl,rfl⟩
          rw [HX.out,show (txt L).data.toList=L from rfl]
          generalize Lib.indexByte L x=m at *
          cases h
          · have hm:¬ (0:Int)≤m:=by simpa using HTJ.out
            go_wp2_with (fail)
            go_round
            case rel=>exact ⟨j+1,HLT.out,by go_num,HNX.out⟩
            case measure=>have:=HLT.out;simp [intOf];omega
          · have hm:(0:Int)≤m:=by simpa using HTJ.out
            go_wp2_with (fail)
            go_ret
            exact ⟨by rw [HGO.out,goodTo_no (j:=j) (by rw [HNX.out];rfl) HLT.out];rfl,HB4.out⟩
      · obtain rfl:j=5:=by omega
        go_wp2_with (fail)
        go_ret
        exact ⟨by rw [HGO.out,HGJ.out];rfl,HB4.out⟩
  · go_ret
    exact ⟨by rw [Sgn.plain_good hp];rfl,HB1.out⟩
end
section
open Go.RowKit
def Sgn.of (l:List UInt8):Sgn:=⟨l.getD 3 0,l.getD 4 0,l.getD 5 0,l.getD 6 0,l.getD 7 0⟩
def Sgn.zero:Sgn:=⟨0,0,0,0,0⟩
def readD (l:List UInt8):Sgn × Int :=
  if l.length<9 then (Sgn.zero,7)
  else if l.take 3≠[77,83,72]∨(Sgn.of l).good=false then (Sgn.zero,11)
  else if l.getD 8 0≠l.getD 3 0∧l.getD 8 0≠13 then (Sgn.zero,11)
  else (Sgn.of l,0)
def setFive (W:World) (G:Nat) (a b c d e:Value):World:=((((W.setCell ⟨G,0,none⟩ a).setCell ⟨G,1,none⟩ b).setCell ⟨G,2,none⟩ c).setCell ⟨G,3,none⟩ d).setCell ⟨G,4,none⟩ e
theorem setFive_row {W:World} {G:Nat} {a' b' c' d' e':Value} {t:TypeId} (h:W.heap[G]?=some (.cells #[a',b',c',d',e'] t)) (a b c d e:Value):(setFive W G a b c d e).heap[G]?=some (.cells #[a,b,c,d,e] t) :=
  Lib.heap_setCell_same (Lib.heap_setCell_same (Lib.heap_setCell_same (Lib.heap_setCell_same (Lib.heap_setCell_same h a) b) c) d) e
theorem setFive_below {B:Nat} {w W:World} {G:Nat} (h:Below B w W) (hG:B≤G) (a b c d e:Value):Below B w (setFive W G a b c d e) :=
  ((((h.setCell (p:=⟨G,0,none⟩) hG a).setCell (p:=⟨G,1,none⟩) hG b).setCell (p:=⟨G,2,none⟩) hG c).setCell (p:=⟨G,3,none⟩) hG d).setCell (p:=⟨G,4,none⟩) hG e
theorem frozen_of {W:World} {G:Nat} {cs:Array Value} {t:TypeId} (h:W.heap[G]?=some (.cells cs t)) (k:Nat):W.frozen? ⟨G,k,none⟩=false:=by
  simp [World.frozen?,h]
set_option maxHeartbeats 1000000 in
set_option maxRecDepth 100000 in
theorem delimRead_short (A:Option Addr) (n c:Nat) (l:List UInt8) (w:World) (hB:Bs w A n c l) (h9:(n:Int)<9) :
    Calls Tryz.prog 102 #[.slice A n c] w fun e w'=>e=.returned (.tuple #[(readD l).1.v,.int .i64 (readD l).2])∧Below w.heap.size w w':=by
  have hn:=hB.nmax
  have HL:=hid hB.len
  have HB:=hid hB;clear hB
  rw [show readD l=(Sgn.zero,7) from by unfold readD;rw [if_pos (by rw [HL.out];omega)]]
  go_enter Tryz.func102,Tryz.ntmps102
  go_wp2_with (fail)
  exact bodyPost_ret (v:=.tuple #[dlm 0 0 0 0 0,.int .i64 7]) (by simp [results,Tryz.results102,go_sem]) rfl ⟨rfl,(Below.refl _ w).alloc (Nat.le_refl _) _⟩
set_option maxHeartbeats 1000000 in
set_option maxRecDepth 100000 in
theorem delimRead_head (A:Option Addr) (n c:Nat) (l:List UInt8) (w:World) (hB:Bs w A n c l) (h9:¬ (n:Int)<9) (hm:¬ l.take 3=[77,83,72]) :
    Calls Tryz.prog 102 #[.slice A n c] w fun e w'=>e=.returned (.tuple #[(readD l).1.v,.int .i64 (readD l).2])∧Below w.heap.size w w':=by
  have Khm:=hid hm;clear hm
  have hn:=hB.nmax
  have HL:=hid hB.len
  have HB:=hid hB;clear hB
  have h8:9≤n:=by omega
  obtain ⟨b,o,rfl,hb,hc⟩:=HB.out.at_ (by omega)
  go_enter Tryz.func102,Tryz.ntmps102
  go_wp2_with (fail)
  have hlen:=HL.out
  have hr1:=heap_alloc_new w (.cells #[.int .u8 0,.int .u8 0,.int .u8 0,.int .u8 0,.int .u8 0] 109)
  have hg1:w.heap.size<(w.alloc (.cells #[.int .u8 0,.int .u8 0,.int .u8 0,.int .u8 0,.int .u8 0] 109)).heap.size:=by simp
  have HB1:Hid (Below w.heap.size w (w.alloc (.cells #[.int .u8 0,.int .u8 0,.int .u8 0,.int .u8 0,.int .u8 0] 109))):=hid ((Below.refl _ w).alloc (Nat.le_refl _) _)
  have HS1:=hid (HB.out.alloc (.cells #[.int .u8 0,.int .u8 0,.int .u8 0,.int .u8 0,.int .u8 0] 109))
  clear HB hb hc
  obtain ⟨G1,hG⟩:∃ G,G=w.heap.size:=⟨_,rfl⟩
  have HG1:Hid (w.heap.size≤G1):=hid (by omega)
  generalize w.alloc (.cells #[.int .u8 0,.int .u8 0,.int .u8 0,.int .u8 0,.int .u8 0] 109)=W1 at *
  rw [← hG] at hr1 hg1 ⊢
  have HB1':Hid (Below w.heap.size w W1):=hid (by first | exact HB1.out | (rw [← hG];exact HB1.out))
  clear hG HB1
  have cell:∀ k,k<n→W1.cell? ⟨b,o+k,none⟩=some (.int .u8 ((l.getD k 0).toNat:Int)):=by
    intro k hk
    obtain ⟨b',o',e,_,hc⟩:=HS1.out.at_ (by omega)
    cases e
    rw [hc k (l.getD k 0) (by rw [List.getD_eq_getElem?_getD,List.getElem?_eq_getElem (by omega)];rfl)]
  obtain ⟨S,hS⟩:∃ S:Sgn,S=Sgn.of l:=⟨_,rfl⟩
  obtain ⟨x8,hx8⟩:∃ x:UInt8,x=l.getD 8 0:=⟨_,rfl⟩
  have z3:W1.cell? ⟨b,o+3,none⟩=some (.int .u8 (S.a.toNat:Int)):=by rw [hS];exact cell 3 (by omega)
  have z4:W1.cell? ⟨b,o+4,none⟩=some (.int .u8 (S.b.toNat:Int)):=by rw [hS];exact cell 4 (by omega)
  have z5:W1.cell? ⟨b,o+5,none⟩=some (.int .u8 (S.c.toNat:Int)):=by rw [hS];exact cell 5 (by omega)
  have z6:W1.cell? ⟨b,o+6,none⟩=some (.int .u8 (S.d.toNat:Int)):=by rw [hS];exact cell 6 (by omega)
  have z7:W1.cell? ⟨b,o+7,none⟩=some (.int .u8 (S.e.toNat:Int)):=by rw [hS];exact cell 7 (by omega)
  have z8:W1.cell? ⟨b,o+8,none⟩=some (.int .u8 (x8.toNat:Int)):=by rw [hx8];exact cell 8 (by omega)
  have HSS:=hid hS
  have HX8:=hid hx8
  clear hS hx8
  clear cell
  have i3:(3:Int)<n:=by omega
  have i4:(4:Int)<n:=by omega
  have i5:(5:Int)<n:=by omega
  have i6:(6:Int)<n:=by omega
  have i7:(7:Int)<n:=by omega
  have HR1:=hid hr1
  have HH1:=hid hg1
  clear hr1 hg1
  have hbw:b<W1.heap.size:=by
    obtain ⟨b',o',e,hb',_⟩:=HS1.out.at_ (by omega)
    cases e
    exact hb'
  have hbne:b≠W1.heap.size:=by omega
  have hbne':¬ W1.heap.size=b:=by omega
  have Z8:=hid z8
  clear z8
  go_region
  have hr2:((W1.alloc (.cells #[.int .u8 (S.a.toNat:Int),.int .u8 (S.b.toNat:Int),.int .u8 (S.c.toNat:Int),.int .u8 (S.d.toNat:Int),.int .u8 (S.e.toNat:Int)] 109)).drew).heap[W1.heap.size]?=some (.cells #[.int .u8 (S.a.toNat:Int),.int .u8 (S.b.toNat:Int),.int .u8 (S.c.toNat:Int),.int .u8 (S.d.toNat:Int),.int .u8 (S.e.toNat:Int)] 109):=heap_alloc_new W1 (.cells #[.int .u8 (S.a.toNat:Int),.int .u8 (S.b.toNat:Int),.int .u8 (S.c.toNat:Int),.int .u8 (S.d.toNat:Int),.int .u8 (S.e.toNat:Int)] 109)
  have HS2:Hid (Bs ((W1.alloc (.cells #[.int .u8 (S.a.toNat:Int),.int .u8 (S.b.toNat:Int),.int .u8 (S.c.toNat:Int),.int .u8 (S.d.toNat:Int),.int .u8 (S.e.toNat:Int)] 109)).drew) (some ⟨b,o,none⟩) n c l):=hid (HS1.out.alloc (.cells #[.int .u8 (S.a.toNat:Int),.int .u8 (S.b.toNat:Int),.int .u8 (S.c.toNat:Int),.int .u8 (S.d.toNat:Int),.int .u8 (S.e.toNat:Int)] 109)).drew
  have hb2:Below W1.heap.size W1 ((W1.alloc (.cells #[.int .u8 (S.a.toNat:Int),.int .u8 (S.b.toNat:Int),.int .u8 (S.c.toNat:Int),.int .u8 (S.d.toNat:Int),.int .u8 (S.e.toNat:Int)] 109)).drew):=((Below.refl _ W1).alloc (Nat.le_refl _) _).drew
  have HB2:Hid (Below w.heap.size w ((W1.alloc (.cells #[.int .u8 (S.a.toNat:Int),.int .u8 (S.b.toNat:Int),.int .u8 (S.c.toNat:Int),.int .u8 (S.d.toNat:Int),.int .u8 (S.e.toNat:Int)] 109)).drew)):=hid (HB1'.out.trans (hb2.mono HB1'.out.size))
  have HR2:Hid (((W1.alloc (.cells #[.int .u8 (S.a.toNat:Int),.int .u8 (S.b.toNat:Int),.int .u8 (S.c.toNat:Int),.int .u8 (S.d.toNat:Int),.int .u8 (S.e.toNat:Int)] 109)).drew).heap[G1]?=some (.cells #[.int .u8 0,.int .u8 0,.int .u8 0,.int .u8 0,.int .u8 0] 109)):=hid (by rw [hb2.block _ HH1.out];exact HR1.out)
  have HG2:Hid (G1<((W1.alloc (.cells #[.int .u8 (S.a.toNat:Int),.int .u8 (S.b.toNat:Int),.int .u8 (S.c.toNat:Int),.int .u8 (S.d.toNat:Int),.int .u8 (S.e.toNat:Int)] 109)).drew).heap.size):=hid (Nat.lt_of_lt_of_le HH1.out hb2.size)
  have HGG:Hid (W1.heap.size<((W1.alloc (.cells #[.int .u8 (S.a.toNat:Int),.int .u8 (S.b.toNat:Int),.int .u8 (S.c.toNat:Int),.int .u8 (S.d.toNat:Int),.int .u8 (S.e.toNat:Int)] 109)).drew).heap.size):=hid (by show _<(W1.alloc (.cells #[.int .u8 (S.a.toNat:Int),.int .u8 (S.b.toNat:Int),.int .u8 (S.c.toNat:Int),.int .u8 (S.d.toNat:Int),.int .u8 (S.e.toNat:Int)] 109)).heap.size;simp)
  have HZ8:Hid (((W1.alloc (.cells #[.int .u8 (S.a.toNat:Int),.int .u8 (S.b.toNat:Int),.int .u8 (S.c.toNat:Int),.int .u8 (S.d.toNat:Int),.int .u8 (S.e.toNat:Int)] 109)).drew).cell? ⟨b,o+8,none⟩=some (.int .u8 (x8.toNat:Int))):=hid (by rw [hb2.cell (p:=⟨b,o+8,none⟩) hbw];exact Z8.out)
  obtain ⟨G2,hG2⟩:∃ G,G=W1.heap.size:=⟨_,rfl⟩
  have HNE:Hid (G2≠G1):=hid (by have:=HH1.out;omega)
  clear hb2 hbne hbne' z3 z4 z5 z6 z7 i3 i4 i5 i6 i7 HS1 HB1' HR1 HH1 Z8
  generalize (W1.alloc (.cells #[.int .u8 (S.a.toNat:Int),.int .u8 (S.b.toNat:Int),.int .u8 (S.c.toNat:Int),.int .u8 (S.d.toNat:Int),.int .u8 (S.e.toNat:Int)] 109)).drew=W2 at *
  rw [← hG2] at hr2 HGG ⊢
  clear hG2
  have q0:=cell_of_row W2 G2 0 _ _ _ hr2
  have q1:=cell_of_row W2 G2 1 _ _ _ hr2
  have q2:=cell_of_row W2 G2 2 _ _ _ hr2
  have q3:=cell_of_row W2 G2 3 _ _ _ hr2
  have q4:=cell_of_row W2 G2 4 _ _ _ hr2
  simp only [List.getElem?_toArray,List.getElem?_cons_zero,List.getElem?_cons_succ] at q0 q1 q2 q3 q4
  have HR3:=hid hr2
  clear hr2
  have hcv:=(Bs.take HS2.out (j:=3) (by omega)).str (P:=Tryz.prog) 40 5 9 Tryz.underlying40 Tryz.underlying5 Tryz.underlying9
  have hc3:(3:Int)≤c:=by have:=HS2.out.le;omega
  have HRD:Hid (readD l=if l.take 3≠[77,83,72]∨S.good=false then (Sgn.zero,11) else if x8≠S.a∧x8≠13 then (Sgn.zero,11) else (S,0)):=hid (by unfold readD;rw [if_neg (by rw [hlen];omega),← HSS.out,← HX8.out,show l.getD 3 0=S.a from by rw [HSS.out];rfl])
  have ZC:∀ w3:World,Below W2.heap.size W2 w3→w3.heap[G1]?=some (.cells #[.int .u8 0,.int .u8 0,.int .u8 0,.int .u8 0,.int .u8 0] 109)∧w3.cell? ⟨b,o+8,none⟩=some (.int .u8 (x8.toNat:Int))∧w3.heap[G2]?=some (.cells #[.int .u8 (S.a.toNat:Int),.int .u8 (S.b.toNat:Int),.int .u8 (S.c.toNat:Int),.int .u8 (S.d.toNat:Int),.int .u8 (S.e.toNat:Int)] 109):=fun w3 h3=>⟨by rw [h3.block _ HG2.out];exact HR2.out,by
    obtain ⟨b',o',e,hb',_⟩:=HS2.out.at_ (by omega)
    cases e
    rw [h3.cell (p:=⟨b,o+8,none⟩) hb'];exact HZ8.out,by rw [h3.block _ HGG.out];exact HR3.out⟩
  have ZCH:=hid ZC
  clear ZC
  have hm:=Khm.out;clear Khm
  have hm':(l.take 3=[77,83,72])=False:=by simp [hm]
  have HRZ:=hid (show readD l=(Sgn.zero,11) from by rw [HRD.out,if_pos (.inl hm)])
  clear HRD q0 q1 q2 q3 q4
  have c0:=cell_of_row _ G1 0 _ _ _ HR2.out
  have c1:=cell_of_row _ G1 1 _ _ _ HR2.out
  have c2:=cell_of_row _ G1 2 _ _ _ HR2.out
  have c3:=cell_of_row _ G1 3 _ _ _ HR2.out
  have c4:=cell_of_row _ G1 4 _ _ _ HR2.out
  simp only [List.getElem?_toArray,List.getElem?_cons_zero,List.getElem?_cons_succ] at c0 c1 c2 c3 c4
  have f0:=frozen_of HR2.out 0
  have f1:=frozen_of HR2.out 1
  have f2:=frozen_of HR2.out 2
  have f3:=frozen_of HR2.out 3
  have f4:=frozen_of HR2.out 4
  go_wp2_with (fail)
  clear c0 c1 c2 c3 c4 f0 f1 f2 f3 f4
  have hrow:=setFive_row (W:=W2) HR2.out (.int .u8 0) (.int .u8 0) (.int .u8 0) (.int .u8 0) (.int .u8 0)
  have hbel:=setFive_below (W:=W2) HB2.out HG1.out (.int .u8 0) (.int .u8 0) (.int .u8 0) (.int .u8 0) (.int .u8 0)
  unfold setFive at hrow hbel
  generalize (((((W2.setCell ⟨G1,0,none⟩ (.int .u8 0)).setCell ⟨G1,1,none⟩ (.int .u8 0)).setCell ⟨G1,2,none⟩ (.int .u8 0)).setCell ⟨G1,3,none⟩ (.int .u8 0)).setCell ⟨G1,4,none⟩ (.int .u8 0))=W5 at hrow hbel ⊢
  have c0:=cell_of_row _ G1 0 _ _ _ hrow
  have c1:=cell_of_row _ G1 1 _ _ _ hrow
  have c2:=cell_of_row _ G1 2 _ _ _ hrow
  have c3:=cell_of_row _ G1 3 _ _ _ hrow
  have c4:=cell_of_row _ G1 4 _ _ _ hrow
  simp only [List.getElem?_toArray,List.getElem?_cons_zero,List.getElem?_cons_succ] at c0 c1 c2 c3 c4
  exact bodyPost_ret (v:=.tuple #[dlm 0 0 0 0 0,.int .i64 11]) (by simp [results,Tryz.results102,go_sem,c0,c1,c2,c3,c4]) rfl ⟨by rw [HRZ.out];rfl,hbel⟩
end
end Go.Proofs.YtodjilljcjkacaaGreatDoor
