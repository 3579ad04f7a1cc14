/- Laid together: Msh6, SegMakesM, MshBackM, Msh6b, MshEG. -/
import Derived.Test.YtodjilljcjkacaaGreatDoorPkIB26
import Derived.Deep.RegionHeld3
import Derived.Deep.CutRange
import Derived.Deep.DeepCutAuto
import Derived.Deep.RegionWith
import Derived.Conc.MuLone

namespace Go.Proofs.YtodjilljcjkacaaGreatDoor
open Lib (hid)
section
open Go.RowKit
theorem mem_lens:∀ {T:List (List UInt8)} {x:List UInt8},x ∈ T→x.length≤Lib.lens T
  | a :: r,x,h=>by
    have e:Lib.lens (a :: r)=a.length+Lib.lens r:=by simp [Lib.lens]
    rw [e]
    rcases List.mem_cons.1 h with rfl|h
    · omega
    · have:=mem_lens h;omega
theorem OwnS.twoH (w:World) (x y:List UInt8) (base:Nat) (hb:base≤w.heap.size):OwnS (w.alloc (.cells #[str x,str y] 9)) base (.slice (some ⟨w.heap.size,0,none⟩) 2 2) [x,y] :=
  ⟨by simp,.inr ⟨w.heap.size,2,#[str x,str y],rfl,hb,heap_alloc_new w _,Nat.le_refl _,by simp [maxLen],by simp,by simp⟩⟩
def standD (c:UInt8) (x:ByteArray):Bool:=!x.data.toList.contains c && !x.data.toList.contains 13
theorem index_lt (l:List UInt8) (c:UInt8):decide (Lib.indexByte l c<0)=!l.contains c:=by
  rw [← indexByte_has l c]
  by_cases h:Lib.indexByte l c<0
  · simp [h]
  · simp [h];omega
set_option maxHeartbeats 1000000 in
theorem mayStand_ (x:ByteArray) (d:Sgn) (w:World):Calls Tryz.prog 160 #[.string x,d.v] w fun e w'=>e=.returned (.bool (standD d.a x))∧Below w.heap.size w w':=by
  have HX0:Hid (BoxS d w.heap.size (boxSgn d w)):=hid (heap_alloc_new w _)
  have HB0:=hid (boxSgn_below d w)
  obtain ⟨c0,c1,c2,c3,c4⟩:=HX0.out.cells
  have HI1:=hid (index_lt x.data.toList d.a)
  have HI2:=hid (index_lt x.data.toList 13)
  go_enter Tryz.func160,Tryz.ntmps160
  go_wp2_with (fail)
  refine (Tryz.strings_IndexByte x (d.a.toNat:Int) _).mono ?_
  rintro e w1 ⟨rfl,rfl⟩
  rw [u8_back]
  cases h1:x.data.toList.contains d.a
  · have d1:decide (Lib.indexByte x.data.toList d.a<0)=true:=by rw [HI1.out,h1];rfl
    have d1':Lib.indexByte x.data.toList d.a<0:=of_decide_eq_true d1
    go_wp2_with (fail)
    refine (Tryz.strings_IndexByte x 13 _).mono ?_
    rintro e w1 ⟨rfl,rfl⟩
    rw [show (13:Int).toNat.toUInt8=13 from rfl]
    cases h2:x.data.toList.contains 13
    · have d2:decide (Lib.indexByte x.data.toList 13<0)=true:=by rw [HI2.out,h2];rfl
      have d2':Lib.indexByte x.data.toList 13<0:=of_decide_eq_true d2
      have HE:Hid (standD d.a x=true):=hid (by unfold standD;rw [h1,h2];rfl)
      go_wp2_with (fail)
      go_ret
      rw [HE.out];exact ⟨rfl,HB0.out⟩
    · have d2:decide (Lib.indexByte x.data.toList 13<0)=false:=by rw [HI2.out,h2];rfl
      have d2':¬ Lib.indexByte x.data.toList 13<0:=of_decide_eq_false d2
      have HE:Hid (standD d.a x=false):=hid (by unfold standD;rw [h1,h2];rfl)
      go_wp2_with (fail)
      go_ret
      rw [HE.out];exact ⟨rfl,HB0.out⟩
  · have d1:decide (Lib.indexByte x.data.toList d.a<0)=false:=by rw [HI1.out,h1];rfl
    have d1':¬ Lib.indexByte x.data.toList d.a<0:=of_decide_eq_false d1
    have HE:Hid (standD d.a x=false):=hid (by unfold standD;rw [h1];rfl)
    go_wp2_with (fail)
    go_ret
    rw [HE.out];exact ⟨rfl,HB0.out⟩
def filledD (l:List ByteArray):Nat→Nat
  | 0=>2
  | k+1=>if (l.getD k ⟨#[]⟩).toList.isEmpty then filledD l k else k+3
theorem filledD_le (l:List ByteArray):∀ k,filledD l k≤k+2
  | 0=>Nat.le_refl _
  | k+1=>by
    have:=filledD_le l k
    unfold filledD
    split <;> omega
def rowH (h:Hd):List (List UInt8):=[h.d.a] :: [h.d.b,h.d.c,h.d.d,h.d.e] :: h.l.map (·.data.toList)
def writeH (h:Hd):List UInt8 × Int :=
  if h.d.good=true then
    if h.l.all (standD h.d.a)=true then (makeD mshB h.d.a ((rowH h).take (filledD h.l 10)),0) else ([],10)
  else ([],11)
theorem rowH_len (h:Hd):(rowH h).length=12:=rfl
theorem Hd.l_len (h:Hd):h.l.length=10:=rfl
theorem rowH_take (h:Hd) (k:Nat) (hk:k<10):(rowH h).take (k+2)++[(h.l.getD k ⟨#[]⟩).data.toList]=(rowH h).take (k+1+2):=by
  match k,hk with
  | 0,_=>rfl
  | 1,_=>rfl
  | 2,_=>rfl
  | 3,_=>rfl
  | 4,_=>rfl
  | 5,_=>rfl
  | 6,_=>rfl
  | 7,_=>rfl
  | 8,_=>rfl
  | 9,_=>rfl
theorem Hd.cells_at (h:Hd) (k:Nat) (hk:k<10):h.cells[5+k]?=some (.string (h.l.getD k ⟨#[]⟩)):=by
  match k,hk with
  | 0,_=>rfl
  | 1,_=>rfl
  | 2,_=>rfl
  | 3,_=>rfl
  | 4,_=>rfl
  | 5,_=>rfl
  | 6,_=>rfl
  | 7,_=>rfl
  | 8,_=>rfl
  | 9,_=>rfl
theorem BoxH.text {h:Hd} {g:Nat} {w:World} (b:BoxH h g w) (k:Nat) (hk:k<10):w.cell? ⟨g,5+k,none⟩=some (.string (h.l.getD k ⟨#[]⟩)):=by
  rw [cell_of_row w g (5+k) _ _ _ b];exact h.cells_at k hk
theorem Hd.text_mem (h:Hd) (k:Nat) (hk:k<10):h.l.getD k ⟨#[]⟩ ∈ h.l:=by
  rw [List.getD_eq_getElem?_getD,List.getElem?_eq_getElem (by rw [h.l_len];exact hk)]
  exact List.getElem_mem _
theorem Hd.take_all (h:Hd) (p:ByteArray→Bool) (k:Nat) (hk:k<10) (h1:(h.l.take k).all p=true) (h2:p (h.l.getD k ⟨#[]⟩)=true):(h.l.take (k+1)).all p=true:=by
  rw [List.take_succ_eq_append_getElem (by rw [h.l_len];exact hk),List.all_append,h1]
  have e:h.l.getD k ⟨#[]⟩=h.l[k]'(by rw [h.l_len];exact hk):=by
    rw [List.getD_eq_getElem?_getD,List.getElem?_eq_getElem (by rw [h.l_len];exact hk)];rfl
  rw [e] at h2
  simp [h2]
theorem filledD_step (h:Hd) (k:Nat):filledD h.l (k+1)=if (h.l.getD k ⟨#[]⟩).toList.isEmpty then filledD h.l k else k+3:=rfl
theorem rowsAt (k:Nat) (hk:k<10):∃ F:Nat,(∀ W:World,(Instr.index 170 (.agg rowsV) (.int .i64 (k:Int))).run Tryz.prog W=.ok (.agg #[.func (.func F) #[] #[]]) W)∧(∀ (args:Array Value) (w:World),(callFunc F args).run Tryz.prog w=.ok (.enter F args) w)∧(∀ (g:Nat) (W:World),Calls Tryz.prog F #[.pointer (some ⟨g,0,none⟩)] W fun e w'=>e=.returned (.pointer (some ⟨g,5+k,none⟩))∧w'=W):=by
  match k,hk with
  | 0,_=>exact ⟨_,fun _=>by kernel_rfl,fun args w=>Go.MuLone.run_callFunc_enter Tryz.func141 (by kernel_rfl) rfl args w,fun g W=>row1_ g W⟩
  | 1,_=>exact ⟨_,fun _=>by kernel_rfl,fun args w=>Go.MuLone.run_callFunc_enter Tryz.func142 (by kernel_rfl) rfl args w,fun g W=>row2_ g W⟩
  | 2,_=>exact ⟨_,fun _=>by kernel_rfl,fun args w=>Go.MuLone.run_callFunc_enter Tryz.func143 (by kernel_rfl) rfl args w,fun g W=>row3_ g W⟩
  | 3,_=>exact ⟨_,fun _=>by kernel_rfl,fun args w=>Go.MuLone.run_callFunc_enter Tryz.func144 (by kernel_rfl) rfl args w,fun g W=>row4_ g W⟩
  | 4,_=>exact ⟨_,fun _=>by kernel_rfl,fun args w=>Go.MuLone.run_callFunc_enter Tryz.func145 (by kernel_rfl) rfl args w,fun g W=>row5_ g W⟩
  | 5,_=>exact ⟨_,fun _=>by kernel_rfl,fun args w=>Go.MuLone.run_callFunc_enter Tryz.func146 (by kernel_rfl) rfl args w,fun g W=>row6_ g W⟩
  | 6,_=>exact ⟨_,fun _=>by kernel_rfl,fun args w=>Go.MuLone.run_callFunc_enter Tryz.func147 (by kernel_rfl) rfl args w,fun g W=>row7_ g W⟩
  | 7,_=>exact ⟨_,fun _=>by kernel_rfl,fun args w=>Go.MuLone.run_callFunc_enter Tryz.func148 (by kernel_rfl) rfl args w,fun g W=>row8_ g W⟩
  | 8,_=>exact ⟨_,fun _=>by kernel_rfl,fun args w=>Go.MuLone.run_callFunc_enter Tryz.func149 (by kernel_rfl) rfl args w,fun g W=>row9_ g W⟩
  | 9,_=>exact ⟨_,fun _=>by kernel_rfl,fun args w=>Go.MuLone.run_callFunc_enter Tryz.func150 (by kernel_rfl) rfl args w,fun g W=>row10_ g W⟩
end
section
open Go.RowKit Go.Lib
theorem getD_some (T:List (List UInt8)) (k:Nat) (hk:k<T.length):T[k]?=some (T.getD k []):=by
  rw [List.getD_eq_getElem?_getD,List.getElem?_eq_getElem hk];rfl
theorem mkTo_plain (name:ByteArray) (c:UInt8) (T:List (List UInt8)) (hn:name≠mshB):∀ k,k≤T.length→mkTo name c T k=name.data.toList++joinTail [c] (T.take k)
  | 0,_=>by simp [mkTo,joinTail]
  | k+1,h=>by
    have ih:=mkTo_plain name c T hn k (by omega)
    have hs:sepD name c k=[c]:=if_neg fun h=>hn h.1
    rw [joinTail_take_succ [c] T k _ (getD_some T k (by omega))]
    simp only [mkTo,ih,hs,List.append_assoc]
theorem makeD_plain (name:ByteArray) (c:UInt8) (T:List (List UInt8)) (hn:name≠mshB):makeD name c T=name.data.toList++joinTail [c] T:=by
  unfold makeD
  rw [mkTo_plain name c T hn _ (Nat.le_refl _),List.take_length]
theorem mkTo_head (c:UInt8) (a b:List UInt8) (r:List (List UInt8)):∀ k,k≤r.length→mkTo mshB c (a :: b :: r) (k+2)=[77,83,72]++a++b++joinTail [c] (r.take k)
  | 0,_=>by
    have h0:sepD mshB c 0=[]:=if_pos ⟨rfl,by omega⟩
    have h1:sepD mshB c 1=[]:=if_pos ⟨rfl,by omega⟩
    simp [mkTo,joinTail,h0,h1]
  | k+1,h=>by
    have ih:=mkTo_head c a b r k (by omega)
    have hs:sepD mshB c (k+2)=[c]:=if_neg fun h=>by have:=h.2;omega
    rw [joinTail_take_succ [c] r k _ (getD_some r k (by omega))]
    rw [show mkTo mshB c (a :: b :: r) (k+1+2)=mkTo mshB c (a :: b :: r) (k+2)++sepD mshB c (k+2)++(a :: b :: r).getD (k+2) [] from rfl,ih,hs]
    simp only [List.getD_cons_succ,List.append_assoc]
theorem makeD_head (c:UInt8) (a b:List UInt8) (r:List (List UInt8)):makeD mshB c (a :: b :: r)=[77,83,72]++a++b++joinTail [c] r:=by
  unfold makeD
  rw [show (a :: b :: r).length=r.length+2 from rfl,mkTo_head c a b r _ (Nat.le_refl _),List.take_length]
theorem nameS_of (name:ByteArray) (r:List UInt8) (hn:name.size=3):nameS (txt (name.data.toList++r))=name:=by
  have hl:name.data.toList.length=3:=by simpa using hn
  apply ba_ext
  unfold nameS
  rw [ex_list,txt_size',List.drop_zero,List.length_append,hl,show min (3+r.length) 3=3 by omega]
  rw [← hl,List.take_left']
  rfl
end
section
open Go.RowKit Lib
theorem good_signs {s:Sgn} (h:s.good=true):(∀ x ∈ s.l,isSign x.toNat=true)∧s.a ∉ [s.b,s.c,s.d,s.e]:=by
  obtain ⟨a,b,c,d,e⟩:=s
  simp only [Sgn.good,goodTo,Sgn.l,Bool.and_eq_true,Bool.not_eq_true',List.take_zero,List.take_succ_cons] at h
  obtain ⟨⟨⟨⟨⟨⟨⟨⟨⟨⟨_,h1⟩,_⟩,h2⟩,q2⟩,h3⟩,q3⟩,h4⟩,q4⟩,h5⟩,q5⟩:=h
  simp only [List.getD_cons_zero,List.getD_cons_succ,List.contains_cons,List.contains_nil,Bool.or_false,Bool.or_eq_false_iff,beq_eq_false_iff_ne] at h1 h2 h3 h4 h5 q2 q3 q4 q5
  refine ⟨fun x hx=>?_,fun hm=>?_⟩
  · simp only [Sgn.l,List.mem_cons,List.not_mem_nil,or_false] at hx
    rcases hx with rfl|rfl|rfl|rfl|rfl <;> assumption
  · simp only [List.mem_cons,List.not_mem_nil,or_false] at hm
    rcases hm with e1|e1|e1|e1
    · exact q2 e1.symm
    · exact q3.1 e1.symm
    · exact q4.1 e1.symm
    · exact q5.1 e1.symm
theorem filledD_ge (l:List ByteArray):∀ k,2≤filledD l k
  | 0=>Nat.le_refl _
  | k+1=>by
    have:=filledD_ge l k
    unfold filledD
    split <;> omega
theorem cutAt_front (c:UInt8):∀ (m l:List UInt8),c ∉ m→cutAt c (m++c :: l)=m :: cutAt c l
  | [],l,_=>by simp [cutAt]
  | x :: r,l,h=>by
    simp only [List.mem_cons,not_or] at h
    rw [List.cons_append]
    conv=>lhs;unfold cutAt
    rw [if_neg (fun e=>h.1 e.symm),cutAt_front c r l h.2]
def rowK (h:Hd):List (List UInt8):=(h.l.map (·.data.toList)).take (filledD h.l 10-2)
theorem rowH_take_eq (h:Hd):(rowH h).take (filledD h.l 10)=[h.d.a] :: [h.d.b,h.d.c,h.d.d,h.d.e] :: rowK h:=by
  have h2:=filledD_ge h.l 10
  obtain ⟨k,hk⟩:∃ k,filledD h.l 10=k+2:=⟨filledD h.l 10-2,by omega⟩
  unfold rowK rowH
  rw [hk]
  rfl
def segH (h:Hd):List UInt8:=makeD mshB h.d.a ((rowH h).take (filledD h.l 10))
theorem segH_eq (h:Hd):segH h=[77,83,72,h.d.a,h.d.b,h.d.c,h.d.d,h.d.e]++joinTail [h.d.a] (rowK h):=by
  unfold segH
  rw [rowH_take_eq,makeD_head]
  rfl
theorem writeH_good {h:Hd} (hg:h.d.good=true) (hs:h.l.all (standD h.d.a)=true):writeH h=(segH h,0):=by
  unfold writeH
  rw [if_pos hg,if_pos hs];rfl
end
section
open Go.RowKit
set_option maxHeartbeats 16000000 in
set_option maxRecDepth 100000 in
theorem write_ (h:Hd) (w:World) (hb:Lib.lens (h.l.map (·.data.toList))≤1000000) :
    Calls Tryz.prog 115 #[h.v] w fun e w'=>e=.returned (.tuple #[str (writeH h).1,.int .i64 (writeH h).2])∧Below w.heap.size w w':=by
  have HX0:=hid (BoxH.new h w)
  have HB0:=hid (boxHd_below h w)
  have HLB:=hid hb
  have HW:Hid (writeH h=if h.d.good=true then if h.l.all (standD h.d.a)=true then (makeD mshB h.d.a ((rowH h).take (filledD h.l 10)),0) else ([],10) else ([],11)):=hid rfl
  clear hb
  go_enter Tryz.func115,Tryz.ntmps115
  obtain ⟨c0,c1,c2,c3,c4,c5,c6,c7,c8,c9,c10,c11,c12,c13,c14⟩:=HX0.out.cells
  go_wp2_with (fail)
  generalize w.alloc (.cells #[u8 h.d.a,u8 h.d.b,u8 h.d.c,u8 h.d.d,u8 h.d.e,.string h.a0,.string h.a1,.string h.a2,.string h.a3,.string h.a4,.string h.a5,.string h.a6,.string h.a7,.string h.a8,.string h.a9] TH)=w0 at *
  refine (delimRight h.d w0).mono ?_
  rintro e w1 ⟨rfl,hb1⟩
  have HX1:=hid (HX0.out.below hb1)
  have HB1:=hid (HB0.out.trans (hb1.mono HB0.out.size))
  clear hb1 c0 c1 c2 c3 c4 c5 c6 c7 c8 c9 c10 c11 c12 c13 c14 HX0 HB0
  cases hg:h.d.good
  · have HE:Hid (writeH h=([],11)):=hid (by rw [HW.out,hg];rfl)
    go_wp2_with (fail)
    go_ret2
    exact ⟨by rw [HE.out];rfl,HB1.out⟩
  · have HE:Hid (writeH h=if h.l.all (standD h.d.a)=true then (makeD mshB h.d.a ((rowH h).take (filledD h.l 10)),0) else ([],10)):=hid (by rw [HW.out,hg];rfl)
    go_wp2_with (fail)
    have HBS:Hid (Bs (w1.alloc (.cells #[u8 h.d.a] 5)) (some ⟨w1.heap.size,0,none⟩) 1 1 [h.d.a]):=hid (Bs.lit w1 [h.d.a] 5 _ _ rfl rfl rfl (by simp [maxLen]))
    have HGW:Hid (w.heap.size<w1.heap.size):=hid (Array.getElem?_eq_some_iff.1 HX1.out).1
    go_cut [4] (fun x wx=>∃ g:Nat,x=.slice (some ⟨g,0,none⟩) 2 2∧OwnS wx w1.heap.size (.slice (some ⟨g,0,none⟩) 2 2) [[h.d.a],[h.d.b,h.d.c,h.d.d,h.d.e]]∧Below w1.heap.size w1 wx)
    case first =>
      as_aux_lemma =>
        have hcv:∀ W:World,(convert 40 9 (.slice (some ⟨W.heap.size,0,none⟩) 1 1)).run Tryz.prog (W.alloc (.cells #[u8 h.d.a] 5))=.ok (str [h.d.a]) (W.alloc (.cells #[u8 h.d.a] 5)):=fun W=>(Bs.lit W [h.d.a] 5 _ _ rfl rfl rfl (by simp [maxLen])).str (P:=Tryz.prog) 40 5 9 Tryz.underlying40 Tryz.underlying5 Tryz.underlying9
        have hcd:(convert 40 9 (.slice (some ⟨w1.heap.size,0,none⟩) 1 1)).run Tryz.prog (w1.alloc (.cells #[u8 h.d.a] 5)).drew=.ok (str [h.d.a]) (w1.alloc (.cells #[u8 h.d.a] 5)).drew:=(HBS.out.drew).str (P:=Tryz.prog) 40 5 9 Tryz.underlying40 Tryz.underlying5 Tryz.underlying9
        have HCW:Hid (∀ wA:World,Below (w1.alloc (.cells #[u8 h.d.a] 5)).heap.size (w1.alloc (.cells #[u8 h.d.a] 5)).drew wA→(convert 40 9 (.slice (some ⟨w1.heap.size,0,none⟩) 1 1)).run Tryz.prog wA=.ok (str [h.d.a]) wA):=hid (fun wA hA=>(HBS.out.drew.below hA).str (P:=Tryz.prog) 40 5 9 Tryz.underlying40 Tryz.underlying5 Tryz.underlying9)
        have q0:∀ o1:Obj,(w1.alloc o1).cell? ⟨w.heap.size,0,none⟩=some (u8 h.d.a):=fun o1=>cell_of_row _ w.heap.size 0 _ _ _ (HX1.out.below ((Below.refl _ _).alloc (Nat.le_refl _) o1))
        have q1:∀ o1:Obj,(w1.alloc o1).cell? ⟨w.heap.size,1,none⟩=some (u8 h.d.b):=fun o1=>cell_of_row _ w.heap.size 1 _ _ _ (HX1.out.below ((Below.refl _ _).alloc (Nat.le_refl _) o1))
        have q2:∀ o1:Obj,(w1.alloc o1).cell? ⟨w.heap.size,2,none⟩=some (u8 h.d.c):=fun o1=>cell_of_row _ w.heap.size 2 _ _ _ (HX1.out.below ((Below.refl _ _).alloc (Nat.le_refl _) o1))
        have q3:∀ o1:Obj,(w1.alloc o1).cell? ⟨w.heap.size,3,none⟩=some (u8 h.d.d):=fun o1=>cell_of_row _ w.heap.size 3 _ _ _ (HX1.out.below ((Below.refl _ _).alloc (Nat.le_refl _) o1))
        have q4:∀ o1:Obj,(w1.alloc o1).cell? ⟨w.heap.size,4,none⟩=some (u8 h.d.e):=fun o1=>cell_of_row _ w.heap.size 4 _ _ _ (HX1.out.below ((Below.refl _ _).alloc (Nat.le_refl _) o1))
        obtain ⟨r0,r1,r2,r3,r4,_⟩:=HX1.out.cells
        go_region_with ((go_at_call 103;go_loud ((refine (otherSigns_ h.d _).mono ?_;rintro e wA ⟨rfl,hbA⟩;have HBA:Hid (Below w1.heap.size w1 wA):=hid (by first | exact ((Below.refl _ w1).alloc (Nat.le_refl _) _).drew.trans (hbA.mono (by simp)) | exact (Below.refl _ w1).drew.trans hbA | exact hbA);have HXA:=hid (HX1.out.below HBA.out);(first | (have hcA:=HCW.out wA hbA) | skip);obtain ⟨z0,_,_,_,_,_⟩:=HXA.out.cells;clear hbA))))
        all_goals
          go_wp2_with (fail)
          go_meet
          first
          | exact ⟨wA.heap.size,rfl,OwnS.twoH wA _ _ _ HBA.out.size,HBA.out.alloc HBA.out.size _⟩
          | exact ⟨wA.heap.size+1,rfl,by have t:=OwnS.twoH (wA.alloc (.cells #[u8 h.d.a] 5)) [h.d.a] [h.d.b,h.d.c,h.d.d,h.d.e] w1.heap.size (Nat.le_trans HBA.out.size (by simp));simp only [World.size_alloc] at t;exact t,(HBA.out.alloc HBA.out.size _).alloc (Nat.le_trans HBA.out.size (by simp)) _⟩
    case rest =>
      as_aux_lemma =>
        obtain ⟨g,rfl,ho,hbc⟩:=hcut
        have HO0:Hid (OwnS wc w1.heap.size (.slice (some ⟨g,0,none⟩) 2 2) ((rowH h).take 2)):=hid ho
        have HBC:=hid hbc
        clear ho hbc HBS
        go_wp2_with (fail)
        have HBW:Hid (Below w.heap.size w w1):=HB1
        refine (rows_ wc).mono ?_
        rintro e w7 ⟨rfl,hb7⟩
        have HYL:Hid (∀ y ∈ h.l,y.size≤1000000):=hid (fun y hy=>by
          have h1:=HLB.out
          have h2:=mem_lens (List.mem_map.2 ⟨y,hy,rfl⟩:y.data.toList ∈ h.l.map (·.data.toList))
          simp at h2
          omega)
        have HO7:=hid (HO0.out.below hb7)
        have HB7:=hid (HBC.out.trans (hb7.mono HBC.out.size))
        clear hb7 HO0 HBC
        go_wp2_with (fail)
        go_loopw [25,4,5,7,8] (fun i v f _ _ wr=>∃ k:Nat,k≤10∧i=.int .i64 k∧OwnS wr w1.heap.size v ((rowH h).take (k+2))∧f=.int .i64 ((filledD h.l k:Nat):Int)∧(h.l.take k).all (standD h.d.a)=true∧Below w1.heap.size w1 wr) (fun i _ _ _ _ _=>10-(intOf i).toNat)
        case atStart=>exact ⟨0,by omega,rfl,HO7.out,rfl,rfl,HB7.out⟩
        case round =>
          clear HO7 HB7
          obtain ⟨wo,rfl⟩:∃ wo:World,wo=wr:=⟨_,rfl⟩
          obtain ⟨k,hk,rfl,ho,rfl,hst,hb⟩:=hrel
          have HO:=hid ho
          have HST:=hid hst
          have HB:=hid hb
          clear ho hst hb
          obtain ⟨A4,cc4,rfl,_,_⟩:=HO.out.ss
          obtain ⟨L,hL⟩:∃ L,L=((rowH h).take (k+2)).length:=⟨_,rfl⟩
          have HLL:Hid (L=k+2):=hid (by rw [hL,List.length_take,show (rowH h).length=12 from rfl];omega)
          rw [← hL] at HO ⊢
          clear hL
          by_cases hlt:k<10
          · obtain ⟨F,i0,hkk,hrw⟩:=rowsAt k hlt
            have HRW:=hid hrw
            have HKL:=hid hlt
            have HB1:Hid (Below w1.heap.size w1 (wo.alloc (.cells #[.func (.func F) #[] #[]] 169))):=hid (HB.out.alloc HB.out.size _)
            have HO1:Hid (OwnS (wo.alloc (.cells #[.func (.func F) #[] #[]] 169)) w1.heap.size (.slice A4 L cc4) ((rowH h).take (k+2))):=hid (HO.out.below ((Below.refl _ _).alloc (Nat.le_refl _) _))
            obtain ⟨c0,c1,c2,c3,c4,cx⟩:=(HX1.out.below HB1.out).cells
            have cy:=(HX1.out.below HB1.out).text k hlt
            have HYM:Hid ((h.l.getD k ⟨#[]⟩) ∈ h.l):=hid (h.text_mem k hlt)
            have HRT:Hid ((rowH h).take (k+2)++[(h.l.getD k ⟨#[]⟩).data.toList]=(rowH h).take (k+1+2)):=hid (rowH_take h k hlt)
            have HTA:Hid (standD h.d.a (h.l.getD k ⟨#[]⟩)=true→(h.l.take (k+1)).all (standD h.d.a)=true):=hid (h.take_all _ k hlt HST.out)
            have HFS:Hid (filledD h.l (k+1)=if (h.l.getD k ⟨#[]⟩).toList.isEmpty then filledD h.l k else k+3):=hid (filledD_step h k)
            obtain ⟨y,hy⟩:∃ y,y=h.l.getD k ⟨#[]⟩:=⟨_,rfl⟩
            rw [← hy] at cy HYM HRT HTA HFS
            obtain ⟨f,hf⟩:∃ f,f=filledD h.l k:=⟨_,rfl⟩
            rw [← hf] at HFS ⊢
            clear hrw hk cx hy hf
            have hk0:(k:Int)<10:=by omega
            go_wp2_with (fail)
            refine (HRW.out w.heap.size _).mono ?_
            rintro e wc2 ⟨rfl,rfl⟩
            have hYS:Hid (y.size≤1000000):=hid (HYL.out _ HYM.out)
            go_wp2_with (fail)
            refine (mayStand_ y h.d _).mono ?_
            rintro e wd ⟨rfl,hbd⟩
            have HB2:=hid (HB1.out.trans (hbd.mono HB1.out.size))
            have HO2:=hid (HO1.out.below hbd)
            clear hbd c0 c1 c2 c3 c4 cy HB1 HO1
            cases hs:standD h.d.a y
            · have HEF:Hid (writeH h=([],10)):=hid (by
                rw [HE.out,if_neg]
                intro e
                have t:=List.all_eq_true.1 e y HYM.out
                rw [hs] at t
                cases t)
              go_wp2_with (fail)
              go_ret2
              exact ⟨by rw [HEF.out];rfl,HBW.out.trans (HB2.out.mono HBW.out.size)⟩
            · have HST2:Hid ((h.l.take (k+1)).all (standD h.d.a)=true):=hid (HTA.out hs)
              have HLB2:Hid (((rowH h).take (k+2)).length≤12):=hid (by rw [List.length_take];have:=rowH_len h;omega)
              clear hs
              cases de:y.toList.isEmpty
              · have tok1:Hid True:=hid trivial
                have HF2:Hid (filledD h.l (k+1)=k+3):=hid (by rw [HFS.out,de];rfl)
                go_wp2_with (at_builtin;have _t:=tok1;go_loud ((refine wpList_str rfl (.tmp 38) (.tmp 40) rfl w1.heap.size _ ((rowH h).take (k+2)) rfl (HO2.out.below ((Below.refl _ wd).alloc (Nat.le_refl _) _)) wd.heap.size y.data.toList rfl (heap_alloc_new wd _) (by have:=HLB2.out;omega) (by have:=HB2.out.size;simp;omega) ?_;intro v' w' hown hbel hgr;rw [HRT.out] at hown;obtain ⟨A5,c5,rfl,_,_⟩:=hown.ss;obtain ⟨L5,hL5⟩:∃ L5,L5=((rowH h).take (k+1+2)).length:=⟨_,rfl⟩;have HL5:Hid (L5=k+3):=hid (by rw [hL5,List.length_take,rowH_len];have:=HKL.out;omega);rw [← hL5] at hown ⊢;have HOWN:Hid (OwnS w' w1.heap.size (.slice A5 L5 c5) ((rowH h).take (k+1+2))):=hid hown;have HB3:Hid (Below w1.heap.size w1 w'):=hid ((HB2.out.alloc HB2.out.size _).trans hbel);clear tok1 hown hbel hgr hL5 _t)))
                exact ⟨⟨k+1,by have:=HKL.out;omega,by go_num,HOWN.out,by rw [HF2.out,HL5.out],HST2.out,HB3.out⟩,by have:=HKL.out;simp [intOf];omega⟩
              · have tok1:Hid True:=hid trivial
                have HF2:Hid (filledD h.l (k+1)=f):=hid (by rw [HFS.out,de];rfl)
                go_wp2_with (at_builtin;have _t:=tok1;go_loud ((refine wpList_str rfl (.tmp 38) (.tmp 40) rfl w1.heap.size _ ((rowH h).take (k+2)) rfl (HO2.out.below ((Below.refl _ wd).alloc (Nat.le_refl _) _)) wd.heap.size y.data.toList rfl (heap_alloc_new wd _) (by have:=HLB2.out;omega) (by have:=HB2.out.size;simp;omega) ?_;intro v' w' hown hbel hgr;rw [HRT.out] at hown;obtain ⟨A5,c5,rfl,_,_⟩:=hown.ss;obtain ⟨L5,hL5⟩:∃ L5,L5=((rowH h).take (k+1+2)).length:=⟨_,rfl⟩;have HL5:Hid (L5=k+3):=hid (by rw [hL5,List.length_take,rowH_len];have:=HKL.out;omega);rw [← hL5] at hown ⊢;have HOWN:Hid (OwnS w' w1.heap.size (.slice A5 L5 c5) ((rowH h).take (k+1+2))):=hid hown;have HB3:Hid (Below w1.heap.size w1 w'):=hid ((HB2.out.alloc HB2.out.size _).trans hbel);clear tok1 hown hbel hgr hL5 _t)))
                exact ⟨⟨k+1,by have:=HKL.out;omega,by go_num,HOWN.out,by rw [HF2.out],HST2.out,HB3.out⟩,by have:=HKL.out;simp [intOf];omega⟩
          · obtain rfl:k=10:=by omega
            have HE2:Hid (writeH h=(makeD mshB h.d.a ((rowH h).take (filledD h.l 10)),0)):=hid (by rw [HE.out,if_pos (show h.l.all (standD h.d.a)=true from HST.out)])
            have HFB:Hid (filledD h.l 10≤12):=hid (filledD_le h.l 10)
            have hR12:(rowH h).length=12:=rfl
            have hB2:Lib.lens (rowH h)=1+(4+Lib.lens (h.l.map (·.data.toList))):=by simp [rowH,Lib.lens]
            rw [List.take_of_length_le (by rw [hR12];omega)] at HO
            obtain ⟨RH,hRH⟩:∃ RH,RH=rowH h:=⟨_,rfl⟩
            rw [← hRH] at HO HE2 hR12 hB2
            clear hRH
            obtain ⟨g4,c4',e4,_,_,hcap,hcm⟩:=HO.out.form (by rw [hR12];omega)
            rw [e4] at HO ⊢
            rw [hR12] at HO hcap ⊢
            have HSS:Hid (Ss wo (some ⟨g4,0,none⟩) (filledD h.l 10) c4' (RH.take (filledD h.l 10))):=hid (Ss.take (n:=12) (by have t:=HO.out;rw [← hR12] at t;have t2:=OwnS.ss' t;rw [hR12] at t2;exact t2) HFB.out)
            have HBK:Hid (Lib.lens (RH.take (filledD h.l 10))+(RH.take (filledD h.l 10)).length≤1048576):=hid (by
              have h1:=Lib.lens_take_le RH (filledD h.l 10)
              have h2:=hB2
              have h3:(RH.take (filledD h.l 10)).length≤12:=by rw [List.length_take,hR12];omega
              have h4:=HLB.out
              omega)
            obtain ⟨F,hF⟩:∃ F,F=filledD h.l 10:=⟨_,rfl⟩
            rw [← hF] at HE2 HFB HSS HBK ⊢
            obtain ⟨U,hU⟩:∃ U,U=RH.take F:=⟨_,rfl⟩
            rw [← hU] at HE2 HSS HBK
            have HCAP:Hid (12≤c4'):=hid hcap
            have HMS:Hid (mshB.size≤1048576):=hid (by decide)
            have hf1:(F:Int)≤(c4':Int):=by have:=HFB.out;have:=HCAP.out;omega
            have hf2:(0:Int)≤(F:Int):=by omega
            have hf3:F≤c4':=by omega
            have HX2:=hid (HX1.out.below HB.out)
            have HB0:=hid (HBW.out.trans (HB.out.mono HBW.out.size))
            clear HX1 HB1 HBW HB HYL HLB HST HE HW HLL hlt hk hF hU hcap HO hR12 hB2 e4 hcm
            obtain ⟨r0,r1,r2,r3,r4,rx⟩:=HX2.out.cells
            clear rx
            go_wp2_with (fail)
            go_region_held3 (fun w'=>w'.cell? ⟨w.heap.size,0,none⟩=some (.int .u8 (h.d.a.toNat:Int))∧w'.cell? ⟨w.heap.size,1,none⟩=some (.int .u8 (h.d.b.toNat:Int))∧w'.cell? ⟨w.heap.size,2,none⟩=some (.int .u8 (h.d.c.toNat:Int))∧w'.cell? ⟨w.heap.size,3,none⟩=some (.int .u8 (h.d.d.toNat:Int))∧w'.cell? ⟨w.heap.size,4,none⟩=some (.int .u8 (h.d.e.toNat:Int))) (go_keep) ((go_at_call 118;go_loud ((refine (segMake h.d mshB (some ⟨g4,0,none⟩) F c4' U _ (by first | exact HSS.out | exact HSS.out.below (Below.refl _ _).drew) HMS.out HBK.out).mono ?_;rintro e wM ⟨rfl,hbM⟩;have HBM:Hid (Below w.heap.size w wM):=hid (by first | exact HB0.out.trans (hbM.mono HB0.out.size) | exact HB0.out.trans (((Below.refl _ _).drew.trans hbM).mono HB0.out.size));obtain ⟨z0,z1,z2,z3,z4,zx⟩:=(HX2.out.keep (by first | exact hbM | exact (Below.refl _ _).drew.trans hbM) (Array.getElem?_eq_some_iff.1 HX2.out).1).cells;clear hbM zx))))
            all_goals
              go_wp2_with (fail)
              go_ret2
              exact ⟨by rw [HE2.out];rfl,HBM.out⟩
end
/- Layer 9: a head against itself. -/
section
open Go.RowKit
end
/- Layer 9: how great a head is. -/
section
open Go.RowKit
def Hd.sum (h:Hd):Nat:=h.a0.size+h.a1.size+h.a2.size+h.a3.size+h.a4.size+h.a5.size+h.a6.size+h.a7.size+h.a8.size+h.a9.size
theorem Hd.sum_eq (h:Hd):h.sum=Lib.lens (h.l.map (·.data.toList)):=by
  have k:∀ b:ByteArray,b.data.toList.length=b.size:=fun b=>by simp
  simp only [Hd.sum,Hd.l,Lib.lens,List.map_cons,List.map_nil,List.sum_cons,List.sum_nil,k]
  omega
end
/- Layer 9: how a head is written. -/
section
open Go.RowKit
theorem writeH_cases (h:Hd):(writeH h=([],11))∨(writeH h=([],10))∨(writeH h=(segH h,0)∧h.d.good=true∧h.l.all (standD h.d.a)=true):=by
  by_cases hg:h.d.good=true
  · by_cases hs:h.l.all (standD h.d.a)=true
    · exact .inr (.inr ⟨writeH_good hg hs,hg,hs⟩)
    · exact .inr (.inl (by unfold writeH;rw [if_pos hg,if_neg hs]))
  · exact .inl (by unfold writeH;rw [if_neg hg])
theorem lens_joinTail (c:UInt8) (T:List (List UInt8)):(Lib.joinTail [c] T).length=Lib.lens T+T.length:=by
  induction T with
  | nil=>rfl
  | cons a r ih =>
    simp only [Lib.joinTail,Lib.lens] at ih ⊢
    simp only [List.map_cons,List.flatten_cons,List.length_append,List.length_cons,List.length_nil,List.sum_cons] at ih ⊢
    omega
theorem segH_len (h:Hd):(segH h).length≤h.sum+18:=by
  rw [segH_eq,List.length_append,lens_joinTail,h.sum_eq]
  have h1:=Lib.lens_take_le (h.l.map (·.data.toList)) (filledD h.l 10-2)
  have h2:(rowK h).length≤10:=by
    unfold rowK
    rw [List.length_take]
    have:(h.l.map (·.data.toList)).length=10:=rfl
    omega
  unfold rowK at h2 ⊢
  simp only [List.length_cons,List.length_nil]
  omega
end
end Go.Proofs.YtodjilljcjkacaaGreatDoor
