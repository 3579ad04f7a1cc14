/- Laid together: Msh4. -/
import Derived.Test.YtodjilljcjkacaaGreatDoorPkIB25

namespace Go.Proofs.YtodjilljcjkacaaGreatDoor
open Lib (hid)
section
open Go.RowKit
def sel (T:Nat→ByteArray) (k i:Nat):ByteArray:=if i<k then T i else ⟨#[]⟩
def hdTo (d:Sgn) (T:Nat→ByteArray) (k:Nat):Hd:=⟨d,sel T k 0,sel T k 1,sel T k 2,sel T k 3,sel T k 4,sel T k 5,sel T k 6,sel T k 7,sel T k 8,sel T k 9⟩
def textsD (F:List (List UInt8)) (i:Nat):ByteArray:=txt (F.getD (2+i) [])
def readH (l:List UInt8):Hd × Int :=
  if (readD l).2=0 then
    if (fieldsD (txt ((splitD l).getD 0 [])) (readD l).1.a).getD 1 []=[(readD l).1.b,(readD l).1.c,(readD l).1.d,(readD l).1.e] then (hdTo (readD l).1 (textsD (fieldsD (txt ((splitD l).getD 0 [])) (readD l).1.a)) 10,0)
    else (Hd.zero,11)
  else (Hd.zero,(readD l).2)
theorem readD_long {l:List UInt8} (h:(readD l).2=0):9≤l.length:=by
  unfold readD at h
  rcases Nat.lt_or_ge l.length 9 with h1|h1
  · rw [if_pos h1] at h;cases h
  · exact h1
theorem splitD_pos {l:List UInt8} (h:0<l.length):0<(splitD l).length:=by
  unfold splitD
  have hc:=cutAt_length 13 l
  split
  · rename_i h1
    rw [List.length_dropLast]
    rcases Nat.lt_or_ge 1 (cutAt 13 l).length with h2|h2
    · omega
    · exfalso
      obtain ⟨x,hx⟩:∃ x,cutAt 13 l=[x]:=List.length_eq_one_iff.1 (by omega)
      rw [hx] at h1
      have hj:=cutAt_join 13 l
      rw [hx] at hj
      simp at h1
      subst h1
      simp [Lib.join_one] at hj
      subst hj
      simp at h
  · omega
theorem splitD_le {l:List UInt8} {k:Nat}:((splitD l).getD k []).length≤l.length:=by
  have h:=cutAt_part_le 13 l l.length (Nat.le_refl _) k
  unfold splitD
  split
  · rw [List.getD_eq_getElem?_getD,List.getElem?_dropLast]
    split
    · rw [List.getD_eq_getElem?_getD] at h;exact h
    · simp
  · exact h
def setHd (W:World) (G:Nat) (h:Hd):World:=(((((((((((((((W.setCell ⟨G,0,none⟩ (u8 h.d.a)).setCell ⟨G,1,none⟩ (u8 h.d.b)).setCell ⟨G,2,none⟩ (u8 h.d.c)).setCell ⟨G,3,none⟩ (u8 h.d.d)).setCell ⟨G,4,none⟩ (u8 h.d.e)).setCell ⟨G,5,none⟩ (.string h.a0)).setCell ⟨G,6,none⟩ (.string h.a1)).setCell ⟨G,7,none⟩ (.string h.a2)).setCell ⟨G,8,none⟩ (.string h.a3)).setCell ⟨G,9,none⟩ (.string h.a4)).setCell ⟨G,10,none⟩ (.string h.a5)).setCell ⟨G,11,none⟩ (.string h.a6)).setCell ⟨G,12,none⟩ (.string h.a7)).setCell ⟨G,13,none⟩ (.string h.a8)).setCell ⟨G,14,none⟩ (.string h.a9))
theorem setHd_row {W:World} {G:Nat} {h0:Hd} (k:BoxH h0 G W) (h:Hd):BoxH h G (setHd W G h):=by
  unfold BoxH at k ⊢
  have k0:=heap_set_rowH (j:=0) k (u8 h.d.a)
  have k1:=heap_set_rowH (j:=1) k0 (u8 h.d.b)
  have k2:=heap_set_rowH (j:=2) k1 (u8 h.d.c)
  have k3:=heap_set_rowH (j:=3) k2 (u8 h.d.d)
  have k4:=heap_set_rowH (j:=4) k3 (u8 h.d.e)
  have k5:=heap_set_rowH (j:=5) k4 (.string h.a0)
  have k6:=heap_set_rowH (j:=6) k5 (.string h.a1)
  have k7:=heap_set_rowH (j:=7) k6 (.string h.a2)
  have k8:=heap_set_rowH (j:=8) k7 (.string h.a3)
  have k9:=heap_set_rowH (j:=9) k8 (.string h.a4)
  have k10:=heap_set_rowH (j:=10) k9 (.string h.a5)
  have k11:=heap_set_rowH (j:=11) k10 (.string h.a6)
  have k12:=heap_set_rowH (j:=12) k11 (.string h.a7)
  have k13:=heap_set_rowH (j:=13) k12 (.string h.a8)
  have k14:=heap_set_rowH (j:=14) k13 (.string h.a9)
  have e:(((((((((((((((Hd.cells h0).setIfInBounds 0 (u8 h.d.a)).setIfInBounds 1 (u8 h.d.b)).setIfInBounds 2 (u8 h.d.c)).setIfInBounds 3 (u8 h.d.d)).setIfInBounds 4 (u8 h.d.e)).setIfInBounds 5 (.string h.a0)).setIfInBounds 6 (.string h.a1)).setIfInBounds 7 (.string h.a2)).setIfInBounds 8 (.string h.a3)).setIfInBounds 9 (.string h.a4)).setIfInBounds 10 (.string h.a5)).setIfInBounds 11 (.string h.a6)).setIfInBounds 12 (.string h.a7)).setIfInBounds 13 (.string h.a8)).setIfInBounds 14 (.string h.a9)=h.cells:=by kernel_rfl
  rw [e] at k14
  exact k14
theorem setHd_below {B:Nat} {w W:World} {G:Nat} (k:Below B w W) (hG:B≤G) (h:Hd):Below B w (setHd W G h) :=
  (((((((((((((((k.setCell (p:=⟨G,0,none⟩) hG _).setCell (p:=⟨G,1,none⟩) hG _).setCell (p:=⟨G,2,none⟩) hG _).setCell (p:=⟨G,3,none⟩) hG _).setCell (p:=⟨G,4,none⟩) hG _).setCell (p:=⟨G,5,none⟩) hG _).setCell (p:=⟨G,6,none⟩) hG _).setCell (p:=⟨G,7,none⟩) hG _).setCell (p:=⟨G,8,none⟩) hG _).setCell (p:=⟨G,9,none⟩) hG _).setCell (p:=⟨G,10,none⟩) hG _).setCell (p:=⟨G,11,none⟩) hG _).setCell (p:=⟨G,12,none⟩) hG _).setCell (p:=⟨G,13,none⟩) hG _).setCell (p:=⟨G,14,none⟩) hG _)
theorem BoxH.frz {h:Hd} {g:Nat} {w:World} (k:BoxH h g w):w.frozen? ⟨g,0,none⟩=false∧w.frozen? ⟨g,1,none⟩=false∧w.frozen? ⟨g,2,none⟩=false∧w.frozen? ⟨g,3,none⟩=false∧w.frozen? ⟨g,4,none⟩=false∧w.frozen? ⟨g,5,none⟩=false∧w.frozen? ⟨g,6,none⟩=false∧w.frozen? ⟨g,7,none⟩=false∧w.frozen? ⟨g,8,none⟩=false∧w.frozen? ⟨g,9,none⟩=false∧w.frozen? ⟨g,10,none⟩=false∧w.frozen? ⟨g,11,none⟩=false∧w.frozen? ⟨g,12,none⟩=false∧w.frozen? ⟨g,13,none⟩=false∧w.frozen? ⟨g,14,none⟩=false :=
  ⟨k.frozen 0,k.frozen 1,k.frozen 2,k.frozen 3,k.frozen 4,k.frozen 5,k.frozen 6,k.frozen 7,k.frozen 8,k.frozen 9,k.frozen 10,k.frozen 11,k.frozen 12,k.frozen 13,k.frozen 14⟩
theorem hdTo_step0 {d:Sgn} {T:Nat→ByteArray} {G:Nat} {W:World} (k:BoxH (hdTo d T 0) G W):BoxH (hdTo d T 1) G (W.setCell ⟨G,5,none⟩ (.string (T 0))):=by
  have h:=heap_set_rowH (j:=5) k (.string (T 0))
  have e:(Hd.cells (hdTo d T 0)).setIfInBounds 5 (.string (T 0))=(hdTo d T 1).cells:=by kernel_rfl
  rw [e] at h
  exact h
theorem hdTo_step1 {d:Sgn} {T:Nat→ByteArray} {G:Nat} {W:World} (k:BoxH (hdTo d T 1) G W):BoxH (hdTo d T 2) G (W.setCell ⟨G,6,none⟩ (.string (T 1))):=by
  have h:=heap_set_rowH (j:=6) k (.string (T 1))
  have e:(Hd.cells (hdTo d T 1)).setIfInBounds 6 (.string (T 1))=(hdTo d T 2).cells:=by kernel_rfl
  rw [e] at h
  exact h
theorem hdTo_step2 {d:Sgn} {T:Nat→ByteArray} {G:Nat} {W:World} (k:BoxH (hdTo d T 2) G W):BoxH (hdTo d T 3) G (W.setCell ⟨G,7,none⟩ (.string (T 2))):=by
  have h:=heap_set_rowH (j:=7) k (.string (T 2))
  have e:(Hd.cells (hdTo d T 2)).setIfInBounds 7 (.string (T 2))=(hdTo d T 3).cells:=by kernel_rfl
  rw [e] at h
  exact h
theorem hdTo_step3 {d:Sgn} {T:Nat→ByteArray} {G:Nat} {W:World} (k:BoxH (hdTo d T 3) G W):BoxH (hdTo d T 4) G (W.setCell ⟨G,8,none⟩ (.string (T 3))):=by
  have h:=heap_set_rowH (j:=8) k (.string (T 3))
  have e:(Hd.cells (hdTo d T 3)).setIfInBounds 8 (.string (T 3))=(hdTo d T 4).cells:=by kernel_rfl
  rw [e] at h
  exact h
theorem hdTo_step4 {d:Sgn} {T:Nat→ByteArray} {G:Nat} {W:World} (k:BoxH (hdTo d T 4) G W):BoxH (hdTo d T 5) G (W.setCell ⟨G,9,none⟩ (.string (T 4))):=by
  have h:=heap_set_rowH (j:=9) k (.string (T 4))
  have e:(Hd.cells (hdTo d T 4)).setIfInBounds 9 (.string (T 4))=(hdTo d T 5).cells:=by kernel_rfl
  rw [e] at h
  exact h
theorem hdTo_step5 {d:Sgn} {T:Nat→ByteArray} {G:Nat} {W:World} (k:BoxH (hdTo d T 5) G W):BoxH (hdTo d T 6) G (W.setCell ⟨G,10,none⟩ (.string (T 5))):=by
  have h:=heap_set_rowH (j:=10) k (.string (T 5))
  have e:(Hd.cells (hdTo d T 5)).setIfInBounds 10 (.string (T 5))=(hdTo d T 6).cells:=by kernel_rfl
  rw [e] at h
  exact h
theorem hdTo_step6 {d:Sgn} {T:Nat→ByteArray} {G:Nat} {W:World} (k:BoxH (hdTo d T 6) G W):BoxH (hdTo d T 7) G (W.setCell ⟨G,11,none⟩ (.string (T 6))):=by
  have h:=heap_set_rowH (j:=11) k (.string (T 6))
  have e:(Hd.cells (hdTo d T 6)).setIfInBounds 11 (.string (T 6))=(hdTo d T 7).cells:=by kernel_rfl
  rw [e] at h
  exact h
theorem hdTo_step7 {d:Sgn} {T:Nat→ByteArray} {G:Nat} {W:World} (k:BoxH (hdTo d T 7) G W):BoxH (hdTo d T 8) G (W.setCell ⟨G,12,none⟩ (.string (T 7))):=by
  have h:=heap_set_rowH (j:=12) k (.string (T 7))
  have e:(Hd.cells (hdTo d T 7)).setIfInBounds 12 (.string (T 7))=(hdTo d T 8).cells:=by kernel_rfl
  rw [e] at h
  exact h
theorem hdTo_step8 {d:Sgn} {T:Nat→ByteArray} {G:Nat} {W:World} (k:BoxH (hdTo d T 8) G W):BoxH (hdTo d T 9) G (W.setCell ⟨G,13,none⟩ (.string (T 8))):=by
  have h:=heap_set_rowH (j:=13) k (.string (T 8))
  have e:(Hd.cells (hdTo d T 8)).setIfInBounds 13 (.string (T 8))=(hdTo d T 9).cells:=by kernel_rfl
  rw [e] at h
  exact h
theorem hdTo_step9 {d:Sgn} {T:Nat→ByteArray} {G:Nat} {W:World} (k:BoxH (hdTo d T 9) G W):BoxH (hdTo d T 10) G (W.setCell ⟨G,14,none⟩ (.string (T 9))):=by
  have h:=heap_set_rowH (j:=14) k (.string (T 9))
  have e:(Hd.cells (hdTo d T 9)).setIfInBounds 14 (.string (T 9))=(hdTo d T 10).cells:=by kernel_rfl
  rw [e] at h
  exact h
theorem BoxH.other {h:Hd} {g t:Nat} {w:World} (k:BoxH h g w) (hne:g≠t) (j:Nat) (v:Value):BoxH h g (w.setCell ⟨t,j,none⟩ v):=(Below.heap_setCell w ⟨t,j,none⟩ v g hne).trans k
theorem BoxS.other {d:Sgn} {g t:Nat} {w:World} (k:BoxS d g w) (hne:g≠t) (j:Nat) (v:Value):BoxS d g (w.setCell ⟨t,j,none⟩ v):=(Below.heap_setCell w ⟨t,j,none⟩ v g hne).trans k
theorem nthD_getD (F:List (List UInt8)) (i:Nat):(nthD F ((i:Int)+1)).getD []=F.getD i []:=by
  unfold nthD
  rw [if_pos (by omega),show ((i:Int)+1-1).toNat=i by omega,List.getD_eq_getElem?_getD]
set_option maxHeartbeats 16000000 in
set_option maxRecDepth 100000 in
theorem read_ (A:Option Addr) (n c:Nat) (l:List UInt8) (w:World) (hB:Bs w A n c l) (hn:n≤1000000) :
    Calls Tryz.prog 70 #[.slice A n c] w fun e w'=>e=.returned (.tuple #[(readH l).1.v,.int .i64 (readH l).2])∧Below w.heap.size w w':=by
  have HL:=hid hB.len
  have HN:=hid hn
  have HR0:Hid (BoxH Hd.zero w.heap.size (w.alloc (.cells Hd.zero.cells TH))):=hid (BoxH.new _ w)
  have HB0:Hid (Below w.heap.size w (w.alloc (.cells Hd.zero.cells TH))):=hid (boxHd_below _ w)
  have HBS:=hid (hB.below (boxHd_below Hd.zero w))
  clear hB hn
  go_enter Tryz.func70,Tryz.ntmps70
  go_wp2_with (fail)
  generalize hw0:w.alloc (.cells #[.int .u8 0,.int .u8 0,.int .u8 0,.int .u8 0,.int .u8 0,.string ⟨#[]⟩,.string ⟨#[]⟩,.string ⟨#[]⟩,.string ⟨#[]⟩,.string ⟨#[]⟩,.string ⟨#[]⟩,.string ⟨#[]⟩,.string ⟨#[]⟩,.string ⟨#[]⟩,.string ⟨#[]⟩] TH)=w0
  rw [show w.alloc (.cells Hd.zero.cells TH)=w0 from hw0] at HR0 HB0 HBS
  clear hw0
  refine (delimRead A n c l w0 HBS.out).mono ?_
  rintro e w1 ⟨rfl,hb1⟩
  have HR1:=hid (HR0.out.below hb1)
  have HB1:=hid (HB0.out.trans (hb1.mono HB0.out.size))
  have HBS1:=hid (HBS.out.below hb1)
  clear hb1
  by_cases he:(readD l).2=0
  · have HE0:Hid (readH l=if (fieldsD (txt ((splitD l).getD 0 [])) (readD l).1.a).getD 1 []=[(readD l).1.b,(readD l).1.c,(readD l).1.d,(readD l).1.e] then (hdTo (readD l).1 (textsD (fieldsD (txt ((splitD l).getD 0 [])) (readD l).1.a)) 10,0) else (Hd.zero,11)):=hid (if_pos he)
    have HSP:Hid (0<(splitD l).length):=hid (splitD_pos (by have:=readD_long he;omega))
    have HXL:Hid (((splitD l).getD 0 []).length≤n):=hid (by rw [← HL.out];exact splitD_le)
    rw [he]
    obtain ⟨d,hd⟩:∃ d,d=(readD l).1:=⟨_,rfl⟩
    rw [← hd] at HE0 ⊢
    have HR2:Hid (BoxH Hd.zero w.heap.size (w1.alloc (.cells #[.int .u8 (d.a.toNat:Int),.int .u8 (d.b.toNat:Int),.int .u8 (d.c.toNat:Int),.int .u8 (d.d.toNat:Int),.int .u8 (d.e.toNat:Int)] 109))):=hid (HR1.out.below ((Below.refl _ _).alloc (Nat.le_refl _) _))
    have HB2:Hid (Below w.heap.size w (w1.alloc (.cells #[.int .u8 (d.a.toNat:Int),.int .u8 (d.b.toNat:Int),.int .u8 (d.c.toNat:Int),.int .u8 (d.d.toNat:Int),.int .u8 (d.e.toNat:Int)] 109))):=hid (HB1.out.alloc HB1.out.size _)
    have HD2:Hid (BoxS d w1.heap.size (w1.alloc (.cells #[.int .u8 (d.a.toNat:Int),.int .u8 (d.b.toNat:Int),.int .u8 (d.c.toNat:Int),.int .u8 (d.d.toNat:Int),.int .u8 (d.e.toNat:Int)] 109))):=hid (heap_alloc_new w1 _)
    have HBS2:Hid (Bs (w1.alloc (.cells #[.int .u8 (d.a.toNat:Int),.int .u8 (d.b.toNat:Int),.int .u8 (d.c.toNat:Int),.int .u8 (d.d.toNat:Int),.int .u8 (d.e.toNat:Int)] 109)) A n c l):=hid (HBS1.out.alloc _)
    have HDN:Hid (w.heap.size<w1.heap.size):=hid (Array.getElem?_eq_some_iff.1 HR1.out).1
    clear he hd
    go_wp2_with (fail)
    generalize w1.alloc (.cells #[.int .u8 (d.a.toNat:Int),.int .u8 (d.b.toNat:Int),.int .u8 (d.c.toNat:Int),.int .u8 (d.d.toNat:Int),.int .u8 (d.e.toNat:Int)] 109)=w2 at *
    generalize w1.heap.size=D at *
    refine (split_ A n c l w2 HBS2.out HN.out).mono ?_
    rintro e w3 ⟨A2,c2,rfl,hS,hb3⟩
    have HR3:=hid (HR2.out.below hb3)
    have HB3:=hid (HB2.out.trans (hb3.mono HB2.out.size))
    have HD3:=hid (HD2.out.below hb3)
    obtain ⟨b,o,rfl,_,hc⟩:=hS.read HSP.out
    rw [Nat.add_zero] at hc
    have h0:(0:Int)<((splitD l).length:Int):=by have:=HSP.out;omega
    obtain ⟨s,hs⟩:∃ s:ByteArray,s=txt ((splitD l).getD 0 []):=⟨_,rfl⟩
    rw [show str ((splitD l).getD 0 [])=.string s from congrArg Value.string hs.symm] at hc
    rw [← hs] at HE0
    have HSZ:Hid (s.size≤1000000):=hid (by rw [hs,txt_size'];have:=HXL.out;have:=HN.out;omega)
    obtain ⟨c0,c1,c2',c3,c4⟩:=HD3.out.cells
    obtain ⟨m,hm⟩:∃ m,m=(splitD l).length:=⟨_,rfl⟩
    rw [← hm] at h0 ⊢
    clear hb3 hS hs hm HR1 HB1 HBS1 HR2 HB2 HD2 HBS2
    go_wp2_with (fail)
    refine (field_ s 2 d w3 (by have:=HSZ.out;omega) (by omega) (by omega)).mono ?_
    rintro e w4 ⟨rfl,hb4⟩
    have HR4:=hid (HR3.out.below hb4)
    have HB4:=hid (HB3.out.trans (hb4.mono HB3.out.size))
    have HD4:=hid (HD3.out.below hb4)
    obtain ⟨Fl,hF⟩:∃ Fl,Fl=fieldsD s d.a:=⟨_,rfl⟩
    rw [← hF] at HE0 ⊢
    have HFL:=hid hF
    obtain ⟨x,bo,hxb,hx⟩:∃ x bo,toldV (nthD Fl 2)=.tuple #[str x,.bool bo]∧x=Fl.getD 1 []:=⟨_,_,rfl,nthD_getD Fl 1⟩
    rw [hxb]
    rw [← hx] at HE0
    clear hb4 hF hxb hx c0 c1 c2' c3 c4 hc HR3 HB3 HD3
    obtain ⟨c0,c1,c2',c3,c4⟩:=HD4.out.cells
    go_wp2_with (fail)
    refine (otherSigns_ d w4).mono ?_
    rintro e w5 ⟨rfl,hb5⟩
    have HR5:=hid (HR4.out.below hb5)
    have HB5:=hid (HB4.out.trans (hb5.mono HB4.out.size))
    have HD5:=hid (HD4.out.below hb5)
    clear hb5 c0 c1 c2' c3 c4 HR4 HB4 HD4
    by_cases hq:x=[d.b,d.c,d.d,d.e]
    · have HE:Hid (readH l=(hdTo d (textsD Fl) 10,0)):=hid (by rw [HE0.out,if_pos hq])
      rw [hq]
      have hst:((txt [d.b,d.c,d.d,d.e]).toList == (txt [d.b,d.c,d.d,d.e]).toList)=true:=by simp
      obtain ⟨c0,c1,c2',c3,c4⟩:=HD5.out.cells
      have HG6:Hid (BoxH (hdTo d (textsD Fl) 0) w5.heap.size (w5.alloc (.cells #[.int .u8 (d.a.toNat:Int),.int .u8 (d.b.toNat:Int),.int .u8 (d.c.toNat:Int),.int .u8 (d.d.toNat:Int),.int .u8 (d.e.toNat:Int),.string ⟨#[]⟩,.string ⟨#[]⟩,.string ⟨#[]⟩,.string ⟨#[]⟩,.string ⟨#[]⟩,.string ⟨#[]⟩,.string ⟨#[]⟩,.string ⟨#[]⟩,.string ⟨#[]⟩,.string ⟨#[]⟩] TH))):=hid (heap_alloc_new w5 _)
      have HR6:Hid (BoxH Hd.zero w.heap.size (w5.alloc (.cells #[.int .u8 (d.a.toNat:Int),.int .u8 (d.b.toNat:Int),.int .u8 (d.c.toNat:Int),.int .u8 (d.d.toNat:Int),.int .u8 (d.e.toNat:Int),.string ⟨#[]⟩,.string ⟨#[]⟩,.string ⟨#[]⟩,.string ⟨#[]⟩,.string ⟨#[]⟩,.string ⟨#[]⟩,.string ⟨#[]⟩,.string ⟨#[]⟩,.string ⟨#[]⟩,.string ⟨#[]⟩] TH))):=hid (HR5.out.below ((Below.refl _ _).alloc (Nat.le_refl _) _))
      have HB6:Hid (Below w.heap.size w (w5.alloc (.cells #[.int .u8 (d.a.toNat:Int),.int .u8 (d.b.toNat:Int),.int .u8 (d.c.toNat:Int),.int .u8 (d.d.toNat:Int),.int .u8 (d.e.toNat:Int),.string ⟨#[]⟩,.string ⟨#[]⟩,.string ⟨#[]⟩,.string ⟨#[]⟩,.string ⟨#[]⟩,.string ⟨#[]⟩,.string ⟨#[]⟩,.string ⟨#[]⟩,.string ⟨#[]⟩,.string ⟨#[]⟩] TH))):=hid (HB5.out.alloc HB5.out.size _)
      have HD6:Hid (BoxS d D (w5.alloc (.cells #[.int .u8 (d.a.toNat:Int),.int .u8 (d.b.toNat:Int),.int .u8 (d.c.toNat:Int),.int .u8 (d.d.toNat:Int),.int .u8 (d.e.toNat:Int),.string ⟨#[]⟩,.string ⟨#[]⟩,.string ⟨#[]⟩,.string ⟨#[]⟩,.string ⟨#[]⟩,.string ⟨#[]⟩,.string ⟨#[]⟩,.string ⟨#[]⟩,.string ⟨#[]⟩,.string ⟨#[]⟩] TH))):=hid (HD5.out.below ((Below.refl _ _).alloc (Nat.le_refl _) _))
      have HNE:Hid (w.heap.size≠w5.heap.size∧D≠w5.heap.size∧w.heap.size≤w5.heap.size):=hid (by
        have h1:=(Array.getElem?_eq_some_iff.1 HR5.out).1
        have h2:=(Array.getElem?_eq_some_iff.1 HD5.out).1
        omega)
      clear hq
      go_wp2_with (fail)
      generalize w5.alloc (.cells #[.int .u8 (d.a.toNat:Int),.int .u8 (d.b.toNat:Int),.int .u8 (d.c.toNat:Int),.int .u8 (d.d.toNat:Int),.int .u8 (d.e.toNat:Int),.string ⟨#[]⟩,.string ⟨#[]⟩,.string ⟨#[]⟩,.string ⟨#[]⟩,.string ⟨#[]⟩,.string ⟨#[]⟩,.string ⟨#[]⟩,.string ⟨#[]⟩,.string ⟨#[]⟩,.string ⟨#[]⟩] TH)=w6 at *
      generalize w5.heap.size=G at *
      clear c0 c1 c2' c3 c4 hst HR5 HB5 HD5
      refine (rows_ w6).mono ?_
      rintro e w7 ⟨rfl,hb7⟩
      have HR7:=hid (HR6.out.below hb7)
      have HB7:=hid (HB6.out.trans (hb7.mono HB6.out.size))
      have HD7:=hid (HD6.out.below hb7)
      have HG7:=hid (HG6.out.below hb7)
      clear hb7 HR6 HB6 HD6 HG6
      go_wp2_with (fail)
      go_loopw [41,10,11,12,13] (fun i _ _ _ _ wr=>∃ k:Nat,k≤10∧i=.int .i64 k∧BoxH (hdTo d (textsD Fl) k) G wr∧BoxS d D wr∧BoxH Hd.zero w.heap.size wr∧Below w.heap.size w wr) (fun i _ _ _ _ _=>10-(intOf i).toNat)
      case atStart=>exact ⟨0,by omega,rfl,HG7.out,HD7.out,HR7.out,HB7.out⟩
      case round =>
        clear HG7 HD7 HR7 HB7
        obtain ⟨wo,rfl⟩:∃ wo:World,wo=wr:=⟨_,rfl⟩
        obtain ⟨k,hk,rfl,hg,hd,hr,hb⟩:=hrel
        have HG:=hid hg
        have HD:=hid hd
        have HR:=hid hr
        have HB:=hid hb
        clear hg hd hr hb
        by_cases hlt:k<10
        · match k,hlt with
          | 0,_ =>
            rw [show ((0:Nat):Int)=0 from rfl]
            have i0:∀ W,(Instr.index 170 (.agg rowsV) (.int .i64 0)).run Tryz.prog W=.ok (.agg #[.func (.func 141) #[] #[]]) W:=fun _=>by kernel_rfl
            have HD1:Hid (BoxS d D (wo.alloc (.cells #[.func (.func 141) #[] #[]] 169))):=hid (HD.out.below ((Below.refl _ _).alloc (Nat.le_refl _) _))
            have HR1:Hid (BoxH Hd.zero w.heap.size (wo.alloc (.cells #[.func (.func 141) #[] #[]] 169))):=hid (HR.out.below ((Below.refl _ _).alloc (Nat.le_refl _) _))
            have HG1:Hid (BoxH (hdTo d (textsD Fl) 0) G (wo.alloc (.cells #[.func (.func 141) #[] #[]] 169))):=hid (HG.out.below ((Below.refl _ _).alloc (Nat.le_refl _) _))
            have HB1:Hid (Below w.heap.size w (wo.alloc (.cells #[.func (.func 141) #[] #[]] 169))):=hid (HB.out.alloc HB.out.size _)
            have HF1:Hid ((wo.alloc (.cells #[.func (.func 141) #[] #[]] 169)).heap[wo.heap.size]?=some (.cells #[.func (.func 141) #[] #[]] 169)):=hid (heap_alloc_new wo _)
            obtain ⟨c0,c1,c2',c3,c4⟩:=HD1.out.cells
            clear hlt hk
            go_wp2_with (fail)
            generalize (wo.alloc (.cells #[.func (.func 141) #[] #[]] 169))=wa at *
            generalize wo.heap.size=fb at *
            refine (field_ s 3 d wa (by have:=HSZ.out;omega) (by omega) (by omega)).mono ?_
            rintro e wb ⟨rfl,hb5⟩
            rw [← HFL.out]
            have HR2:=hid (HR1.out.below hb5)
            have HB2:=hid (HB1.out.trans (hb5.mono HB1.out.size))
            have HD2:=hid (HD1.out.below hb5)
            have HG2:=hid (HG1.out.below hb5)
            have cf:=cell_of_row wb fb 0 _ _ _ ((hb5.block fb (Array.getElem?_eq_some_iff.1 HF1.out).1).trans HF1.out)
            obtain ⟨x2,bo2,hxb2,hx2⟩:∃ x2 bo2,toldV (nthD Fl 3)=.tuple #[.string x2,.bool bo2]∧x2=textsD Fl 0:=⟨_,_,rfl,congrArg txt (nthD_getD Fl 2)⟩
            rw [hxb2]
            obtain ⟨c0,c1,c2,c3,c4,c5,c6,c7,c8,c9,c10,c11,c12,c13,c14⟩:=HG2.out.cells
            obtain ⟨f0,f1,f2,f3,f4,f5,f6,f7,f8,f9,f10,f11,f12,f13,f14⟩:=HG2.out.frz
            have HX2:=hid hx2
            clear hb5 hxb2 hx2 c0 c1 c2' c3 c4 HR1 HB1 HD1 HG1 HF1
            obtain ⟨c0,c1,c2,c3,c4,c5,c6,c7,c8,c9,c10,c11,c12,c13,c14⟩:=HG2.out.cells
            go_wp2_with (fail)
            refine (row1_ G wb).mono ?_
            rintro e wc ⟨rfl,rfl⟩
            go_wp2_with (fail)
            rw [HX2.out]
            exact ⟨⟨1,by omega,rfl,hdTo_step0 HG2.out,HD2.out.other HNE.out.2.1 _ _,HR2.out.other HNE.out.1 _ _,HB2.out.setCell (p:=⟨G,5,none⟩) HNE.out.2.2 _⟩,by simp [intOf]⟩
          | 1,_ =>
            rw [show ((1:Nat):Int)=1 from rfl]
            have i0:∀ W,(Instr.index 170 (.agg rowsV) (.int .i64 1)).run Tryz.prog W=.ok (.agg #[.func (.func 142) #[] #[]]) W:=fun _=>by kernel_rfl
            have HD1:Hid (BoxS d D (wo.alloc (.cells #[.func (.func 142) #[] #[]] 169))):=hid (HD.out.below ((Below.refl _ _).alloc (Nat.le_refl _) _))
            have HR1:Hid (BoxH Hd.zero w.heap.size (wo.alloc (.cells #[.func (.func 142) #[] #[]] 169))):=hid (HR.out.below ((Below.refl _ _).alloc (Nat.le_refl _) _))
            have HG1:Hid (BoxH (hdTo d (textsD Fl) 1) G (wo.alloc (.cells #[.func (.func 142) #[] #[]] 169))):=hid (HG.out.below ((Below.refl _ _).alloc (Nat.le_refl _) _))
            have HB1:Hid (Below w.heap.size w (wo.alloc (.cells #[.func (.func 142) #[] #[]] 169))):=hid (HB.out.alloc HB.out.size _)
            have HF1:Hid ((wo.alloc (.cells #[.func (.func 142) #[] #[]] 169)).heap[wo.heap.size]?=some (.cells #[.func (.func 142) #[] #[]] 169)):=hid (heap_alloc_new wo _)
            obtain ⟨c0,c1,c2',c3,c4⟩:=HD1.out.cells
            clear hlt hk
            go_wp2_with (fail)
            generalize (wo.alloc (.cells #[.func (.func 142) #[] #[]] 169))=wa at *
            generalize wo.heap.size=fb at *
            refine (field_ s 4 d wa (by have:=HSZ.out;omega) (by omega) (by omega)).mono ?_
            rintro e wb ⟨rfl,hb5⟩
            rw [← HFL.out]
            have HR2:=hid (HR1.out.below hb5)
            have HB2:=hid (HB1.out.trans (hb5.mono HB1.out.size))
            have HD2:=hid (HD1.out.below hb5)
            have HG2:=hid (HG1.out.below hb5)
            have cf:=cell_of_row wb fb 0 _ _ _ ((hb5.block fb (Array.getElem?_eq_some_iff.1 HF1.out).1).trans HF1.out)
            obtain ⟨x2,bo2,hxb2,hx2⟩:∃ x2 bo2,toldV (nthD Fl 4)=.tuple #[.string x2,.bool bo2]∧x2=textsD Fl 1:=⟨_,_,rfl,congrArg txt (nthD_getD Fl 3)⟩
            rw [hxb2]
            obtain ⟨c0,c1,c2,c3,c4,c5,c6,c7,c8,c9,c10,c11,c12,c13,c14⟩:=HG2.out.cells
            obtain ⟨f0,f1,f2,f3,f4,f5,f6,f7,f8,f9,f10,f11,f12,f13,f14⟩:=HG2.out.frz
            have HX2:=hid hx2
            clear hb5 hxb2 hx2 c0 c1 c2' c3 c4 HR1 HB1 HD1 HG1 HF1
            obtain ⟨c0,c1,c2,c3,c4,c5,c6,c7,c8,c9,c10,c11,c12,c13,c14⟩:=HG2.out.cells
            go_wp2_with (fail)
            refine (row2_ G wb).mono ?_
            rintro e wc ⟨rfl,rfl⟩
            go_wp2_with (fail)
            rw [HX2.out]
            exact ⟨⟨2,by omega,rfl,hdTo_step1 HG2.out,HD2.out.other HNE.out.2.1 _ _,HR2.out.other HNE.out.1 _ _,HB2.out.setCell (p:=⟨G,6,none⟩) HNE.out.2.2 _⟩,by simp [intOf]⟩
          | 2,_ =>
            rw [show ((2:Nat):Int)=2 from rfl]
            have i0:∀ W,(Instr.index 170 (.agg rowsV) (.int .i64 2)).run Tryz.prog W=.ok (.agg #[.func (.func 143) #[] #[]]) W:=fun _=>by kernel_rfl
            have HD1:Hid (BoxS d D (wo.alloc (.cells #[.func (.func 143) #[] #[]] 169))):=hid (HD.out.below ((Below.refl _ _).alloc (Nat.le_refl _) _))
            have HR1:Hid (BoxH Hd.zero w.heap.size (wo.alloc (.cells #[.func (.func 143) #[] #[]] 169))):=hid (HR.out.below ((Below.refl _ _).alloc (Nat.le_refl _) _))
            have HG1:Hid (BoxH (hdTo d (textsD Fl) 2) G (wo.alloc (.cells #[.func (.func 143) #[] #[]] 169))):=hid (HG.out.below ((Below.refl _ _).alloc (Nat.le_refl _) _))
            have HB1:Hid (Below w.heap.size w (wo.alloc (.cells #[.func (.func 143) #[] #[]] 169))):=hid (HB.out.alloc HB.out.size _)
            have HF1:Hid ((wo.alloc (.cells #[.func (.func 143) #[] #[]] 169)).heap[wo.heap.size]?=some (.cells #[.func (.func 143) #[] #[]] 169)):=hid (heap_alloc_new wo _)
            obtain ⟨c0,c1,c2',c3,c4⟩:=HD1.out.cells
            clear hlt hk
            go_wp2_with (fail)
            generalize (wo.alloc (.cells #[.func (.func 143) #[] #[]] 169))=wa at *
            generalize wo.heap.size=fb at *
            refine (field_ s 5 d wa (by have:=HSZ.out;omega) (by omega) (by omega)).mono ?_
            rintro e wb ⟨rfl,hb5⟩
            rw [← HFL.out]
            have HR2:=hid (HR1.out.below hb5)
            have HB2:=hid (HB1.out.trans (hb5.mono HB1.out.size))
            have HD2:=hid (HD1.out.below hb5)
            have HG2:=hid (HG1.out.below hb5)
            have cf:=cell_of_row wb fb 0 _ _ _ ((hb5.block fb (Array.getElem?_eq_some_iff.1 HF1.out).1).trans HF1.out)
            obtain ⟨x2,bo2,hxb2,hx2⟩:∃ x2 bo2,toldV (nthD Fl 5)=.tuple #[.string x2,.bool bo2]∧x2=textsD Fl 2:=⟨_,_,rfl,congrArg txt (nthD_getD Fl 4)⟩
            rw [hxb2]
            obtain ⟨c0,c1,c2,c3,c4,c5,c6,c7,c8,c9,c10,c11,c12,c13,c14⟩:=HG2.out.cells
            obtain ⟨f0,f1,f2,f3,f4,f5,f6,f7,f8,f9,f10,f11,f12,f13,f14⟩:=HG2.out.frz
            have HX2:=hid hx2
            clear hb5 hxb2 hx2 c0 c1 c2' c3 c4 HR1 HB1 HD1 HG1 HF1
            obtain ⟨c0,c1,c2,c3,c4,c5,c6,c7,c8,c9,c10,c11,c12,c13,c14⟩:=HG2.out.cells
            go_wp2_with (fail)
            refine (row3_ G wb).mono ?_
            rintro e wc ⟨rfl,rfl⟩
            go_wp2_with (fail)
            rw [HX2.out]
            exact ⟨⟨3,by omega,rfl,hdTo_step2 HG2.out,HD2.out.other HNE.out.2.1 _ _,HR2.out.other HNE.out.1 _ _,HB2.out.setCell (p:=⟨G,7,none⟩) HNE.out.2.2 _⟩,by simp [intOf]⟩
          | 3,_ =>
            rw [show ((3:Nat):Int)=3 from rfl]
            have i0:∀ W,(Instr.index 170 (.agg rowsV) (.int .i64 3)).run Tryz.prog W=.ok (.agg #[.func (.func 144) #[] #[]]) W:=fun _=>by kernel_rfl
            have HD1:Hid (BoxS d D (wo.alloc (.cells #[.func (.func 144) #[] #[]] 169))):=hid (HD.out.below ((Below.refl _ _).alloc (Nat.le_refl _) _))
            have HR1:Hid (BoxH Hd.zero w.heap.size (wo.alloc (.cells #[.func (.func 144) #[] #[]] 169))):=hid (HR.out.below ((Below.refl _ _).alloc (Nat.le_refl _) _))
            have HG1:Hid (BoxH (hdTo d (textsD Fl) 3) G (wo.alloc (.cells #[.func (.func 144) #[] #[]] 169))):=hid (HG.out.below ((Below.refl _ _).alloc (Nat.le_refl _) _))
            have HB1:Hid (Below w.heap.size w (wo.alloc (.cells #[.func (.func 144) #[] #[]] 169))):=hid (HB.out.alloc HB.out.size _)
            have HF1:Hid ((wo.alloc (.cells #[.func (.func 144) #[] #[]] 169)).heap[wo.heap.size]?=some (.cells #[.func (.func 144) #[] #[]] 169)):=hid (heap_alloc_new wo _)
            obtain ⟨c0,c1,c2',c3,c4⟩:=HD1.out.cells
            clear hlt hk
            go_wp2_with (fail)
            generalize (wo.alloc (.cells #[.func (.func 144) #[] #[]] 169))=wa at *
            generalize wo.heap.size=fb at *
            refine (field_ s 6 d wa (by have:=HSZ.out;omega) (by omega) (by omega)).mono ?_
            rintro e wb ⟨rfl,hb5⟩
            rw [← HFL.out]
            have HR2:=hid (HR1.out.below hb5)
            have HB2:=hid (HB1.out.trans (hb5.mono HB1.out.size))
            have HD2:=hid (HD1.out.below hb5)
            have HG2:=hid (HG1.out.below hb5)
            have cf:=cell_of_row wb fb 0 _ _ _ ((hb5.block fb (Array.getElem?_eq_some_iff.1 HF1.out).1).trans HF1.out)
            obtain ⟨x2,bo2,hxb2,hx2⟩:∃ x2 bo2,toldV (nthD Fl 6)=.tuple #[.string x2,.bool bo2]∧x2=textsD Fl 3:=⟨_,_,rfl,congrArg txt (nthD_getD Fl 5)⟩
            rw [hxb2]
            obtain ⟨c0,c1,c2,c3,c4,c5,c6,c7,c8,c9,c10,c11,c12,c13,c14⟩:=HG2.out.cells
            obtain ⟨f0,f1,f2,f3,f4,f5,f6,f7,f8,f9,f10,f11,f12,f13,f14⟩:=HG2.out.frz
            have HX2:=hid hx2
            clear hb5 hxb2 hx2 c0 c1 c2' c3 c4 HR1 HB1 HD1 HG1 HF1
            obtain ⟨c0,c1,c2,c3,c4,c5,c6,c7,c8,c9,c10,c11,c12,c13,c14⟩:=HG2.out.cells
            go_wp2_with (fail)
            refine (row4_ G wb).mono ?_
            rintro e wc ⟨rfl,rfl⟩
            go_wp2_with (fail)
            rw [HX2.out]
            exact ⟨⟨4,by omega,rfl,hdTo_step3 HG2.out,HD2.out.other HNE.out.2.1 _ _,HR2.out.other HNE.out.1 _ _,HB2.out.setCell (p:=⟨G,8,none⟩) HNE.out.2.2 _⟩,by simp [intOf]⟩
          | 4,_ =>
            rw [show ((4:Nat):Int)=4 from rfl]
            have i0:∀ W,(Instr.index 170 (.agg rowsV) (.int .i64 4)).run Tryz.prog W=.ok (.agg #[.func (.func 145) #[] #[]]) W:=fun _=>by kernel_rfl
            have HD1:Hid (BoxS d D (wo.alloc (.cells #[.func (.func 145) #[] #[]] 169))):=hid (HD.out.below ((Below.refl _ _).alloc (Nat.le_refl _) _))
            have HR1:Hid (BoxH Hd.zero w.heap.size (wo.alloc (.cells #[.func (.func 145) #[] #[]] 169))):=hid (HR.out.below ((Below.refl _ _).alloc (Nat.le_refl _) _))
            have HG1:Hid (BoxH (hdTo d (textsD Fl) 4) G (wo.alloc (.cells #[.func (.func 145) #[] #[]] 169))):=hid (HG.out.below ((Below.refl _ _).alloc (Nat.le_refl _) _))
            have HB1:Hid (Below w.heap.size w (wo.alloc (.cells #[.func (.func 145) #[] #[]] 169))):=hid (HB.out.alloc HB.out.size _)
            have HF1:Hid ((wo.alloc (.cells #[.func (.func 145) #[] #[]] 169)).heap[wo.heap.size]?=some (.cells #[.func (.func 145) #[] #[]] 169)):=hid (heap_alloc_new wo _)
            obtain ⟨c0,c1,c2',c3,c4⟩:=HD1.out.cells
            clear hlt hk
            go_wp2_with (fail)
            generalize (wo.alloc (.cells #[.func (.func 145) #[] #[]] 169))=wa at *
            generalize wo.heap.size=fb at *
            refine (field_ s 7 d wa (by have:=HSZ.out;omega) (by omega) (by omega)).mono ?_
            rintro e wb ⟨rfl,hb5⟩
            rw [← HFL.out]
            have HR2:=hid (HR1.out.below hb5)
            have HB2:=hid (HB1.out.trans (hb5.mono HB1.out.size))
            have HD2:=hid (HD1.out.below hb5)
            have HG2:=hid (HG1.out.below hb5)
            have cf:=cell_of_row wb fb 0 _ _ _ ((hb5.block fb (Array.getElem?_eq_some_iff.1 HF1.out).1).trans HF1.out)
            obtain ⟨x2,bo2,hxb2,hx2⟩:∃ x2 bo2,toldV (nthD Fl 7)=.tuple #[.string x2,.bool bo2]∧x2=textsD Fl 4:=⟨_,_,rfl,congrArg txt (nthD_getD Fl 6)⟩
            rw [hxb2]
            obtain ⟨c0,c1,c2,c3,c4,c5,c6,c7,c8,c9,c10,c11,c12,c13,c14⟩:=HG2.out.cells
            obtain ⟨f0,f1,f2,f3,f4,f5,f6,f7,f8,f9,f10,f11,f12,f13,f14⟩:=HG2.out.frz
            have HX2:=hid hx2
            clear hb5 hxb2 hx2 c0 c1 c2' c3 c4 HR1 HB1 HD1 HG1 HF1
            obtain ⟨c0,c1,c2,c3,c4,c5,c6,c7,c8,c9,c10,c11,c12,c13,c14⟩:=HG2.out.cells
            go_wp2_with (fail)
            refine (row5_ G wb).mono ?_
            rintro e wc ⟨rfl,rfl⟩
            go_wp2_with (fail)
            rw [HX2.out]
            exact ⟨⟨5,by omega,rfl,hdTo_step4 HG2.out,HD2.out.other HNE.out.2.1 _ _,HR2.out.other HNE.out.1 _ _,HB2.out.setCell (p:=⟨G,9,none⟩) HNE.out.2.2 _⟩,by simp [intOf]⟩
          | 5,_ =>
            rw [show ((5:Nat):Int)=5 from rfl]
            have i0:∀ W,(Instr.index 170 (.agg rowsV) (.int .i64 5)).run Tryz.prog W=.ok (.agg #[.func (.func 146) #[] #[]]) W:=fun _=>by kernel_rfl
            have HD1:Hid (BoxS d D (wo.alloc (.cells #[.func (.func 146) #[] #[]] 169))):=hid (HD.out.below ((Below.refl _ _).alloc (Nat.le_refl _) _))
            have HR1:Hid (BoxH Hd.zero w.heap.size (wo.alloc (.cells #[.func (.func 146) #[] #[]] 169))):=hid (HR.out.below ((Below.refl _ _).alloc (Nat.le_refl _) _))
            have HG1:Hid (BoxH (hdTo d (textsD Fl) 5) G (wo.alloc (.cells #[.func (.func 146) #[] #[]] 169))):=hid (HG.out.below ((Below.refl _ _).alloc (Nat.le_refl _) _))
            have HB1:Hid (Below w.heap.size w (wo.alloc (.cells #[.func (.func 146) #[] #[]] 169))):=hid (HB.out.alloc HB.out.size _)
            have HF1:Hid ((wo.alloc (.cells #[.func (.func 146) #[] #[]] 169)).heap[wo.heap.size]?=some (.cells #[.func (.func 146) #[] #[]] 169)):=hid (heap_alloc_new wo _)
            obtain ⟨c0,c1,c2',c3,c4⟩:=HD1.out.cells
            clear hlt hk
            go_wp2_with (fail)
            generalize (wo.alloc (.cells #[.func (.func 146) #[] #[]] 169))=wa at *
            generalize wo.heap.size=fb at *
            refine (field_ s 8 d wa (by have:=HSZ.out;omega) (by omega) (by omega)).mono ?_
            rintro e wb ⟨rfl,hb5⟩
            rw [← HFL.out]
            have HR2:=hid (HR1.out.below hb5)
            have HB2:=hid (HB1.out.trans (hb5.mono HB1.out.size))
            have HD2:=hid (HD1.out.below hb5)
            have HG2:=hid (HG1.out.below hb5)
            have cf:=cell_of_row wb fb 0 _ _ _ ((hb5.block fb (Array.getElem?_eq_some_iff.1 HF1.out).1).trans HF1.out)
            obtain ⟨x2,bo2,hxb2,hx2⟩:∃ x2 bo2,toldV (nthD Fl 8)=.tuple #[.string x2,.bool bo2]∧x2=textsD Fl 5:=⟨_,_,rfl,congrArg txt (nthD_getD Fl 7)⟩
            rw [hxb2]
            obtain ⟨c0,c1,c2,c3,c4,c5,c6,c7,c8,c9,c10,c11,c12,c13,c14⟩:=HG2.out.cells
            obtain ⟨f0,f1,f2,f3,f4,f5,f6,f7,f8,f9,f10,f11,f12,f13,f14⟩:=HG2.out.frz
            have HX2:=hid hx2
            clear hb5 hxb2 hx2 c0 c1 c2' c3 c4 HR1 HB1 HD1 HG1 HF1
            obtain ⟨c0,c1,c2,c3,c4,c5,c6,c7,c8,c9,c10,c11,c12,c13,c14⟩:=HG2.out.cells
            go_wp2_with (fail)
            refine (row6_ G wb).mono ?_
            rintro e wc ⟨rfl,rfl⟩
            go_wp2_with (fail)
            rw [HX2.out]
            exact ⟨⟨6,by omega,rfl,hdTo_step5 HG2.out,HD2.out.other HNE.out.2.1 _ _,HR2.out.other HNE.out.1 _ _,HB2.out.setCell (p:=⟨G,10,none⟩) HNE.out.2.2 _⟩,by simp [intOf]⟩
          | 6,_ =>
            rw [show ((6:Nat):Int)=6 from rfl]
            have i0:∀ W,(Instr.index 170 (.agg rowsV) (.int .i64 6)).run Tryz.prog W=.ok (.agg #[.func (.func 147) #[] #[]]) W:=fun _=>by kernel_rfl
            have HD1:Hid (BoxS d D (wo.alloc (.cells #[.func (.func 147) #[] #[]] 169))):=hid (HD.out.below ((Below.refl _ _).alloc (Nat.le_refl _) _))
            have HR1:Hid (BoxH Hd.zero w.heap.size (wo.alloc (.cells #[.func (.func 147) #[] #[]] 169))):=hid (HR.out.below ((Below.refl _ _).alloc (Nat.le_refl _) _))
            have HG1:Hid (BoxH (hdTo d (textsD Fl) 6) G (wo.alloc (.cells #[.func (.func 147) #[] #[]] 169))):=hid (HG.out.below ((Below.refl _ _).alloc (Nat.le_refl _) _))
            have HB1:Hid (Below w.heap.size w (wo.alloc (.cells #[.func (.func 147) #[] #[]] 169))):=hid (HB.out.alloc HB.out.size _)
            have HF1:Hid ((wo.alloc (.cells #[.func (.func 147) #[] #[]] 169)).heap[wo.heap.size]?=some (.cells #[.func (.func 147) #[] #[]] 169)):=hid (heap_alloc_new wo _)
            obtain ⟨c0,c1,c2',c3,c4⟩:=HD1.out.cells
            clear hlt hk
            go_wp2_with (fail)
            generalize (wo.alloc (.cells #[.func (.func 147) #[] #[]] 169))=wa at *
            generalize wo.heap.size=fb at *
            refine (field_ s 9 d wa (by have:=HSZ.out;omega) (by omega) (by omega)).mono ?_
            rintro e wb ⟨rfl,hb5⟩
            rw [← HFL.out]
            have HR2:=hid (HR1.out.below hb5)
            have HB2:=hid (HB1.out.trans (hb5.mono HB1.out.size))
            have HD2:=hid (HD1.out.below hb5)
            have HG2:=hid (HG1.out.below hb5)
            have cf:=cell_of_row wb fb 0 _ _ _ ((hb5.block fb (Array.getElem?_eq_some_iff.1 HF1.out).1).trans HF1.out)
            obtain ⟨x2,bo2,hxb2,hx2⟩:∃ x2 bo2,toldV (nthD Fl 9)=.tuple #[.string x2,.bool bo2]∧x2=textsD Fl 6:=⟨_,_,rfl,congrArg txt (nthD_getD Fl 8)⟩
            rw [hxb2]
            obtain ⟨c0,c1,c2,c3,c4,c5,c6,c7,c8,c9,c10,c11,c12,c13,c14⟩:=HG2.out.cells
            obtain ⟨f0,f1,f2,f3,f4,f5,f6,f7,f8,f9,f10,f11,f12,f13,f14⟩:=HG2.out.frz
            have HX2:=hid hx2
            clear hb5 hxb2 hx2 c0 c1 c2' c3 c4 HR1 HB1 HD1 HG1 HF1
            obtain ⟨c0,c1,c2,c3,c4,c5,c6,c7,c8,c9,c10,c11,c12,c13,c14⟩:=HG2.out.cells
            go_wp2_with (fail)
            refine (row7_ G wb).mono ?_
            rintro e wc ⟨rfl,rfl⟩
            go_wp2_with (fail)
            rw [HX2.out]
            exact ⟨⟨7,by omega,rfl,hdTo_step6 HG2.out,HD2.out.other HNE.out.2.1 _ _,HR2.out.other HNE.out.1 _ _,HB2.out.setCell (p:=⟨G,11,none⟩) HNE.out.2.2 _⟩,by simp [intOf]⟩
          | 7,_ =>
            rw [show ((7:Nat):Int)=7 from rfl]
            have i0:∀ W,(Instr.index 170 (.agg rowsV) (.int .i64 7)).run Tryz.prog W=.ok (.agg #[.func (.func 148) #[] #[]]) W:=fun _=>by kernel_rfl
            have HD1:Hid (BoxS d D (wo.alloc (.cells #[.func (.func 148) #[] #[]] 169))):=hid (HD.out.below ((Below.refl _ _).alloc (Nat.le_refl _) _))
            have HR1:Hid (BoxH Hd.zero w.heap.size (wo.alloc (.cells #[.func (.func 148) #[] #[]] 169))):=hid (HR.out.below ((Below.refl _ _).alloc (Nat.le_refl _) _))
            have HG1:Hid (BoxH (hdTo d (textsD Fl) 7) G (wo.alloc (.cells #[.func (.func 148) #[] #[]] 169))):=hid (HG.out.below ((Below.refl _ _).alloc (Nat.le_refl _) _))
            have HB1:Hid (Below w.heap.size w (wo.alloc (.cells #[.func (.func 148) #[] #[]] 169))):=hid (HB.out.alloc HB.out.size _)
            have HF1:Hid ((wo.alloc (.cells #[.func (.func 148) #[] #[]] 169)).heap[wo.heap.size]?=some (.cells #[.func (.func 148) #[] #[]] 169)):=hid (heap_alloc_new wo _)
            obtain ⟨c0,c1,c2',c3,c4⟩:=HD1.out.cells
            clear hlt hk
            go_wp2_with (fail)
            generalize (wo.alloc (.cells #[.func (.func 148) #[] #[]] 169))=wa at *
            generalize wo.heap.size=fb at *
            refine (field_ s 10 d wa (by have:=HSZ.out;omega) (by omega) (by omega)).mono ?_
            rintro e wb ⟨rfl,hb5⟩
            rw [← HFL.out]
            have HR2:=hid (HR1.out.below hb5)
            have HB2:=hid (HB1.out.trans (hb5.mono HB1.out.size))
            have HD2:=hid (HD1.out.below hb5)
            have HG2:=hid (HG1.out.below hb5)
            have cf:=cell_of_row wb fb 0 _ _ _ ((hb5.block fb (Array.getElem?_eq_some_iff.1 HF1.out).1).trans HF1.out)
            obtain ⟨x2,bo2,hxb2,hx2⟩:∃ x2 bo2,toldV (nthD Fl 10)=.tuple #[.string x2,.bool bo2]∧x2=textsD Fl 7:=⟨_,_,rfl,congrArg txt (nthD_getD Fl 9)⟩
            rw [hxb2]
            obtain ⟨c0,c1,c2,c3,c4,c5,c6,c7,c8,c9,c10,c11,c12,c13,c14⟩:=HG2.out.cells
            obtain ⟨f0,f1,f2,f3,f4,f5,f6,f7,f8,f9,f10,f11,f12,f13,f14⟩:=HG2.out.frz
            have HX2:=hid hx2
            clear hb5 hxb2 hx2 c0 c1 c2' c3 c4 HR1 HB1 HD1 HG1 HF1
            obtain ⟨c0,c1,c2,c3,c4,c5,c6,c7,c8,c9,c10,c11,c12,c13,c14⟩:=HG2.out.cells
            go_wp2_with (fail)
            refine (row8_ G wb).mono ?_
            rintro e wc ⟨rfl,rfl⟩
            go_wp2_with (fail)
            rw [HX2.out]
            exact ⟨⟨8,by omega,rfl,hdTo_step7 HG2.out,HD2.out.other HNE.out.2.1 _ _,HR2.out.other HNE.out.1 _ _,HB2.out.setCell (p:=⟨G,12,none⟩) HNE.out.2.2 _⟩,by simp [intOf]⟩
          | 8,_ =>
            rw [show ((8:Nat):Int)=8 from rfl]
            have i0:∀ W,(Instr.index 170 (.agg rowsV) (.int .i64 8)).run Tryz.prog W=.ok (.agg #[.func (.func 149) #[] #[]]) W:=fun _=>by kernel_rfl
            have HD1:Hid (BoxS d D (wo.alloc (.cells #[.func (.func 149) #[] #[]] 169))):=hid (HD.out.below ((Below.refl _ _).alloc (Nat.le_refl _) _))
            have HR1:Hid (BoxH Hd.zero w.heap.size (wo.alloc (.cells #[.func (.func 149) #[] #[]] 169))):=hid (HR.out.below ((Below.refl _ _).alloc (Nat.le_refl _) _))
            have HG1:Hid (BoxH (hdTo d (textsD Fl) 8) G (wo.alloc (.cells #[.func (.func 149) #[] #[]] 169))):=hid (HG.out.below ((Below.refl _ _).alloc (Nat.le_refl _) _))
            have HB1:Hid (Below w.heap.size w (wo.alloc (.cells #[.func (.func 149) #[] #[]] 169))):=hid (HB.out.alloc HB.out.size _)
            have HF1:Hid ((wo.alloc (.cells #[.func (.func 149) #[] #[]] 169)).heap[wo.heap.size]?=some (.cells #[.func (.func 149) #[] #[]] 169)):=hid (heap_alloc_new wo _)
            obtain ⟨c0,c1,c2',c3,c4⟩:=HD1.out.cells
            clear hlt hk
            go_wp2_with (fail)
            generalize (wo.alloc (.cells #[.func (.func 149) #[] #[]] 169))=wa at *
            generalize wo.heap.size=fb at *
            refine (field_ s 11 d wa (by have:=HSZ.out;omega) (by omega) (by omega)).mono ?_
            rintro e wb ⟨rfl,hb5⟩
            rw [← HFL.out]
            have HR2:=hid (HR1.out.below hb5)
            have HB2:=hid (HB1.out.trans (hb5.mono HB1.out.size))
            have HD2:=hid (HD1.out.below hb5)
            have HG2:=hid (HG1.out.below hb5)
            have cf:=cell_of_row wb fb 0 _ _ _ ((hb5.block fb (Array.getElem?_eq_some_iff.1 HF1.out).1).trans HF1.out)
            obtain ⟨x2,bo2,hxb2,hx2⟩:∃ x2 bo2,toldV (nthD Fl 11)=.tuple #[.string x2,.bool bo2]∧x2=textsD Fl 8:=⟨_,_,rfl,congrArg txt (nthD_getD Fl 10)⟩
            rw [hxb2]
            obtain ⟨c0,c1,c2,c3,c4,c5,c6,c7,c8,c9,c10,c11,c12,c13,c14⟩:=HG2.out.cells
            obtain ⟨f0,f1,f2,f3,f4,f5,f6,f7,f8,f9,f10,f11,f12,f13,f14⟩:=HG2.out.frz
            have HX2:=hid hx2
            clear hb5 hxb2 hx2 c0 c1 c2' c3 c4 HR1 HB1 HD1 HG1 HF1
            obtain ⟨c0,c1,c2,c3,c4,c5,c6,c7,c8,c9,c10,c11,c12,c13,c14⟩:=HG2.out.cells
            go_wp2_with (fail)
            refine (row9_ G wb).mono ?_
            rintro e wc ⟨rfl,rfl⟩
            go_wp2_with (fail)
            rw [HX2.out]
            exact ⟨⟨9,by omega,rfl,hdTo_step8 HG2.out,HD2.out.other HNE.out.2.1 _ _,HR2.out.other HNE.out.1 _ _,HB2.out.setCell (p:=⟨G,13,none⟩) HNE.out.2.2 _⟩,by simp [intOf]⟩
          | 9,_ =>
            rw [show ((9:Nat):Int)=9 from rfl]
            have i0:∀ W,(Instr.index 170 (.agg rowsV) (.int .i64 9)).run Tryz.prog W=.ok (.agg #[.func (.func 150) #[] #[]]) W:=fun _=>by kernel_rfl
            have HD1:Hid (BoxS d D (wo.alloc (.cells #[.func (.func 150) #[] #[]] 169))):=hid (HD.out.below ((Below.refl _ _).alloc (Nat.le_refl _) _))
            have HR1:Hid (BoxH Hd.zero w.heap.size (wo.alloc (.cells #[.func (.func 150) #[] #[]] 169))):=hid (HR.out.below ((Below.refl _ _).alloc (Nat.le_refl _) _))
            have HG1:Hid (BoxH (hdTo d (textsD Fl) 9) G (wo.alloc (.cells #[.func (.func 150) #[] #[]] 169))):=hid (HG.out.below ((Below.refl _ _).alloc (Nat.le_refl _) _))
            have HB1:Hid (Below w.heap.size w (wo.alloc (.cells #[.func (.func 150) #[] #[]] 169))):=hid (HB.out.alloc HB.out.size _)
            have HF1:Hid ((wo.alloc (.cells #[.func (.func 150) #[] #[]] 169)).heap[wo.heap.size]?=some (.cells #[.func (.func 150) #[] #[]] 169)):=hid (heap_alloc_new wo _)
            obtain ⟨c0,c1,c2',c3,c4⟩:=HD1.out.cells
            clear hlt hk
            go_wp2_with (fail)
            generalize (wo.alloc (.cells #[.func (.func 150) #[] #[]] 169))=wa at *
            generalize wo.heap.size=fb at *
            refine (field_ s 12 d wa (by have:=HSZ.out;omega) (by omega) (by omega)).mono ?_
            rintro e wb ⟨rfl,hb5⟩
            rw [← HFL.out]
            have HR2:=hid (HR1.out.below hb5)
            have HB2:=hid (HB1.out.trans (hb5.mono HB1.out.size))
            have HD2:=hid (HD1.out.below hb5)
            have HG2:=hid (HG1.out.below hb5)
            have cf:=cell_of_row wb fb 0 _ _ _ ((hb5.block fb (Array.getElem?_eq_some_iff.1 HF1.out).1).trans HF1.out)
            obtain ⟨x2,bo2,hxb2,hx2⟩:∃ x2 bo2,toldV (nthD Fl 12)=.tuple #[.string x2,.bool bo2]∧x2=textsD Fl 9:=⟨_,_,rfl,congrArg txt (nthD_getD Fl 11)⟩
            rw [hxb2]
            obtain ⟨c0,c1,c2,c3,c4,c5,c6,c7,c8,c9,c10,c11,c12,c13,c14⟩:=HG2.out.cells
            obtain ⟨f0,f1,f2,f3,f4,f5,f6,f7,f8,f9,f10,f11,f12,f13,f14⟩:=HG2.out.frz
            have HX2:=hid hx2
            clear hb5 hxb2 hx2 c0 c1 c2' c3 c4 HR1 HB1 HD1 HG1 HF1
            obtain ⟨c0,c1,c2,c3,c4,c5,c6,c7,c8,c9,c10,c11,c12,c13,c14⟩:=HG2.out.cells
            go_wp2_with (fail)
            refine (row10_ G wb).mono ?_
            rintro e wc ⟨rfl,rfl⟩
            go_wp2_with (fail)
            rw [HX2.out]
            exact ⟨⟨10,by omega,rfl,hdTo_step9 HG2.out,HD2.out.other HNE.out.2.1 _ _,HR2.out.other HNE.out.1 _ _,HB2.out.setCell (p:=⟨G,14,none⟩) HNE.out.2.2 _⟩,by simp [intOf]⟩
        · obtain rfl:k=10:=by omega
          clear hlt hk
          obtain ⟨c0,c1,c2,c3,c4,c5,c6,c7,c8,c9,c10,c11,c12,c13,c14⟩:=HG.out.cells
          obtain ⟨e0,e1,e2,e3,e4,e5,e6,e7,e8,e9,e10,e11,e12,e13,e14⟩:=HR.out.cells
          obtain ⟨f0,f1,f2,f3,f4,f5,f6,f7,f8,f9,f10,f11,f12,f13,f14⟩:=HR.out.frz
          go_wp2_with (fail)
          change bodyPost _ _ _ _ _ (setHd wo w.heap.size (hdTo d (textsD Fl) 10))
          have HR3:=hid (setHd_row HR.out (hdTo d (textsD Fl) 10))
          have HB3:=hid (setHd_below HB.out (Nat.le_refl _) (hdTo d (textsD Fl) 10))
          generalize setHd wo w.heap.size (hdTo d (textsD Fl) 10)=w3' at *
          clear c0 c1 c2 c3 c4 c5 c6 c7 c8 c9 c10 c11 c12 c13 c14 e0 e1 e2 e3 e4 e5 e6 e7 e8 e9 e10 e11 e12 e13 e14 f0 f1 f2 f3 f4 f5 f6 f7 f8 f9 f10 f11 f12 f13 f14
          obtain ⟨c0,c1,c2,c3,c4,c5,c6,c7,c8,c9,c10,c11,c12,c13,c14⟩:=HR3.out.cells
          refine bodyPost_ret (v:=.tuple #[(hdTo d (textsD Fl) 10).v,.int .i64 0]) ?_ rfl ⟨by rw [HE.out],HB3.out⟩
          simp [results,Tryz.results70,go_sem, *]
    · have HE:Hid (readH l=(Hd.zero,11)):=hid (by rw [HE0.out,if_neg hq])
      have hst:((txt x).toList == (txt [d.b,d.c,d.d,d.e]).toList)=false:=strEq_f (fun e=>hq (by have:=congrArg (fun b:ByteArray=>b.data.toList) e;simpa using this))
      have hst2:(x == [d.b,d.c,d.d,d.e])=false:=by simpa using hq
      obtain ⟨c0,c1,c2',c3,c4⟩:=HD5.out.cells
      clear hq
      obtain ⟨e0,e1,e2,e3,e4,e5,e6,e7,e8,e9,e10,e11,e12,e13,e14⟩:=HR5.out.cells
      obtain ⟨f0,f1,f2,f3,f4,f5,f6,f7,f8,f9,f10,f11,f12,f13,f14⟩:=HR5.out.frz
      go_wp2_with (fail)
      change bodyPost _ _ _ _ _ (setHd w5 w.heap.size Hd.zero)
      have HR6:=hid (setHd_row HR5.out Hd.zero)
      have HB6:=hid (setHd_below HB5.out (Nat.le_refl _) Hd.zero)
      generalize setHd w5 w.heap.size Hd.zero=w6 at *
      clear c0 c1 c2' c3 c4 e0 e1 e2 e3 e4 e5 e6 e7 e8 e9 e10 e11 e12 e13 e14 f0 f1 f2 f3 f4 f5 f6 f7 f8 f9 f10 f11 f12 f13 f14
      obtain ⟨c0,c1,c2,c3,c4,c5,c6,c7,c8,c9,c10,c11,c12,c13,c14⟩:=HR6.out.cells
      refine bodyPost_ret (v:=.tuple #[Hd.zero.v,.int .i64 11]) ?_ rfl ⟨by rw [HE.out],HB6.out⟩
      simp [results,Tryz.results70,go_sem, *]
  · have HE:Hid (readH l=(Hd.zero,(readD l).2)):=hid (if_neg he)
    have de:(((readD l).2) == 0)=false:=by simpa using he
    obtain ⟨D,hD⟩:∃ D,D=readD l:=⟨_,rfl⟩
    rw [← hD] at HE de ⊢
    clear hD
    have HR2:Hid (BoxH Hd.zero w.heap.size (w1.alloc (.cells #[.int .u8 (D.1.a.toNat:Int),.int .u8 (D.1.b.toNat:Int),.int .u8 (D.1.c.toNat:Int),.int .u8 (D.1.d.toNat:Int),.int .u8 (D.1.e.toNat:Int)] 109))):=hid (HR1.out.below ((Below.refl _ _).alloc (Nat.le_refl _) _))
    have HB2:Hid (Below w.heap.size w (w1.alloc (.cells #[.int .u8 (D.1.a.toNat:Int),.int .u8 (D.1.b.toNat:Int),.int .u8 (D.1.c.toNat:Int),.int .u8 (D.1.d.toNat:Int),.int .u8 (D.1.e.toNat:Int)] 109))):=hid (HB1.out.alloc HB1.out.size _)
    obtain ⟨c0,c1,c2,c3,c4,c5,c6,c7,c8,c9,c10,c11,c12,c13,c14⟩:=HR2.out.cells
    obtain ⟨f0,f1,f2,f3,f4,f5,f6,f7,f8,f9,f10,f11,f12,f13,f14⟩:=HR2.out.frz
    clear he
    go_wp2_with (fail)
    change bodyPost _ _ _ _ _ (setHd (w1.alloc (.cells #[.int .u8 (D.1.a.toNat:Int),.int .u8 (D.1.b.toNat:Int),.int .u8 (D.1.c.toNat:Int),.int .u8 (D.1.d.toNat:Int),.int .u8 (D.1.e.toNat:Int)] 109)) w.heap.size Hd.zero)
    have HR3:=hid (setHd_row HR2.out Hd.zero)
    have HB3:=hid (setHd_below HB2.out (Nat.le_refl _) Hd.zero)
    generalize setHd (w1.alloc (.cells #[.int .u8 (D.1.a.toNat:Int),.int .u8 (D.1.b.toNat:Int),.int .u8 (D.1.c.toNat:Int),.int .u8 (D.1.d.toNat:Int),.int .u8 (D.1.e.toNat:Int)] 109)) w.heap.size Hd.zero=w3 at *
    clear c0 c1 c2 c3 c4 c5 c6 c7 c8 c9 c10 c11 c12 c13 c14 f0 f1 f2 f3 f4 f5 f6 f7 f8 f9 f10 f11 f12 f13 f14
    obtain ⟨c0,c1,c2,c3,c4,c5,c6,c7,c8,c9,c10,c11,c12,c13,c14⟩:=HR3.out.cells
    refine bodyPost_ret (v:=.tuple #[Hd.zero.v,.int .i64 D.2]) ?_ rfl ⟨by rw [HE.out],HB3.out⟩
    simp [results,Tryz.results70,go_sem, *]
end
end Go.Proofs.YtodjilljcjkacaaGreatDoor
