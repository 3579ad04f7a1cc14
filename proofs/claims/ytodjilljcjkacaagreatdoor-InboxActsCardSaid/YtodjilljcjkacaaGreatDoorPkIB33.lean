/- Laid together: Ref09. -/
import Derived.Test.YtodjilljcjkacaaGreatDoorPkIB32
import Derived.BigRegion

namespace Go.Proofs.YtodjilljcjkacaaGreatDoor
open Lib (hid)
section
open Go.RowKit
theorem cutAt_head {c x:UInt8} {r:List UInt8} (h:x≠c):∃ y t,cutAt c r=y :: t∧cutAt c (x :: r)=(x :: y) :: t:=by
  cases hr:cutAt c r with
  | nil=>exact absurd hr (cutAt_ne _ _)
  | cons y t =>
    refine ⟨y,t,rfl,?_⟩
    conv=>lhs;unfold cutAt
    rw [if_neg h,hr]
theorem seg0_name {l:List UInt8} (h:(readD l).2=0):nameS (txt ((splitD l).getD 0 []))=mshB:=by
  have h3:l.take 3=[77,83,72]:=by
    unfold readD at h
    split at h
    · cases h
    · split at h
      · cases h
      · rename_i _ h2
        exact Decidable.not_not.1 (fun e=>h2 (.inl e))
  obtain ⟨r,rfl⟩:∃ r,l=77 :: 83 :: 72 :: r:=⟨l.drop 3,by have:=List.take_append_drop 3 l;rw [h3] at this;exact this.symm⟩
  obtain ⟨y1,t1,_,e1⟩:=cutAt_head (c:=13) (x:=72) (r:=r) (by decide)
  obtain ⟨y2,t2,f2,e2⟩:=cutAt_head (c:=13) (x:=83) (r:=72 :: r) (by decide)
  obtain ⟨y3,t3,f3,e3⟩:=cutAt_head (c:=13) (x:=77) (r:=83 :: 72 :: r) (by decide)
  rw [e1] at f2
  rw [e2] at f3
  obtain ⟨rfl,rfl⟩:=List.cons.inj f2
  obtain ⟨rfl,rfl⟩:=List.cons.inj f3
  have hz:(splitD (77 :: 83 :: 72 :: r)).getD 0 []=77 :: 83 :: 72 :: y1:=by
    unfold splitD
    rw [e3]
    split
    · rename_i hl
      cases t1 with
      | nil=>simp at hl
      | cons b t=>rfl
    · rfl
  rw [hz]
  exact nameS_of mshB y1 rfl
def RetOs (w:World) (T:List (List UInt8)) (e:Ending) (w':World):Prop :=
  ∃ v,e=.returned v∧OwnS w' w.heap.size v T∧Below w.heap.size w w'
set_option maxHeartbeats 8000000 in
set_option maxRecDepth 100000 in
theorem refFieldsM (s:ByteArray) (d:Sgn) (w:World) (hs:s.size≤1000000) (hm:nameS s=mshB):Calls Tryz.prog 121 #[.string s,d.v] w (RetOs w (fieldsD s d.a)):=by
  have HB0:=hid (boxSgn_below d w)
  have HX0:Hid (BoxS d w.heap.size (boxSgn d w)):=hid (heap_alloc_new w _)
  have HS:=hid hs
  obtain ⟨c0,c1,c2,c3,c4⟩:=HX0.out.cells
  clear hs
  · have d1:=name_t hm
    by_cases h4:s.size<4
    · have d2:decide ((s.size:Int)<4)=true:=by simp;omega
      have hf:fieldsD s d.a=[]:=by
        unfold fieldsD
        rw [if_pos hm]
        unfold behD
        rw [if_neg (by omega)]
      have HFF:=hid hf
      clear hf hm h4
      go_enter Tryz.func121,Tryz.ntmps121
      go_wp2_with (fail)
      refine (refName8 s _).mono ?_
      rintro e w1 ⟨rfl,rfl⟩
      go_wp2_with (fail)
      go_quiet (fail)
      go_wp2_with (fail)
      go_ret
      exact ⟨_,rfl,by rw [HFF.out];exact OwnS.nil _ _,drawN_below HB0.out _⟩
    · have d2:decide ((s.size:Int)<4)=false:=by simp;omega
      have h3:3<s.size:=by omega
      have ix:=fun W=>strIdx s 3 h3 3 rfl W
      have hix:s.data[3]'h3=s.data.toList.getD 3 0:=by
        rw [List.getD_eq_getElem?_getD,List.getElem?_eq_getElem (by simpa using h3)];rfl
      by_cases hc:s.data.toList.getD 3 0=d.a
      · have d3:((((s.data[3]'h3).toNat:Nat):Int) != ((d.a.toNat:Nat):Int))=false:=by rw [hix,hc];simp
        have d4:((((s[3]'h3).toNat:Nat):Int) != ((d.a.toNat:Nat):Int))=false:=d3
        have hb:behD s d.a=some (s.extract 4 s.size):=if_pos ⟨h3,hc⟩
        have hex:s.extract 3 4=txt [d.a]:=by
          apply ba_ext
          rw [ex_list,List.drop_eq_getElem_cons (by simpa using h3)]
          rw [show 4-3=1 from rfl,List.take_succ_cons,List.take_zero]
          rw [← hc,List.getD_eq_getElem?_getD,List.getElem?_eq_getElem (by simpa using h3)]
          rfl
        have hf:fieldsD s d.a=[d.a] :: cutAt d.a (s.extract 4 s.size).data.toList:=by unfold fieldsD;rw [if_pos hm,hb]
        have HFF:=hid hf
        have HEX:=hid hex
        have h44:(4:Int)≤s.size:=by omega
        have HR:Hid ((s.extract 4 s.size).size≤1000000):=hid (by rw [ByteArray.size_extract];have:=HS.out;omega)
        have HCL:Hid (0<(cutAt d.a (s.extract 4 s.size).data.toList).length∧(cutAt d.a (s.extract 4 s.size).data.toList).length≤1000001):=hid ⟨by rw [cutAt_length];omega,by have:=cut_le d.a (s.extract 4 s.size);have:=HR.out;omega⟩
        clear hb hf hm h4 hix hc hex
        go_enter Tryz.func121,Tryz.ntmps121
        go_wp2_with (fail)
        refine (refName8 s _).mono ?_
        rintro e w1 ⟨rfl,rfl⟩
        go_wp2_with (fail)
        go_quiet (fail)
        go_wp2_with (fail)
        have HB1:Hid (Below w.heap.size w ((boxSgn d w).drewN nq)):=hid (drawN_below HB0.out nq)
        have HX1:Hid (BoxS d w.heap.size ((boxSgn d w).drewN nq)):=hid (HX0.out.below (drawN_below (Below.refl _ _) nq))
        rw [show (w.alloc (.cells #[.int .u8 (d.a.toNat:Int),.int .u8 (d.b.toNat:Int),.int .u8 (d.c.toNat:Int),.int .u8 (d.d.toNat:Int),.int .u8 (d.e.toNat:Int)] 109)).drewN nq=(boxSgn d w).drewN nq from rfl]
        clear c0 c1 c2 c3 c4
        generalize (boxSgn d w).drewN nq=w1 at *
        obtain ⟨c0,c1,c2,c3,c4⟩:=HX1.out.cells
        have c0a:(w1.alloc (.cells #[.string (s.extract 3 4)] 9)).cell? ⟨w.heap.size,0,none⟩=some (u8 d.a):=(((Below.refl w1.heap.size w1).alloc (Nat.le_refl _) _).cell (p:=⟨w.heap.size,0,none⟩) (Array.getElem?_eq_some_iff.1 HX1.out).1).trans c0
        have tok1:Hid True:=hid trivial
        have tok2:Hid True:=hid trivial
        clear c1 c2 c3 c4 d1 d2 d3 d4 ix
        have HONE:Hid (∀ (W:World) (B:Nat),B≤W.heap.size→OwnS (W.alloc (.cells #[.string (s.extract 3 4)] 9)) B (.slice (some ⟨W.heap.size,0,none⟩) 1 1) [[d.a]]):=hid (fun W B hB=>by rw [HEX.out];exact OwnS.one W [d.a] hB)
        obtain ⟨U,hU⟩:∃ U,U=cutAt d.a (s.extract 4 s.size).data.toList:=⟨_,rfl⟩
        have HU:=hid hU
        rw [← hU] at HCL HFF
        clear hU
        go_region_law (first
          | (have _t:=tok1;go_loud (refine step_strs rfl (.tmp 25) (.tmp 30) rfl w.heap.size _ [[d.a]] rfl (by first | exact (HONE.out w1 w.heap.size HB1.out.size).below ((Below.refl _ _).drew.trans HBCC.out) | exact (HONE.out w1 w.heap.size HB1.out.size).below HBCC.out | exact HONE.out wC w.heap.size HBC.out.size) A2 U.length c2' U rfl (by first | exact HSC.out | exact HSC.out.below ((Below.refl _ _).alloc (Nat.le_refl _) _)) HCL.out.1 (by have:=HCL.out.2;simp;omega) (by first | exact HBC.out.size | exact (HBC.out.alloc HBC.out.size _).size) ?_)
             intro v3 w3 hown3 hb3 _
             have HB3:Hid (Below w.heap.size w w3):=hid (by first | exact HBC.out.trans hb3 | exact (HBC.out.alloc HBC.out.size _).trans hb3)
             have HO3:=hid hown3
             obtain ⟨A3,c3',rfl,hS3,_⟩:=hown3.ss
             have HS3:=hid hS3
             clear tok1 hown3 hb3 hS3 _t)
          | (go_simp;go_at_call 165;have _t:=tok2;go_loud ((refine (refCut (s.extract 4 s.size) d.a _ (by have:=HR.out;omega)).mono ?_;rintro e wC ⟨A2,c2',rfl,hS2,hbC⟩;rw [← HU.out] at hS2 ⊢;have HSC:=hid hS2;have HBC:Hid (Below w.heap.size w wC):=hid (by first | exact (HB1.out.alloc HB1.out.size _).drew.trans (hbC.mono (HB1.out.alloc HB1.out.size _).drew.size) | exact HB1.out.drew.trans (hbC.mono HB1.out.drew.size) | exact HB1.out.trans (hbC.mono HB1.out.size));have HBCC:=hid hbC;clear tok2 hS2 hbC _t))))
        all_goals
          go_wp2_with (fail)
          go_ret
          exact ⟨_,rfl,by rw [HFF.out];exact HO3.out,HB3.out⟩
      · have d3:((((s.data[3]'h3).toNat:Nat):Int) != ((d.a.toNat:Nat):Int))=true:=by
          rw [hix,bne_iff_ne];intro e;exact hc (UInt8.toNat_inj.1 (by omega))
        have d4:((((s[3]'h3).toNat:Nat):Int) != ((d.a.toNat:Nat):Int))=true:=d3
        have hf:fieldsD s d.a=[]:=by
          unfold fieldsD
          rw [if_pos hm]
          unfold behD
          rw [if_neg (fun h=>hc h.2)]
        have HFF:=hid hf
        clear hf hm h4 hix hc
        go_enter Tryz.func121,Tryz.ntmps121
        go_wp2_with (fail)
        refine (refName8 s _).mono ?_
        rintro e w1 ⟨rfl,rfl⟩
        go_wp2_with (fail)
        go_quiet (fail)
        go_wp2_with (fail)
        go_ret
        exact ⟨_,rfl,by rw [HFF.out];exact OwnS.nil _ _,drawN_below HB0.out _⟩
def sliceLen:Value→Nat
  | .slice _ n _=>n
  | _=>0
def padD (F:List (List UInt8)) (j:Nat):List (List UInt8):=F++List.replicate j []
theorem padD_zero (F:List (List UInt8)):padD F 0=F:=by simp [padD]
theorem padD_succ (F:List (List UInt8)) (j:Nat):padD F j++[[]]=padD F (j+1):=by
  unfold padD
  rw [List.append_assoc,← List.replicate_succ']
theorem padD_len (F:List (List UInt8)) (j:Nat):(padD F j).length=F.length+j:=by simp [padD]
theorem padD_getD (F:List (List UInt8)) (j i:Nat):(padD F j).getD i []=F.getD i []:=by
  unfold padD
  rw [List.getD_eq_getElem?_getD,List.getD_eq_getElem?_getD]
  rcases Nat.lt_or_ge i F.length with h|h
  · rw [List.getElem?_append_left h]
  · rw [List.getElem?_append_right h,List.getElem?_eq_none h]
    cases hx:(List.replicate j ([]:List UInt8))[i-F.length]? with
    | none=>rfl
    | some y =>
      have:=List.eq_of_mem_replicate (List.mem_of_getElem? hx)
      subst this
      rfl
theorem BoxS.keep {d:Sgn} {g B:Nat} {w w':World} (k:BoxS d g w) (hb:Below B w w') (hg:g<B):BoxS d g w':=(hb.block g hg).trans k
theorem pad_cell {w:World} {B g c j:Nat} {F:List (List UInt8)} (h:OwnS w B (.slice (some ⟨g,0,none⟩) (padD F j).length c) (padD F j)) (i:Nat) (hi:2+i<(padD F j).length):w.cell? ⟨g,2+i,none⟩=some (.string (textsD F i)):=by
  rw [h.cell (j:=2+i) (x:=(padD F j).getD (2+i) []) (by rw [List.getD_eq_getElem?_getD,List.getElem?_eq_getElem hi];rfl),padD_getD]
  rfl
theorem idxAt (g M c k:Nat) (z:Int) (hz:z=(k:Int)) (h:k<M) (W:World):(Instr.indexAt 135 (.slice (some ⟨g,0,none⟩) M c) (.int .i64 z)).run Tryz.prog W=.ok (.pointer (some ⟨g,k,none⟩)) W:=by
  subst hz
  simp [Instr.indexAt,asIntOf,run_underlying Tryz.underlying135,go_sem]
  intro h3
  omega
set_option maxHeartbeats 16000000 in
set_option maxRecDepth 100000 in
theorem refRead09 (A:Option Addr) (n c:Nat) (l:List UInt8) (w:World) (hB:Bs w A n c l) (hn:n≤1000000) :
    Calls Tryz.prog 86 #[.slice A n c] w fun e w'=>e=.returned (.tuple #[(readH l).1.v,.int .i64 (readH l).2])∧Below w.heap.size w w':=by
  have HL:=hid hB.len
  have HN:=hid hn
  have HR0:Hid (BoxH Hd.zero w.heap.size (w.alloc (.cells Hd.zero.cells TH))):=hid (BoxH.new _ w)
  have HB0:Hid (Below w.heap.size w (w.alloc (.cells Hd.zero.cells TH))):=hid (boxHd_below _ w)
  have HBS:=hid (hB.below (boxHd_below Hd.zero w))
  clear hB hn
  go_enter Tryz.func86,Tryz.ntmps86
  go_wp2_with (fail)
  generalize hw0:w.alloc (.cells #[.int .u8 0,.int .u8 0,.int .u8 0,.int .u8 0,.int .u8 0,.string ⟨#[]⟩,.string ⟨#[]⟩,.string ⟨#[]⟩,.string ⟨#[]⟩,.string ⟨#[]⟩,.string ⟨#[]⟩,.string ⟨#[]⟩,.string ⟨#[]⟩,.string ⟨#[]⟩,.string ⟨#[]⟩] TH)=w0
  rw [show w.alloc (.cells Hd.zero.cells TH)=w0 from hw0] at HR0 HB0 HBS
  clear hw0
  refine (refRead A n c l w0 HBS.out).mono ?_
  rintro e w1 ⟨rfl,hb1⟩
  have HR1:=hid (HR0.out.below hb1)
  have HB1:=hid (HB0.out.trans (hb1.mono HB0.out.size))
  have HBS1:=hid (HBS.out.below hb1)
  clear hb1
  by_cases he:(readD l).2=0
  · have HE0:Hid (readH l=if (fieldsD (txt ((splitD l).getD 0 [])) (readD l).1.a).getD 1 []=[(readD l).1.b,(readD l).1.c,(readD l).1.d,(readD l).1.e] then (hdTo (readD l).1 (textsD (fieldsD (txt ((splitD l).getD 0 [])) (readD l).1.a)) 10,0) else (Hd.zero,11)):=hid (if_pos he)
    have HSP:Hid (0<(splitD l).length):=hid (splitD_pos (by have:=readD_long he;omega))
    have HXL:Hid (((splitD l).getD 0 []).length≤n):=hid (by rw [← HL.out];exact splitD_le)
    have HNM0:=hid (seg0_name he)
    rw [he]
    obtain ⟨d,hd⟩:∃ d,d=(readD l).1:=⟨_,rfl⟩
    rw [← hd] at HE0 ⊢
    have HR2:Hid (BoxH Hd.zero w.heap.size (w1.alloc (.cells #[.int .u8 (d.a.toNat:Int),.int .u8 (d.b.toNat:Int),.int .u8 (d.c.toNat:Int),.int .u8 (d.d.toNat:Int),.int .u8 (d.e.toNat:Int)] 109))):=hid (HR1.out.below ((Below.refl _ _).alloc (Nat.le_refl _) _))
    have HB2:Hid (Below w.heap.size w (w1.alloc (.cells #[.int .u8 (d.a.toNat:Int),.int .u8 (d.b.toNat:Int),.int .u8 (d.c.toNat:Int),.int .u8 (d.d.toNat:Int),.int .u8 (d.e.toNat:Int)] 109))):=hid (HB1.out.alloc HB1.out.size _)
    have HD2:Hid (BoxS d w1.heap.size (w1.alloc (.cells #[.int .u8 (d.a.toNat:Int),.int .u8 (d.b.toNat:Int),.int .u8 (d.c.toNat:Int),.int .u8 (d.d.toNat:Int),.int .u8 (d.e.toNat:Int)] 109))):=hid (heap_alloc_new w1 _)
    have HBS2:Hid (Bs (w1.alloc (.cells #[.int .u8 (d.a.toNat:Int),.int .u8 (d.b.toNat:Int),.int .u8 (d.c.toNat:Int),.int .u8 (d.d.toNat:Int),.int .u8 (d.e.toNat:Int)] 109)) A n c l):=hid (HBS1.out.alloc _)
    have HDN:Hid (w.heap.size<w1.heap.size):=hid (Array.getElem?_eq_some_iff.1 HR1.out).1
    clear he hd
    go_wp2_with (fail)
    generalize w1.alloc (.cells #[.int .u8 (d.a.toNat:Int),.int .u8 (d.b.toNat:Int),.int .u8 (d.c.toNat:Int),.int .u8 (d.d.toNat:Int),.int .u8 (d.e.toNat:Int)] 109)=w2 at *
    generalize w1.heap.size=D at *
    refine (refSplit A n c l w2 HBS2.out HN.out).mono ?_
    rintro e w3 ⟨A2,c2,rfl,hS,hb3⟩
    have HR3:=hid (HR2.out.below hb3)
    have HB3:=hid (HB2.out.trans (hb3.mono HB2.out.size))
    have HD3:=hid (HD2.out.below hb3)
    obtain ⟨b,o,rfl,_,hc⟩:=hS.read HSP.out
    rw [Nat.add_zero] at hc
    have h0:(0:Int)<((splitD l).length:Int):=by have:=HSP.out;omega
    obtain ⟨s,hs⟩:∃ s:ByteArray,s=txt ((splitD l).getD 0 []):=⟨_,rfl⟩
    rw [show str ((splitD l).getD 0 [])=.string s from congrArg Value.string hs.symm] at hc
    rw [← hs] at HE0 HNM0
    have HSZ:Hid (s.size≤1000000):=hid (by rw [hs,txt_size'];have:=HXL.out;have:=HN.out;omega)
    obtain ⟨c0,c1,c2',c3,c4⟩:=HD3.out.cells
    obtain ⟨m,hm⟩:∃ m,m=(splitD l).length:=⟨_,rfl⟩
    rw [← hm] at h0 ⊢
    clear hb3 hS hs hm HR1 HB1 HBS1 HR2 HB2 HD2 HBS2
    go_wp2_with (fail)
    have HDB:Hid (D<w3.heap.size∧w.heap.size<w3.heap.size):=hid ⟨(Array.getElem?_eq_some_iff.1 HD3.out).1,(Array.getElem?_eq_some_iff.1 HR3.out).1⟩
    refine (refFieldsM s d w3 HSZ.out HNM0.out).mono ?_
    rintro e w4 ⟨v4,rfl,hO4,hb4⟩
    have HR4:=hid (HR3.out.below hb4)
    have HB4:=hid (HB3.out.trans (hb4.mono HB3.out.size))
    have HD4:=hid (HD3.out.below hb4)
    have HBZ:=hid hb4.size
    obtain ⟨Fl,hF⟩:∃ Fl,Fl=fieldsD s d.a:=⟨_,rfl⟩
    rw [← hF] at HE0 hO4
    have HFN:Hid (Fl.length≤1000001):=hid (by have:=fieldsD_len s d.a;rw [hF];have:=HSZ.out;omega)
    clear hb4 hF c0 c1 c2' c3 c4 hc HR3 HB3 HD3
    by_cases hl2:Fl.length<2
    · as_aux_lemma =>
      have HE:Hid (readH l=(Hd.zero,11)):=hid (by
        rw [HE0.out,if_neg]
        rw [List.getD_eq_getElem?_getD,List.getElem?_eq_none (by omega)]
        exact fun e=>by cases e)
      obtain ⟨A4,c4',rfl,_,_⟩:=hO4.ss
      obtain ⟨L,hL⟩:∃ L,L=Fl.length:=⟨_,rfl⟩
      rw [← hL] at hl2 ⊢
      have d1:decide ((L:Int)<2)=true:=by simp;omega
      have d2:(L:Int)<2:=by omega
      clear hO4 hL hl2
      go_wp2_with (fail)
      go_quiet (fail)
      have HR5:=hid (HR4.out.below (drawN_below (Below.refl _ _) nq))
      have HB5:=hid (drawN_below HB4.out nq)
      generalize w4.drewN nq=w5 at *
      go_wp2_with (with_reducible refine wpList_storeH w.heap.size Hd.zero Hd.zero (by kernel_rfl) (by kernel_rfl) HR5.out ?_)
      have HR6:=hid (HR5.out.setRow Hd.zero)
      have HB6:=hid (below_setRow HB5.out (Nat.le_refl _) Hd.zero.cells)
      generalize w5.setRow w.heap.size Hd.zero.cells=w6 at *
      refine bodyPost_ret (v:=.tuple #[Hd.zero.v,.int .i64 11]) ?_ rfl ⟨by rw [HE.out],HB6.out⟩
      exact resultsH Tryz.results86 _ _ _ _ _ (by kernel_rfl) (by kernel_rfl) HR6.out
    · obtain ⟨g4,c4',rfl,hg4,hg4',hcap,_⟩:=hO4.form (by omega)
      have HO4:=hid hO4
      have hx1:=hO4.cell (j:=1) (x:=Fl.getD 1 []) (by rw [List.getD_eq_getElem?_getD,List.getElem?_eq_getElem (by omega)];rfl)
      have HLN:Hid (2≤Fl.length):=hid (by omega)
      obtain ⟨x,hx⟩:∃ x,x=Fl.getD 1 []:=⟨_,rfl⟩
      rw [← hx] at hx1 HE0
      have HPL:=hid (padD_len Fl)
      obtain ⟨L,hL⟩:∃ L,L=Fl.length:=⟨_,rfl⟩
      rw [← hL] at HO4 HLN HFN HPL hl2 ⊢
      have d1:decide ((L:Int)<2)=false:=by simp;omega
      have d3:(1:Int)<(L:Int):=by omega
      have HLF:=hid hL
      obtain ⟨c0,c1,c2',c3,c4⟩:=HD4.out.cells
      clear hx hO4 hL hl2 hcap
      have HR5:Hid (BoxH Hd.zero w.heap.size (w4.alloc (.cells #[u8 d.b,u8 d.c,u8 d.d,u8 d.e] 5))):=hid (HR4.out.below ((Below.refl _ _).alloc (Nat.le_refl _) _))
      have HB5:Hid (Below w.heap.size w (w4.alloc (.cells #[u8 d.b,u8 d.c,u8 d.d,u8 d.e] 5))):=hid (HB4.out.alloc HB4.out.size _)
      have HD5:Hid (BoxS d D (w4.alloc (.cells #[u8 d.b,u8 d.c,u8 d.d,u8 d.e] 5))):=hid (HD4.out.below ((Below.refl _ _).alloc (Nat.le_refl _) _))
      have HO5:Hid (OwnS (w4.alloc (.cells #[u8 d.b,u8 d.c,u8 d.d,u8 d.e] 5)) w3.heap.size (.slice (some ⟨g4,0,none⟩) L c4') Fl):=hid (HO4.out.below ((Below.refl _ _).alloc (Nat.le_refl _) _))
      have HBS5:Hid (Bs (w4.alloc (.cells #[u8 d.b,u8 d.c,u8 d.d,u8 d.e] 5)) (some ⟨w4.heap.size,0,none⟩) 4 4 [d.b,d.c,d.d,d.e]):=hid (Bs.lit w4 [d.b,d.c,d.d,d.e] 5 _ _ rfl rfl rfl (by simp [maxLen]))
      have y1:(w4.alloc (.cells #[u8 d.b,u8 d.c,u8 d.d,u8 d.e] 5)).cell? ⟨g4,1,none⟩=some (str x):=(((Below.refl w4.heap.size w4).alloc (Nat.le_refl _) _).cell (p:=⟨g4,1,none⟩) hg4').trans hx1
      have hcv:=HBS5.out.str (P:=Tryz.prog) 40 5 9 Tryz.underlying40 Tryz.underlying5 Tryz.underlying9
      have hcd:=(HBS5.out.drew).str (P:=Tryz.prog) 40 5 9 Tryz.underlying40 Tryz.underlying5 Tryz.underlying9
      have hne4:g4≠w4.heap.size:=by omega
      have hneD:D≠w4.heap.size:=by have:=HDB.out;have:=HBZ.out;omega
      go_wp2_with (fail)
      go_region
      have HWZ:Hid (w3.heap.size≤(w4.alloc (.cells #[u8 d.b,u8 d.c,u8 d.d,u8 d.e] 5)).drew.heap.size):=hid (by show w3.heap.size≤(w4.alloc _).heap.size;rw [World.size_alloc];have:=HBZ.out;omega)
      have HR6:Hid (BoxH Hd.zero w.heap.size (w4.alloc (.cells #[u8 d.b,u8 d.c,u8 d.d,u8 d.e] 5)).drew):=HR5
      have HB6:Hid (Below w.heap.size w (w4.alloc (.cells #[u8 d.b,u8 d.c,u8 d.d,u8 d.e] 5)).drew):=hid HB5.out.drew
      have HD6:Hid (BoxS d D (w4.alloc (.cells #[u8 d.b,u8 d.c,u8 d.d,u8 d.e] 5)).drew):=HD5
      have HO6:Hid (OwnS (w4.alloc (.cells #[u8 d.b,u8 d.c,u8 d.d,u8 d.e] 5)).drew w3.heap.size (.slice (some ⟨g4,0,none⟩) L c4') Fl):=HO5
      generalize (w4.alloc (.cells #[u8 d.b,u8 d.c,u8 d.d,u8 d.e] 5)).drew=w5 at *
      clear HR4 HB4 HD4 HR5 HB5 HD5 HO5 HBS5 y1 hcv hcd hne4 hneD c0 c1 c2' c3 c4 hx1 HO4 hg4'
      by_cases hq:x=[d.b,d.c,d.d,d.e]
      · as_aux_lemma =>
        have HE:Hid (readH l=(hdTo d (textsD Fl) 10,0)):=hid (by rw [HE0.out,if_pos hq])
        rw [show (x == [d.b,d.c,d.d,d.e])=true by simpa using hq,Bool.not_true]
        clear hq HE0
        go_wp2_with (fail)
        clear d1 d3
        go_loopw [7] (fun v wr=>∃ j,OwnS wr w3.heap.size v (padD Fl j)∧(j=0∨(padD Fl j).length≤12)∧Below w3.heap.size w5 wr) (fun v _=>12-sliceLen v)
        case atStart=>exact ⟨0,by rw [padD_zero];exact HO6.out,.inl rfl,Below.refl _ _⟩
        case round =>
          clear HO6
          obtain ⟨wo,rfl⟩:∃ wo:World,wo=wr:=⟨_,rfl⟩
          obtain ⟨j,ho,hj,hb⟩:=hrel
          have HO:=hid ho
          have HB:=hid hb
          have HM0:=hid (padD_len Fl j)
          have HWB:Hid (w3.heap.size≤w5.heap.size):=HWZ
          clear hb
          by_cases hlt:(padD Fl j).length<12
          · as_aux_lemma =>
            obtain ⟨A6,c6,rfl,_,_⟩:=ho.ss
            obtain ⟨M,hM⟩:∃ M,M=(padD Fl j).length:=⟨_,rfl⟩
            rw [← hM] at hlt HO HM0 ⊢
            have d5:decide ((M:Int)<12)=true:=by simp;omega
            have HLT:=hid hlt
            have HMM:=hid hM
            have tok1:Hid True:=hid trivial
            clear ho hj hlt hM
            go_wp2_with (at_builtin;have _t:=tok1;go_loud ((refine wpList_str rfl (.tmp 47) (.tmp 48) rfl w3.heap.size _ (padD Fl j) rfl (HO.out.below ((Below.refl _ wo).alloc (Nat.le_refl _) _)) wo.heap.size [] rfl (heap_alloc_new wo _) (by rw [← HMM.out];have:=HLT.out;omega) (by have:=HB.out.size;have:=HWB.out;simp;omega) ?_;intro v' w' hown hbel hgr;rw [padD_succ] at hown;obtain ⟨A7,c7,rfl,_,_⟩:=hown.ss;have HOWN:=hid hown;have HB3:Hid (Below w3.heap.size w5 w'):=hid ((HB.out.alloc (Nat.le_trans HWB.out HB.out.size) _).trans hbel);have HM1:Hid ((padD Fl (j+1)).length=M+1):=hid (by rw [padD_len];have:=HM0.out;omega);clear tok1 hown hbel hgr _t)))
            go_roundw
            case rel=>exact ⟨j+1,HOWN.out,.inr (by rw [HM1.out];have:=HLT.out;omega),HB3.out⟩
            case measure=>rw [HM1.out];have:=HLT.out;simp only [sliceLen];omega
          · as_aux_lemma =>
            obtain ⟨g6,c6,rfl,hg6,_,_,_⟩:=ho.form (by omega)
            have HDW:=hid (HD6.out.keep HB.out HDB.out.1)
            have HRW:=hid (HR6.out.keep HB.out HDB.out.2)
            have HBW:Hid (Below w.heap.size w wo):=hid (HB6.out.trans (HB.out.mono (by have:=HDB.out.2;omega)))
            have p0:wo.cell? ⟨g6,2,none⟩=some (.string (textsD Fl 0)):=pad_cell ho 0 (by omega)
            have p1:wo.cell? ⟨g6,3,none⟩=some (.string (textsD Fl 1)):=pad_cell ho 1 (by omega)
            have p2:wo.cell? ⟨g6,4,none⟩=some (.string (textsD Fl 2)):=pad_cell ho 2 (by omega)
            have p3:wo.cell? ⟨g6,5,none⟩=some (.string (textsD Fl 3)):=pad_cell ho 3 (by omega)
            have p4:wo.cell? ⟨g6,6,none⟩=some (.string (textsD Fl 4)):=pad_cell ho 4 (by omega)
            have p5:wo.cell? ⟨g6,7,none⟩=some (.string (textsD Fl 5)):=pad_cell ho 5 (by omega)
            have p6:wo.cell? ⟨g6,8,none⟩=some (.string (textsD Fl 6)):=pad_cell ho 6 (by omega)
            have p7:wo.cell? ⟨g6,9,none⟩=some (.string (textsD Fl 7)):=pad_cell ho 7 (by omega)
            have p8:wo.cell? ⟨g6,10,none⟩=some (.string (textsD Fl 8)):=pad_cell ho 8 (by omega)
            have p9:wo.cell? ⟨g6,11,none⟩=some (.string (textsD Fl 9)):=pad_cell ho 9 (by omega)
            obtain ⟨M,hM⟩:∃ M,M=(padD Fl j).length:=⟨_,rfl⟩
            rw [← hM] at hlt HO HM0 ⊢
            have d5:decide ((M:Int)<12)=false:=by simp;omega
            have i2:=fun W=>idxAt g6 M c6 2 2 rfl (by omega) W
            have i3:=fun W=>idxAt g6 M c6 3 3 rfl (by omega) W
            have i4:=fun W=>idxAt g6 M c6 4 4 rfl (by omega) W
            have i5:=fun W=>idxAt g6 M c6 5 5 rfl (by omega) W
            have i6:=fun W=>idxAt g6 M c6 6 6 rfl (by omega) W
            have i7:=fun W=>idxAt g6 M c6 7 7 rfl (by omega) W
            have i8:=fun W=>idxAt g6 M c6 8 8 rfl (by omega) W
            have i9:=fun W=>idxAt g6 M c6 9 9 rfl (by omega) W
            have i10:=fun W=>idxAt g6 M c6 10 10 rfl (by omega) W
            have i11:=fun W=>idxAt g6 M c6 11 11 rfl (by omega) W
            obtain ⟨c0,c1,c2',c3,c4⟩:=HDW.out.cells
            obtain ⟨t0,ht0⟩:∃ t,t=textsD Fl 0:=⟨_,rfl⟩
            obtain ⟨t1,ht1⟩:∃ t,t=textsD Fl 1:=⟨_,rfl⟩
            obtain ⟨t2,ht2⟩:∃ t,t=textsD Fl 2:=⟨_,rfl⟩
            obtain ⟨t3,ht3⟩:∃ t,t=textsD Fl 3:=⟨_,rfl⟩
            obtain ⟨t4,ht4⟩:∃ t,t=textsD Fl 4:=⟨_,rfl⟩
            obtain ⟨t5,ht5⟩:∃ t,t=textsD Fl 5:=⟨_,rfl⟩
            obtain ⟨t6,ht6⟩:∃ t,t=textsD Fl 6:=⟨_,rfl⟩
            obtain ⟨t7,ht7⟩:∃ t,t=textsD Fl 7:=⟨_,rfl⟩
            obtain ⟨t8,ht8⟩:∃ t,t=textsD Fl 8:=⟨_,rfl⟩
            obtain ⟨t9,ht9⟩:∃ t,t=textsD Fl 9:=⟨_,rfl⟩
            have HQ:Hid (hdTo d (textsD Fl) 10=⟨d,t0,t1,t2,t3,t4,t5,t6,t7,t8,t9⟩):=hid (by rw [ht0,ht1,ht2,ht3,ht4,ht5,ht6,ht7,ht8,ht9];rfl)
            rw [← ht0] at p0
            rw [← ht1] at p1
            rw [← ht2] at p2
            rw [← ht3] at p3
            rw [← ht4] at p4
            rw [← ht5] at p5
            rw [← ht6] at p6
            rw [← ht7] at p7
            rw [← ht8] at p8
            rw [← ht9] at p9
            clear ht0 ht1 ht2 ht3 ht4 ht5 ht6 ht7 ht8 ht9
            have hne1:D≠w.heap.size:=by have:=HDN.out;omega
            have hne2:g6≠w.heap.size:=by have:=HDB.out.2;omega
            clear ho hj hlt hM
            go_wp2_with (fail)
            have q0:=Here.cell c0
            have q1:=Here.cell c1
            have q2:=Here.cell c2'
            have q3:=Here.cell c3
            have q4:=Here.cell c4
            have q5:=Here.cell p0
            have q6:=Here.cell p1
            have q7:=Here.cell p2
            have q8:=Here.cell p3
            have q9:=Here.cell p4
            have q10:=Here.cell p5
            have q11:=Here.cell p6
            have q12:=Here.cell p7
            have q13:=Here.cell p8
            have q14:=Here.cell p9
            clear c0 c1 c2' c3 c4 p0 p1 p2 p3 p4 p5 p6 p7 p8 p9
            clear hne1 hne2 HM0 HPL HFN HLN HLF HWB HWZ HBZ HDB HDN HSZ HN HL HXL HSP HNM0 HO HB d5 h0 hg6 hg4
            refine region_tail 31 (by kernel_rfl) (by kernel_rfl) ?_
            simp only [List.take_succ_cons,List.take_zero,List.drop_succ_cons,List.drop_zero]
            repeat (go_big_quiet_step (fail))
            refine wpQuiet_nil ?_
            clear q0 q1 q2 q3 q4 q5 q6 q7 q8 q9 q10 q11 q12 q13 q14
            have HRD:Hid (BoxH Hd.zero w.heap.size wo.drew):=hid (BoxH.drew HRW.out)
            have HBD:Hid (Below w.heap.size w wo.drew):=hid HBW.out.drew
            generalize wo.drew=wd at *
            as_aux_lemma =>
            go_wp2_with (first | (with_reducible refine wpList_buildH (⟨d,t0,t1,t2,t3,t4,t5,t6,t7,t8,t9⟩:Hd) (⟨d,t0,t1,t2,t3,t4,t5,t6,t7,t8,t9⟩:Hd).parts (by kernel_rfl) (built_parts _) ?_) | (with_reducible refine wpList_storeH w.heap.size (⟨d,t0,t1,t2,t3,t4,t5,t6,t7,t8,t9⟩:Hd) Hd.zero (by kernel_rfl) (by kernel_rfl) HRD.out ?_))
            have HR3:=hid (HRD.out.setRow (⟨d,t0,t1,t2,t3,t4,t5,t6,t7,t8,t9⟩:Hd))
            have HB3:=hid (below_setRow HBD.out (Nat.le_refl _) (⟨d,t0,t1,t2,t3,t4,t5,t6,t7,t8,t9⟩:Hd).cells)
            generalize wd.setRow w.heap.size (⟨d,t0,t1,t2,t3,t4,t5,t6,t7,t8,t9⟩:Hd).cells=w3' at *
            refine bodyPost_ret (v:=.tuple #[(⟨d,t0,t1,t2,t3,t4,t5,t6,t7,t8,t9⟩:Hd).v,.int .i64 0]) ?_ rfl ⟨by rw [HE.out,HQ.out],HB3.out⟩
            exact resultsH Tryz.results86 _ _ _ _ _ (by kernel_rfl) (by kernel_rfl) HR3.out
      · as_aux_lemma =>
        have HE:Hid (readH l=(Hd.zero,11)):=hid (by rw [HE0.out,if_neg hq])
        rw [show (x == [d.b,d.c,d.d,d.e])=false by simpa using hq,Bool.not_false]
        clear hq HE0
        go_wp2_with (with_reducible refine wpList_storeH w.heap.size Hd.zero Hd.zero (by kernel_rfl) (by kernel_rfl) HR6.out ?_)
        have HR7:=hid (HR6.out.setRow Hd.zero)
        have HB7:=hid (below_setRow HB6.out (Nat.le_refl _) Hd.zero.cells)
        generalize w5.setRow w.heap.size Hd.zero.cells=w6 at *
        refine bodyPost_ret (v:=.tuple #[Hd.zero.v,.int .i64 11]) ?_ rfl ⟨by rw [HE.out],HB7.out⟩
        exact resultsH Tryz.results86 _ _ _ _ _ (by kernel_rfl) (by kernel_rfl) HR7.out
  · as_aux_lemma =>
    have HE:Hid (readH l=(Hd.zero,(readD l).2)):=hid (if_neg he)
    have de:(((readD l).2) == 0)=false:=by simpa using he
    have de2:(((readD l).2) != 0)=true:=by simpa using he
    obtain ⟨D,hD⟩:∃ D,D=readD l:=⟨_,rfl⟩
    rw [← hD] at HE de de2 ⊢
    clear hD
    have HR2:Hid (BoxH Hd.zero w.heap.size (w1.alloc (.cells #[.int .u8 (D.1.a.toNat:Int),.int .u8 (D.1.b.toNat:Int),.int .u8 (D.1.c.toNat:Int),.int .u8 (D.1.d.toNat:Int),.int .u8 (D.1.e.toNat:Int)] 109))):=hid (HR1.out.below ((Below.refl _ _).alloc (Nat.le_refl _) _))
    have HB2:Hid (Below w.heap.size w (w1.alloc (.cells #[.int .u8 (D.1.a.toNat:Int),.int .u8 (D.1.b.toNat:Int),.int .u8 (D.1.c.toNat:Int),.int .u8 (D.1.d.toNat:Int),.int .u8 (D.1.e.toNat:Int)] 109))):=hid (HB1.out.alloc HB1.out.size _)
    clear he
    go_wp2_with (with_reducible refine wpList_storeH w.heap.size Hd.zero Hd.zero (by kernel_rfl) (by kernel_rfl) HR2.out ?_)
    have HR3:=hid (HR2.out.setRow Hd.zero)
    have HB3:=hid (below_setRow HB2.out (Nat.le_refl _) Hd.zero.cells)
    generalize World.setRow (w1.alloc (.cells #[.int .u8 (D.1.a.toNat:Int),.int .u8 (D.1.b.toNat:Int),.int .u8 (D.1.c.toNat:Int),.int .u8 (D.1.d.toNat:Int),.int .u8 (D.1.e.toNat:Int)] 109)) w.heap.size Hd.zero.cells=w3 at *
    refine bodyPost_ret (v:=.tuple #[Hd.zero.v,.int .i64 D.2]) ?_ rfl ⟨by rw [HE.out],HB3.out⟩
    exact resultsH Tryz.results86 _ _ _ _ _ (by kernel_rfl) (by kernel_rfl) HR3.out
end
end Go.Proofs.YtodjilljcjkacaaGreatDoor
