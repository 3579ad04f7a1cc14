/- Laid together: Ref09w, RefBld10, Ref04I. -/
import Derived.Test.YtodjilljcjkacaaGreatDoorPkIB33

namespace Go.Proofs.YtodjilljcjkacaaGreatDoor
open Lib (hid)
section
open Go.RowKit
theorem OwnS.cut {w:World} {B g c k:Nat} {T:List (List UInt8)} {n:Nat} (h:OwnS w B (.slice (some ⟨g,0,none⟩) n c) T) (hk:k≤T.length):OwnS w B (.slice (some ⟨g,0,none⟩) k c) (T.take k):=by
  have hl:(T.take k).length=k:=by rw [List.length_take];omega
  obtain ⟨_,⟨h0,_⟩|⟨g',cap,cur,e,h1,h2,h3,h4,h5,h6⟩⟩:=h
  · cases h0
  · injection e with e1 e2 e3
    injection e1 with e1
    injection e1 with e1
    subst e1 e2 e3
    refine ⟨by simp,.inr ⟨g,c,cur,by rw [hl],h1,h2,by omega,h4,h5,?_⟩⟩
    rw [hl,List.map_take,← h6,List.take_take]
    congr 1
    omega
theorem lensL2 (a b:List UInt8) (T:List (List UInt8)):Lib.lens ([a,b]++T)=a.length+(b.length+Lib.lens T):=by simp [Lib.lens]
set_option maxHeartbeats 2000000 in
set_option maxRecDepth 100000 in
theorem refTexts (h:Hd) (w:World):Calls Tryz.prog 169 #[h.v] w fun e w'=>∃ g,e=.returned (.slice (some ⟨g,0,none⟩) 10 10)∧OwnS w' w.heap.size (.slice (some ⟨g,0,none⟩) 10 10) (h.l.map (·.data.toList))∧Below w.heap.size w w':=by
  have HB0:=hid (boxHd_below h w)
  have HRW:Hid (((w.alloc (.cells #[u8 h.d.a,u8 h.d.b,u8 h.d.c,u8 h.d.d,u8 h.d.e,.string h.a0,.string h.a1,.string h.a2,.string h.a3,.string h.a4,.string h.a5,.string h.a6,.string h.a7,.string h.a8,.string h.a9] TH)).alloc (.cells #[.string h.a0,.string h.a1,.string h.a2,.string h.a3,.string h.a4,.string h.a5,.string h.a6,.string h.a7,.string h.a8,.string h.a9] 9)).heap[w.heap.size+1]?=some (.cells #[.string h.a0,.string h.a1,.string h.a2,.string h.a3,.string h.a4,.string h.a5,.string h.a6,.string h.a7,.string h.a8,.string h.a9] 9)):=hid (by
    have t:=heap_alloc_new (w.alloc (.cells #[u8 h.d.a,u8 h.d.b,u8 h.d.c,u8 h.d.d,u8 h.d.e,.string h.a0,.string h.a1,.string h.a2,.string h.a3,.string h.a4,.string h.a5,.string h.a6,.string h.a7,.string h.a8,.string h.a9] TH)) (.cells #[.string h.a0,.string h.a1,.string h.a2,.string h.a3,.string h.a4,.string h.a5,.string h.a6,.string h.a7,.string h.a8,.string h.a9] 9)
    rw [World.size_alloc] at t
    exact t)
  go_enter Tryz.func169,Tryz.ntmps169
  go_wp2_with (fail)
  go_ret
  exact ⟨w.heap.size+1,rfl,⟨rfl,.inr ⟨w.heap.size+1,10,#[.string h.a0,.string h.a1,.string h.a2,.string h.a3,.string h.a4,.string h.a5,.string h.a6,.string h.a7,.string h.a8,.string h.a9],rfl,Nat.le_succ _,HRW.out,Nat.le_refl _,by simp [maxLen],rfl,rfl⟩⟩,HB0.out.alloc HB0.out.size _⟩
set_option maxHeartbeats 16000000 in
set_option maxRecDepth 100000 in
theorem refWrite09 (h:Hd) (w:World) (hb:Lib.lens (h.l.map (·.data.toList))≤1000000) :
    Calls Tryz.prog 129 #[h.v] w fun e w'=>e=.returned (.tuple #[str (writeH h).1,.int .i64 (writeH h).2])∧Below w.heap.size w w':=by
  have HX0:=hid (BoxH.new h w)
  have HB0:=hid (boxHd_below h w)
  have HLB:=hid hb
  have HW:Hid (writeH h=if h.d.good=true then if h.l.all (standD h.d.a)=true then (makeD mshB h.d.a ((rowH h).take (filledD h.l 10)),0) else ([],10) else ([],11)):=hid rfl
  clear hb
  go_enter Tryz.func129,Tryz.ntmps129
  obtain ⟨c0,c1,c2,c3,c4,hrest⟩:=HX0.out.cells
  clear hrest
  have HX1:Hid (BoxH h w.heap.size ((w.alloc (.cells #[u8 h.d.a,u8 h.d.b,u8 h.d.c,u8 h.d.d,u8 h.d.e,.string h.a0,.string h.a1,.string h.a2,.string h.a3,.string h.a4,.string h.a5,.string h.a6,.string h.a7,.string h.a8,.string h.a9] TH)).alloc (.cells #[.int .u8 (h.d.a.toNat:Int),.int .u8 (h.d.b.toNat:Int),.int .u8 (h.d.c.toNat:Int),.int .u8 (h.d.d.toNat:Int),.int .u8 (h.d.e.toNat:Int)] 109))):=hid (HX0.out.below ((Below.refl _ _).alloc (Nat.le_refl _) _))
  have HD1:Hid (BoxS h.d (w.heap.size+1) ((w.alloc (.cells #[u8 h.d.a,u8 h.d.b,u8 h.d.c,u8 h.d.d,u8 h.d.e,.string h.a0,.string h.a1,.string h.a2,.string h.a3,.string h.a4,.string h.a5,.string h.a6,.string h.a7,.string h.a8,.string h.a9] TH)).alloc (.cells #[.int .u8 (h.d.a.toNat:Int),.int .u8 (h.d.b.toNat:Int),.int .u8 (h.d.c.toNat:Int),.int .u8 (h.d.d.toNat:Int),.int .u8 (h.d.e.toNat:Int)] 109))):=hid (by
    have t:=heap_alloc_new (w.alloc (.cells #[u8 h.d.a,u8 h.d.b,u8 h.d.c,u8 h.d.d,u8 h.d.e,.string h.a0,.string h.a1,.string h.a2,.string h.a3,.string h.a4,.string h.a5,.string h.a6,.string h.a7,.string h.a8,.string h.a9] TH)) (.cells #[.int .u8 (h.d.a.toNat:Int),.int .u8 (h.d.b.toNat:Int),.int .u8 (h.d.c.toNat:Int),.int .u8 (h.d.d.toNat:Int),.int .u8 (h.d.e.toNat:Int)] 109)
    rw [World.size_alloc] at t
    exact t)
  have HB1:Hid (Below w.heap.size w ((w.alloc (.cells #[u8 h.d.a,u8 h.d.b,u8 h.d.c,u8 h.d.d,u8 h.d.e,.string h.a0,.string h.a1,.string h.a2,.string h.a3,.string h.a4,.string h.a5,.string h.a6,.string h.a7,.string h.a8,.string h.a9] TH)).alloc (.cells #[.int .u8 (h.d.a.toNat:Int),.int .u8 (h.d.b.toNat:Int),.int .u8 (h.d.c.toNat:Int),.int .u8 (h.d.d.toNat:Int),.int .u8 (h.d.e.toNat:Int)] 109))):=hid (HB0.out.alloc HB0.out.size _)
  go_wp2_with (fail)
  generalize (w.alloc (.cells #[u8 h.d.a,u8 h.d.b,u8 h.d.c,u8 h.d.d,u8 h.d.e,.string h.a0,.string h.a1,.string h.a2,.string h.a3,.string h.a4,.string h.a5,.string h.a6,.string h.a7,.string h.a8,.string h.a9] TH)).alloc (.cells #[.int .u8 (h.d.a.toNat:Int),.int .u8 (h.d.b.toNat:Int),.int .u8 (h.d.c.toNat:Int),.int .u8 (h.d.d.toNat:Int),.int .u8 (h.d.e.toNat:Int)] 109)=w1 at *
  generalize w.heap.size+1=D at *
  clear c0 c1 c2 c3 c4 HX0 HB0
  refine (refRight h.d w1).mono ?_
  rintro e w2 ⟨rfl,hb2⟩
  have HX2:=hid (HX1.out.below hb2)
  have HD2:=hid (HD1.out.below hb2)
  have HB2:=hid (HB1.out.trans (hb2.mono HB1.out.size))
  clear hb2 HX1 HD1 HB1
  cases hg:h.d.good
  · have HE:Hid (writeH h=([],11)):=hid (by rw [HW.out,hg];rfl)
    go_wp2_with (fail)
    go_ret2
    exact ⟨by rw [HE.out];rfl,HB2.out⟩
  · have HE:Hid (writeH h=if h.l.all (standD h.d.a)=true then (makeD mshB h.d.a ((rowH h).take (filledD h.l 10)),0) else ([],10)):=hid (by rw [HW.out,hg];rfl)
    clear hg HW
    go_wp2_with (with_reducible refine wpList_loadHG w.heap.size h (by kernel_rfl) (by kernel_rfl) HX2.out ?_)
    refine (refTexts h w2).mono ?_
    rintro e w3 ⟨g,rfl,hO,hb3⟩
    have HO3:=hid hO
    have HD3:=hid (HD2.out.below hb3)
    have HB3:=hid (HB2.out.trans (hb3.mono HB2.out.size))
    have HX2Z:=hid hb3.size
    clear hO hb3 HX2 HD2 HB2
    go_wp2_with (fail)
    go_loopw [6,7] (fun i _ wr=>∃ p:Nat,p≤10∧i=.int .i64 p∧(h.l.take p).all (standD h.d.a)=true∧Below w3.heap.size w3 wr) (fun i _ _=>10-(intOf i).toNat)
    case atStart=>exact ⟨0,by omega,rfl,rfl,Below.refl _ _⟩
    case round =>
      obtain ⟨wo,rfl⟩:∃ wo:World,wo=wr:=⟨_,rfl⟩
      obtain ⟨p,hp,rfl,hst,hbo⟩:=hrel
      have HST:=hid hst
      have HBO:=hid hbo
      clear hst hbo
      by_cases hlt:p<10
      · have HP:=hid hlt
        have HYM:Hid (h.l.getD p ⟨#[]⟩ ∈ h.l):=hid (h.text_mem p hlt)
        have HTA:Hid (standD h.d.a (h.l.getD p ⟨#[]⟩)=true→(h.l.take (p+1)).all (standD h.d.a)=true):=hid (h.take_all _ p hlt HST.out)
        have HCE:Hid (∀ W,Below w3.heap.size w3 W→W.cell? ⟨g,p,none⟩=some (.string (h.l.getD p ⟨#[]⟩))):=hid (fun W hW=>by
          have t:=OwnS.cell (T:=h.l.map (·.data.toList)) (HO3.out.below hW) (j:=p) (x:=(h.l.getD p ⟨#[]⟩).data.toList) (by rw [List.getElem?_map,List.getD_eq_getElem?_getD,List.getElem?_eq_getElem hlt];rfl)
          exact t)
        have cy:=HCE.out wo HBO.out
        obtain ⟨y,hy⟩:∃ y,y=h.l.getD p ⟨#[]⟩:=⟨_,rfl⟩
        rw [← hy] at cy HYM HTA HCE
        have hYS:y.size≤1000000:=by
          have h1:=HLB.out
          have h2:=mem_lens (List.mem_map.2 ⟨y,HYM.out,rfl⟩:y.data.toList ∈ h.l.map (·.data.toList))
          simp at h2
          omega
        have HYS:=hid hYS
        have d5:decide ((p:Int)<10)=true:=by simp;omega
        have d6:(p:Int)<10:=by omega
        have w2':wrap64 ((p:Int)+1)=(p:Int)+1:=IntWalk.wrap64_in _ (by omega)
        have dy:decide ((0:Int)<(y.size:Int))=decide (0<y.size):=by simp
        clear hy hp hlt hYS
        go_wp2_with (fail)
        clear cy d5 dy
        go_loopw [7] (fun k wr=>∃ q:Nat,q≤y.size∧k=.int .i64 q∧(∀ c ∈ y.data.toList.take q,c≠h.d.a∧c≠13)∧Below w3.heap.size w3 wr) (fun k _=>y.size-(intOf k).toNat)
        case atStart=>exact ⟨0,by omega,rfl,by simp,HBO.out⟩
        case round =>
          obtain ⟨wi,rfl⟩:∃ wi:World,wi=wr:=⟨_,rfl⟩
          obtain ⟨q,hq,rfl,hall,hbi⟩:=hrel
          have HALLQ:=hid hall
          have HBI:=hid hbi
          have cy:=HCE.out wi hbi
          obtain ⟨c0,c1,c2,c3,c4⟩:=(HD3.out.below hbi).cells
          clear hall hbi c1 c2 c3 c4
          by_cases hlq:q<y.size
          · have ix:=fun W=>strIdx y q hlq q rfl W
            have HQ:=hid hlq
            have d7:decide ((q:Int)<(y.size:Int))=true:=by simp;omega
            have w1':wrap64 ((q:Int)+1)=(q:Int)+1:=IntWalk.wrap64_in _ (by have:=HYS.out;omega)
            have htk:y.data.toList.take (q+1)=y.data.toList.take q++[y[q]]:=by rw [List.take_succ_eq_append_getElem (by simpa using hlq)];rfl
            have hmem:y[q] ∈ y.data.toList:=List.getElem_mem (l:=y.data.toList) (by simpa using hlq)
            obtain ⟨z,hz⟩:∃ z,z=y[q]:=⟨_,rfl⟩
            rw [← hz] at htk hmem
            have ix2:∀ W,(Instr.index 9 (.string y) (.int .i64 (q:Int))).run Tryz.prog W=.ok (u8 z) W:=fun W=>by rw [ix W,hz];rfl
            have HTK:=hid htk
            have HMEM:=hid hmem
            clear htk hmem hz ix
            by_cases hza:z=h.d.a
            · as_aux_lemma =>
              have k1:(((z.toNat:Nat):Int) == ((h.d.a.toNat:Nat):Int))=true:=by rw [hza];simp
              have HEF:Hid (writeH h=([],10)):=hid (by
                rw [HE.out,if_neg]
                intro e
                have t:=List.all_eq_true.1 e y HYM.out
                simp only [standD,Bool.and_eq_true,Bool.not_eq_true'] at t
                have:=t.1
                rw [List.contains_iff_mem.2 (hza ▸ HMEM.out)] at this
                exact absurd this (by decide))
              clear hza
              go_wp2_with (fail)
              go_quiet (fail)
              have HBN:=hid (HB3.out.trans ((drawN_below HBI.out nq).mono HB3.out.size))
              go_wp2_with (fail)
              go_ret2
              exact ⟨by rw [HEF.out];rfl,HBN.out⟩
            · have k1:(((z.toNat:Nat):Int) == ((h.d.a.toNat:Nat):Int))=false:=by
                rw [beq_eq_false_iff_ne];intro e;exact hza (UInt8.toNat_inj.1 (by omega))
              by_cases hz13:z=13
              · have k2:(((z.toNat:Nat):Int) == 13)=true:=by rw [hz13];rfl
                have HEF:Hid (writeH h=([],10)):=hid (by
                  rw [HE.out,if_neg]
                  intro e
                  have t:=List.all_eq_true.1 e y HYM.out
                  simp only [standD,Bool.and_eq_true,Bool.not_eq_true'] at t
                  have:=t.2
                  rw [List.contains_iff_mem.2 (hz13 ▸ HMEM.out)] at this
                  exact absurd this (by decide))
                clear hza hz13
                go_wp2_with (fail)
                go_quiet (fail)
                have HBN:=hid (HB3.out.trans ((drawN_below HBI.out nq).mono HB3.out.size))
                go_wp2_with (fail)
                go_ret2
                exact ⟨by rw [HEF.out];rfl,HBN.out⟩
              · have k2:(((z.toNat:Nat):Int) == 13)=false:=by
                  rw [beq_eq_false_iff_ne];intro e;exact hz13 (UInt8.toNat_inj.1 (by show z.toNat=13;omega))
                have HNX:Hid (∀ c ∈ y.data.toList.take (q+1),c≠h.d.a∧c≠13):=hid (fun c hc=>by
                  rw [HTK.out] at hc
                  rcases List.mem_append.1 hc with hc|hc
                  · exact HALLQ.out c hc
                  · rw [List.mem_singleton.1 hc];exact ⟨hza,hz13⟩)
                clear hza hz13
                go_wp2_with (fail)
                go_quiet (fail)
                have HBN:=hid (drawN_below HBI.out nq)
                go_wp2_with (fail)
                try rw [w1']
                exact ⟨⟨q+1,HQ.out,by go_num,HNX.out,HBN.out⟩,by have:=HQ.out;simp [intOf];omega⟩
          · obtain rfl:q=y.size:=by omega
            have d7:decide ((y.size:Int)<(y.size:Int))=false:=by simp
            have HSY:Hid (standD h.d.a y=true):=hid (by
              have t:=HALLQ.out
              rw [List.take_of_length_le (by simp)] at t
              simp only [standD,Bool.and_eq_true,Bool.not_eq_true']
              constructor
              · rw [← Bool.not_eq_true,List.contains_iff_mem];exact fun hm=>(t _ hm).1 rfl
              · rw [← Bool.not_eq_true,List.contains_iff_mem];exact fun hm=>(t _ hm).2 rfl)
            clear hlq hq
            go_wp2_with (fail)
            try rw [w2']
            exact ⟨⟨p+1,HP.out,by go_num,HTA.out HSY.out,HBI.out⟩,by have:=HP.out;simp [intOf];omega⟩
      · obtain rfl:p=10:=by omega
        have HALL:Hid (h.l.all (standD h.d.a)=true):=HST
        have d5:decide ((10:Int)<10)=false:=by decide
        clear hlt hp
        rw [show ((10:Nat):Int)=10 from rfl]
        go_wp2_with (fail)
        clear d5
        go_loopw [5] (fun v wr=>∃ m:Nat,m≤10∧v=.slice (some ⟨g,0,none⟩) m 10∧filledD h.l 10=filledD h.l m∧Below w3.heap.size w3 wr) (fun v _=>sliceLen v)
        case atStart=>exact ⟨10,by omega,rfl,rfl,HBO.out⟩
        case round =>
          clear HBO
          obtain ⟨wq,rfl⟩:∃ wq:World,wq=wr:=⟨_,rfl⟩
          obtain ⟨m,hm,rfl,hf,hbq⟩:=hrel
          have HBQ:=hid hbq
          clear hbq
          match m,hm,hf with
          | 0,hm,hf =>
            as_aux_lemma =>
            have HF:Hid (filledD h.l 10=0+2):=hid (by rw [hf];rfl)
            have d8:decide ((0:Int)<((0:Nat):Int))=false:=by simp
            clear hf
            have HCUT:Hid (OwnS wq w2.heap.size (.slice (some ⟨g,0,none⟩) 0 10) ((h.l.map (·.data.toList)).take 0)):=hid ((HO3.out.below HBQ.out).cut (Nat.zero_le _))
            have HDQ:=hid (HD3.out.below HBQ.out)
            have HEW:Hid (writeH h=(makeD mshB h.d.a ([h.d.a] :: [h.d.b,h.d.c,h.d.d,h.d.e] :: (h.l.map (·.data.toList)).take 0),0)):=hid (by rw [HE.out,if_pos HALL.out,HF.out];rfl)
            have HLN:Hid (Lib.lens ((h.l.map (·.data.toList)).take 0)≤1000000∧((h.l.map (·.data.toList)).take 0).length≤10):=hid ⟨Nat.le_trans (Lib.lens_take_le _ _) HLB.out,by rw [List.length_take];omega⟩
            have HDL:Hid (D<wq.heap.size):=hid (Array.getElem?_eq_some_iff.1 HDQ.out).1
            obtain ⟨c0,c1,c2,c3,c4⟩:=HDQ.out.cells
            have HQ1:Hid (∀ o1:Obj,BoxS h.d D (wq.alloc o1)):=hid (fun o1=>HDQ.out.below ((Below.refl _ _).alloc (Nat.le_refl _) o1))
            have HQC1:Hid ((wq.alloc (.cells #[u8 h.d.a] 5)).cell? ⟨D,1,none⟩=some (u8 h.d.b)):=hid (cell_of_row _ D 1 _ _ _ (HQ1.out _))
            have HQC2:Hid ((wq.alloc (.cells #[u8 h.d.a] 5)).cell? ⟨D,2,none⟩=some (u8 h.d.c)):=hid (cell_of_row _ D 2 _ _ _ (HQ1.out _))
            have HQC3:Hid ((wq.alloc (.cells #[u8 h.d.a] 5)).cell? ⟨D,3,none⟩=some (u8 h.d.d)):=hid (cell_of_row _ D 3 _ _ _ (HQ1.out _))
            have HQC4:Hid ((wq.alloc (.cells #[u8 h.d.a] 5)).cell? ⟨D,4,none⟩=some (u8 h.d.e)):=hid (cell_of_row _ D 4 _ _ _ (HQ1.out _))
            have HS1:Hid (Bs (wq.alloc (.cells #[u8 h.d.a] 5)) (some ⟨wq.heap.size,0,none⟩) 1 1 [h.d.a]):=hid (Bs.lit (n:=1) wq [h.d.a] 5 #[u8 h.d.a] wq.heap.size rfl rfl rfl (by simp [maxLen]))
            have HS2:Hid (Bs ((wq.alloc (.cells #[u8 h.d.a] 5)).alloc (.cells #[u8 h.d.b,u8 h.d.c,u8 h.d.d,u8 h.d.e] 5)) (some ⟨wq.heap.size+1,0,none⟩) 4 4 [h.d.b,h.d.c,h.d.d,h.d.e]):=hid (Bs.lit (n:=4) (wq.alloc (.cells #[u8 h.d.a] 5)) [h.d.b,h.d.c,h.d.d,h.d.e] 5 #[u8 h.d.b,u8 h.d.c,u8 h.d.d,u8 h.d.e] (wq.heap.size+1) (World.size_alloc _ _).symm rfl rfl (by simp [maxLen]))
            have HB4:Hid (Below w.heap.size w wq):=hid (HB3.out.trans (HBQ.out.mono HB3.out.size))
            clear HO3 HBQ HD3 HE HALL HF hm HQ1 HX2Z
            have tok1:Hid True:=hid trivial
            go_wp2_with (first | (with_reducible refine wpList_loadU8 (dst:=some 71) D 1 h.d.b (by kernel_rfl) HQC1 ?_) | (with_reducible refine wpList_loadU8 (dst:=some 73) D 2 h.d.c (by kernel_rfl) HQC2 ?_) | (with_reducible refine wpList_loadU8 (dst:=some 75) D 3 h.d.d (by kernel_rfl) HQC3 ?_) | (with_reducible refine wpList_loadU8 (dst:=some 77) D 4 h.d.e (by kernel_rfl) HQC4 ?_) | (with_reducible refine wpList_strT (dst:=some 69) (some ⟨wq.heap.size,0,none⟩) 1 1 [h.d.a] (by kernel_rfl) HS1.out ?_;(try clear e1 e2 e3 e4 e5 d8)) | (with_reducible refine wpList_bytes4 (dst:=some 78) (wq.heap.size+1) h.d.b h.d.c h.d.d h.d.e (by kernel_rfl) (by kernel_rfl) (by kernel_rfl) (by kernel_rfl) (World.size_alloc _ _) ?_) | (with_reducible refine wpList_strT (dst:=some 79) (some ⟨wq.heap.size+1,0,none⟩) 4 4 [h.d.b,h.d.c,h.d.d,h.d.e] (by kernel_rfl) HS2.out ?_) | (at_builtin;have _t:=tok1;go_loud ((refine wpList_strs rfl (.tmp 80) (.tmp 81) rfl wq.heap.size _ [[h.d.a],[h.d.b,h.d.c,h.d.d,h.d.e]] rfl (by have t:=OwnS.twoH ((wq.alloc (.cells #[u8 h.d.a] 5)).alloc (.cells #[u8 h.d.b,u8 h.d.c,u8 h.d.d,u8 h.d.e] 5)) [h.d.a] [h.d.b,h.d.c,h.d.d,h.d.e] wq.heap.size (by simp only [World.size_alloc];omega);simp only [World.size_alloc] at t;exact t) w2.heap.size _ ((h.l.map (·.data.toList)).take 0) rfl (HCUT.out.below ((((Below.refl _ wq).alloc (Nat.le_refl _) _).alloc (by simp) _).alloc (by simp;omega) _)) (by have:=HLN.out.2;simp only [List.length_cons,List.length_nil];omega) (by simp only [World.size_alloc];omega) ?_;intro v5 w5 hown hbel;obtain ⟨TT,hTT⟩:∃ TT,TT=([[h.d.a],[h.d.b,h.d.c,h.d.d,h.d.e]]:List (List UInt8))++(h.l.map (·.data.toList)).take 0:=⟨_,rfl⟩;rw [← hTT] at hown;have HTT:=hid hTT;clear hTT;have hb5:Below wq.heap.size wq w5:=((((Below.refl _ wq).alloc (Nat.le_refl _) _).alloc (by simp) _).alloc (by simp;omega) _).trans hbel;have HD5:=hid (HDQ.out.below hb5);have HB5:Hid (Below w.heap.size w w5):=hid (HB4.out.trans (hb5.mono HB4.out.size));obtain ⟨A5,c5,rfl,hS5,_⟩:=hown.ss;have HS5:=hid hS5;obtain ⟨d0,d1,d2,d3,d4⟩:=HD5.out.cells;clear tok1 hown hbel hb5 hS5 _t c0 c1 c2 c3 c4))))
            refine (refMake h.d mshB A5 TT.length c5 TT w5 HS5.out (by decide) (by rw [HTT.out,lensL2,List.length_append];have:=HLN.out;simp only [List.length_cons,List.length_nil];omega)).mono ?_
            rintro e w6 ⟨rfl,hb6⟩
            have HB6:=hid (HB5.out.trans (hb6.mono HB5.out.size))
            clear hb6 d0 d1 d2 d3 d4
            go_wp2_with (fail)
            go_ret2
            exact ⟨by rw [HEW.out,HTT.out];rfl,HB6.out⟩
          | p+1,hm,hf =>
            as_aux_lemma =>
            obtain ⟨y,hy⟩:∃ y,y=h.l.getD p ⟨#[]⟩:=⟨_,rfl⟩
            have cy:wq.cell? ⟨g,p,none⟩=some (.string y):=by
              rw [hy]
              exact OwnS.cell (T:=h.l.map (·.data.toList)) (HO3.out.below HBQ.out) (j:=p) (x:=(h.l.getD p ⟨#[]⟩).data.toList) (by rw [List.getElem?_map,List.getD_eq_getElem?_getD,List.getElem?_eq_getElem (show p<h.l.length by rw [Hd.l_len];omega)];rfl)
            have hfs:=filledD_step h p
            rw [← hy] at hfs
            obtain ⟨m,hmp⟩:∃ m,m=p+1:=⟨_,rfl⟩
            rw [← hmp] at hm hf hfs ⊢
            have d8:decide ((0:Int)<(m:Int))=true:=by simp;omega
            have e1:(m:Int)-1=(p:Int):=by omega
            have e2:wrap64 (p:Int)=(p:Int):=IntWalk.wrap64_in _ (by omega)
            have e3:(p:Int)<(m:Int):=by omega
            have e4:(p:Int)≤10:=by omega
            have e5:(0:Int)≤(p:Int):=by omega
            clear hy
            cases de:y.toList.isEmpty
            · have HF:Hid (filledD h.l 10=m+2):=hid (by rw [hf,hfs,de];simp;omega)
              clear hf hfs hmp
              have HCUT:Hid (OwnS wq w2.heap.size (.slice (some ⟨g,0,none⟩) m 10) ((h.l.map (·.data.toList)).take m)):=hid ((HO3.out.below HBQ.out).cut (by simp [Hd.l];omega))
              have HDQ:=hid (HD3.out.below HBQ.out)
              have HEW:Hid (writeH h=(makeD mshB h.d.a ([h.d.a] :: [h.d.b,h.d.c,h.d.d,h.d.e] :: (h.l.map (·.data.toList)).take m),0)):=hid (by rw [HE.out,if_pos HALL.out,HF.out];rfl)
              have HLN:Hid (Lib.lens ((h.l.map (·.data.toList)).take m)≤1000000∧((h.l.map (·.data.toList)).take m).length≤10):=hid ⟨Nat.le_trans (Lib.lens_take_le _ _) HLB.out,by rw [List.length_take];omega⟩
              have HDL:Hid (D<wq.heap.size):=hid (Array.getElem?_eq_some_iff.1 HDQ.out).1
              obtain ⟨c0,c1,c2,c3,c4⟩:=HDQ.out.cells
              have HQ1:Hid (∀ o1:Obj,BoxS h.d D (wq.alloc o1)):=hid (fun o1=>HDQ.out.below ((Below.refl _ _).alloc (Nat.le_refl _) o1))
              have HQC1:Hid ((wq.alloc (.cells #[u8 h.d.a] 5)).cell? ⟨D,1,none⟩=some (u8 h.d.b)):=hid (cell_of_row _ D 1 _ _ _ (HQ1.out _))
              have HQC2:Hid ((wq.alloc (.cells #[u8 h.d.a] 5)).cell? ⟨D,2,none⟩=some (u8 h.d.c)):=hid (cell_of_row _ D 2 _ _ _ (HQ1.out _))
              have HQC3:Hid ((wq.alloc (.cells #[u8 h.d.a] 5)).cell? ⟨D,3,none⟩=some (u8 h.d.d)):=hid (cell_of_row _ D 3 _ _ _ (HQ1.out _))
              have HQC4:Hid ((wq.alloc (.cells #[u8 h.d.a] 5)).cell? ⟨D,4,none⟩=some (u8 h.d.e)):=hid (cell_of_row _ D 4 _ _ _ (HQ1.out _))
              have HS1:Hid (Bs (wq.alloc (.cells #[u8 h.d.a] 5)) (some ⟨wq.heap.size,0,none⟩) 1 1 [h.d.a]):=hid (Bs.lit (n:=1) wq [h.d.a] 5 #[u8 h.d.a] wq.heap.size rfl rfl rfl (by simp [maxLen]))
              have HS2:Hid (Bs ((wq.alloc (.cells #[u8 h.d.a] 5)).alloc (.cells #[u8 h.d.b,u8 h.d.c,u8 h.d.d,u8 h.d.e] 5)) (some ⟨wq.heap.size+1,0,none⟩) 4 4 [h.d.b,h.d.c,h.d.d,h.d.e]):=hid (Bs.lit (n:=4) (wq.alloc (.cells #[u8 h.d.a] 5)) [h.d.b,h.d.c,h.d.d,h.d.e] 5 #[u8 h.d.b,u8 h.d.c,u8 h.d.d,u8 h.d.e] (wq.heap.size+1) (World.size_alloc _ _).symm rfl rfl (by simp [maxLen]))
              have HB4:Hid (Below w.heap.size w wq):=hid (HB3.out.trans (HBQ.out.mono HB3.out.size))
              clear HO3 HBQ HD3 HE HALL HF hm HQ1 HX2Z
              have tok1:Hid True:=hid trivial
              go_wp2_with (first | (with_reducible refine wpList_loadU8 (dst:=some 71) D 1 h.d.b (by kernel_rfl) HQC1 ?_) | (with_reducible refine wpList_loadU8 (dst:=some 73) D 2 h.d.c (by kernel_rfl) HQC2 ?_) | (with_reducible refine wpList_loadU8 (dst:=some 75) D 3 h.d.d (by kernel_rfl) HQC3 ?_) | (with_reducible refine wpList_loadU8 (dst:=some 77) D 4 h.d.e (by kernel_rfl) HQC4 ?_) | (with_reducible refine wpList_strT (dst:=some 69) (some ⟨wq.heap.size,0,none⟩) 1 1 [h.d.a] (by kernel_rfl) HS1.out ?_;(try clear e1 e2 e3 e4 e5 d8)) | (with_reducible refine wpList_bytes4 (dst:=some 78) (wq.heap.size+1) h.d.b h.d.c h.d.d h.d.e (by kernel_rfl) (by kernel_rfl) (by kernel_rfl) (by kernel_rfl) (World.size_alloc _ _) ?_) | (with_reducible refine wpList_strT (dst:=some 79) (some ⟨wq.heap.size+1,0,none⟩) 4 4 [h.d.b,h.d.c,h.d.d,h.d.e] (by kernel_rfl) HS2.out ?_) | (at_builtin;have _t:=tok1;go_loud ((refine wpList_strs rfl (.tmp 80) (.tmp 81) rfl wq.heap.size _ [[h.d.a],[h.d.b,h.d.c,h.d.d,h.d.e]] rfl (by have t:=OwnS.twoH ((wq.alloc (.cells #[u8 h.d.a] 5)).alloc (.cells #[u8 h.d.b,u8 h.d.c,u8 h.d.d,u8 h.d.e] 5)) [h.d.a] [h.d.b,h.d.c,h.d.d,h.d.e] wq.heap.size (by simp only [World.size_alloc];omega);simp only [World.size_alloc] at t;exact t) w2.heap.size _ ((h.l.map (·.data.toList)).take m) rfl (HCUT.out.below ((((Below.refl _ wq).alloc (Nat.le_refl _) _).alloc (by simp) _).alloc (by simp;omega) _)) (by have:=HLN.out.2;simp only [List.length_cons,List.length_nil];omega) (by simp only [World.size_alloc];omega) ?_;intro v5 w5 hown hbel;obtain ⟨TT,hTT⟩:∃ TT,TT=([[h.d.a],[h.d.b,h.d.c,h.d.d,h.d.e]]:List (List UInt8))++(h.l.map (·.data.toList)).take m:=⟨_,rfl⟩;rw [← hTT] at hown;have HTT:=hid hTT;clear hTT;have hb5:Below wq.heap.size wq w5:=((((Below.refl _ wq).alloc (Nat.le_refl _) _).alloc (by simp) _).alloc (by simp;omega) _).trans hbel;have HD5:=hid (HDQ.out.below hb5);have HB5:Hid (Below w.heap.size w w5):=hid (HB4.out.trans (hb5.mono HB4.out.size));obtain ⟨A5,c5,rfl,hS5,_⟩:=hown.ss;have HS5:=hid hS5;obtain ⟨d0,d1,d2,d3,d4⟩:=HD5.out.cells;clear tok1 hown hbel hb5 hS5 _t c0 c1 c2 c3 c4))))
              refine (refMake h.d mshB A5 TT.length c5 TT w5 HS5.out (by decide) (by rw [HTT.out,lensL2,List.length_append];have:=HLN.out;simp only [List.length_cons,List.length_nil];omega)).mono ?_
              rintro e w6 ⟨rfl,hb6⟩
              have HB6:=hid (HB5.out.trans (hb6.mono HB5.out.size))
              clear hb6 d0 d1 d2 d3 d4
              go_wp2_with (fail)
              go_ret2
              exact ⟨by rw [HEW.out,HTT.out];rfl,HB6.out⟩
            · have HFP:Hid (filledD h.l 10=filledD h.l p):=hid (by rw [hf,hfs,de];rfl)
              have HPM:Hid (p+1=m∧m≤10):=hid ⟨hmp.symm,hm⟩
              clear hf hfs hmp hm
              go_wp2_with (fail)
              go_roundw
              case rel=>exact ⟨p,by have:=HPM.out;omega,rfl,HFP.out,HBQ.out⟩
              case measure=>have:=HPM.out;simp only [sliceLen];omega
end
section
open Go.RowKit
theorem codeD_three (s:ByteArray):codeD s=(s.toList == [65,65] || s.toList == [65,69] || s.toList == [65,82]):=by
  have e:∀ (k:Nat) (x:List UInt8),(cB k).data.toList=x→(s.toList == x)=decide (cB k=s):=by
    intro k x hx
    rw [Go.ByteArray.toList_eq]
    by_cases h:cB k=s
    · rw [decide_eq_true h,← h,hx];simp
    · rw [decide_eq_false h,beq_eq_false_iff_ne]
      exact fun e=>h (ByteArray.ext (Array.toList_inj.1 (by rw [hx,e])))
  rw [e 0 [65,65] rfl,e 1 [65,69] rfl,e 2 [65,82] rfl]
  unfold codeD codesL
  simp [Bool.or_assoc]
set_option maxHeartbeats 1000000 in
theorem refKnown10 (s:ByteArray) (w:World):Calls Tryz.prog 128 #[.string s] w fun e w'=>e=.returned (.bool (codeD s))∧w'=w:=by
  rw [codeD_three]
  cases d1:(s.toList == [65,65]) <;> cases d2:(s.toList == [65,69]) <;> cases d3:(s.toList == [65,82]) <;>
  · go_enter Tryz.func128,Tryz.ntmps128
    go_wp2_with (fail)
    go_ret
    exact ⟨rfl,rfl⟩
theorem built_ans (h:Hd):Tryz.prog.built TH [(0,h.d.v),(1,.string h.a2),(2,.string h.a3),(3,.string h.a0),(4,.string h.a1),(5,.string h.a4),(7,.string ⟨#[65,67,75]⟩),(8,.string h.a7),(9,.string h.a8),(10,.string h.a9)]=some (ansH h).cells:=by kernel_rfl
set_option maxHeartbeats 8000000 in
set_option maxRecDepth 100000 in
theorem refBuild10 (h:Hd) (code:ByteArray) (w:World) (hb:h.sum≤300000) (hc:code.size≤1000):Calls Tryz.prog 92 #[h.v,.string code] w fun e w'=>e=.returned (.tuple #[str (buildD h code).1,.int .i64 (buildD h code).2])∧Below w.heap.size w w':=by
  have HX0:=hid (BoxH.new h w)
  have HB0:=hid (boxHd_below h w)
  have HS:=hid hb
  have HC:=hid hc
  have HAS:=hid (ansH_sum h)
  have HA7:=hid (a7_le h)
  clear hb hc
  go_enter Tryz.func92,Tryz.ntmps92
  go_wp2_with (fail)
  generalize w.alloc (.cells #[u8 h.d.a,u8 h.d.b,u8 h.d.c,u8 h.d.d,u8 h.d.e,.string h.a0,.string h.a1,.string h.a2,.string h.a3,.string h.a4,.string h.a5,.string h.a6,.string h.a7,.string h.a8,.string h.a9] TH)=w0 at *
  refine (refKnown10 code w0).mono ?_
  rintro e w1 ⟨rfl,rfl⟩
  cases hk:codeD code
  · as_aux_lemma =>
    have HE:Hid (buildD h code=([],17)):=hid (by unfold buildD;rw [hk];rfl)
    go_wp2_with (fail)
    go_ret2
    exact ⟨by rw [HE.out];rfl,HB0.out⟩
  · obtain ⟨c0,c1,c2,c3,c4,c5,c6,c7,c8,c9,c10,c11,c12,c13,c14⟩:=HX0.out.cells
    have HQ0:Hid (BoxH (ansH h) w1.heap.size (w1.alloc (.cells (ansH h).cells TH))):=hid (BoxH.new _ w1)
    have HX1:Hid (BoxH h w.heap.size (w1.alloc (.cells (ansH h).cells TH))):=hid (HX0.out.below (boxHd_below (ansH h) w1))
    have HB1:Hid (Below w.heap.size w (w1.alloc (.cells (ansH h).cells TH))):=hid (HB0.out.alloc HB0.out.size _)
    obtain ⟨q,hq⟩:∃ q,q=ansH h:=⟨_,rfl⟩
    have HQE:=hid hq
    have hbu:Tryz.prog.built TH [(0,h.d.v),(1,.string h.a2),(2,.string h.a3),(3,.string h.a0),(4,.string h.a1),(5,.string h.a4),(7,.string ⟨#[65,67,75]⟩),(8,.string h.a7),(9,.string h.a8),(10,.string h.a9)]=some q.cells:=by rw [hq];exact built_ans h
    have HBU:=hid hbu
    rw [← hq] at HQ0 HX1 HB1 HAS
    clear hq hbu
    go_wp2_with (first | (with_reducible refine wpList_buildH q [(0,h.d.v),(1,.string h.a2),(2,.string h.a3),(3,.string h.a0),(4,.string h.a1),(5,.string h.a4),(7,.string ⟨#[65,67,75]⟩),(8,.string h.a7),(9,.string h.a8),(10,.string h.a9)] (by kernel_rfl) HBU.out ?_;clear c0 c1 c2 c3 c4 c5 c6 c7 c8 c9 c10 c11 c12 c13 c14) | (with_reducible refine wpList_loadHG w1.heap.size q (by kernel_rfl) (by kernel_rfl) HQ0.out ?_))
    obtain ⟨G,hG⟩:∃ G,G=w1.heap.size:=⟨_,rfl⟩
    rw [← hG] at HQ0 ⊢
    clear hG HX0 HBU
    generalize w1.alloc (.cells #[u8 q.d.a,u8 q.d.b,u8 q.d.c,u8 q.d.d,u8 q.d.e,.string q.a0,.string q.a1,.string q.a2,.string q.a3,.string q.a4,.string q.a5,.string q.a6,.string q.a7,.string q.a8,.string q.a9] TH)=w2 at *
    refine (refWrite09 q w2 (by rw [← Hd.sum_eq];have:=HAS.out;have:=HS.out;omega)).mono ?_
    rintro e w3 ⟨rfl,hb3⟩
    have HX3:=hid (HX1.out.below hb3)
    have HB3:=hid (HB1.out.trans (hb3.mono HB1.out.size))
    clear hb3 HX1 HB1 HQ0
    rw [HQE.out]
    rcases writeH_cases (ansH h) with hw|hw|⟨hw,hg,hst⟩
    · as_aux_lemma =>
      have HE:Hid (buildD h code=([],11)):=hid (by unfold buildD;rw [if_pos hk,hw];rfl)
      rw [hw]
      rw [show str (([],(11:Int)):List UInt8 × Int).1=Value.string ⟨#[]⟩ from rfl]
      clear hw hk
      go_wp2_with (fail)
      go_ret2
      exact ⟨by rw [HE.out];rfl,HB3.out⟩
    · as_aux_lemma =>
      have HE:Hid (buildD h code=([],10)):=hid (by unfold buildD;rw [if_pos hk,hw];rfl)
      rw [hw]
      rw [show str (([],(10:Int)):List UInt8 × Int).1=Value.string ⟨#[]⟩ from rfl]
      clear hw hk
      go_wp2_with (fail)
      go_ret2
      exact ⟨by rw [HE.out];rfl,HB3.out⟩
    · as_aux_lemma =>
      have HE:Hid (buildD h code=(joinD [segH (ansH h),makeD msaB h.d.a [code.data.toList,h.a7.data.toList]],0)):=hid (by unfold buildD;rw [if_pos hk,hw];rfl)
      have HSL:Hid ((segH (ansH h)).length≤300021):=hid (by have:=segH_len (ansH h);have t:=HAS.out;rw [HQE.out] at t;have:=HS.out;omega)
      rw [hw]
      clear hw hk hg hst HAS
      obtain ⟨S,hS⟩:∃ S,S=segH (ansH h):=⟨_,rfl⟩
      rw [← hS] at HE HSL ⊢
      clear hS
      obtain ⟨c0,c1,c2,c3,c4,c5,c6,c7,c8,c9,c10,c11,c12,c13,c14⟩:=HX3.out.cells
      clear c5 c6 c7 c8 c9 c10 c11 c13 c14
      go_wp2_with (fail)
      clear c0 c1 c2 c3 c4 c12
      have HO4:Hid (OwnS (w3.alloc (.cells #[.string code,.string h.a7] 9)) w3.heap.size (.slice (some ⟨w3.heap.size,0,none⟩) 2 2) [code.data.toList,h.a7.data.toList]):=hid (OwnS.twoH w3 code.data.toList h.a7.data.toList _ (Nat.le_refl _))
      have HB4:Hid (Below w.heap.size w (w3.alloc (.cells #[.string code,.string h.a7] 9))):=hid (HB3.out.alloc HB3.out.size _)
      have HT:Hid (Lib.lens [code.data.toList,h.a7.data.toList]≤302000):=hid (by rw [lens_two];have:=HC.out;have:=HA7.out;have:=HS.out;simp;omega)
      generalize w3.alloc (.cells #[.string code,.string h.a7] 9)=w4 at *
      refine (refMake h.d msaB _ 2 2 _ w4 HO4.out.ss' (by decide) (by have:=HT.out;simp only [List.length_cons,List.length_nil];omega)).mono ?_
      rintro e w5 ⟨rfl,hb5⟩
      have HB5:=hid (HB4.out.trans (hb5.mono HB4.out.size))
      have HML:Hid ((makeD msaB h.d.a [code.data.toList,h.a7.data.toList]).length≤302005):=hid (by rw [msa_len,← lens_two];have:=HT.out;omega)
      clear hb5 HO4 HB4 HT
      obtain ⟨M,hM⟩:∃ M,M=makeD msaB h.d.a [code.data.toList,h.a7.data.toList]:=⟨_,rfl⟩
      rw [← hM] at HE HML ⊢
      clear hM
      go_wp2_with (fail)
      have HO6:Hid (OwnS (w5.alloc (.cells #[str S,str M] 9)) w5.heap.size (.slice (some ⟨w5.heap.size,0,none⟩) 2 2) [S,M]):=hid (OwnS.twoH w5 S M _ (Nat.le_refl _))
      have HB6:Hid (Below w.heap.size w (w5.alloc (.cells #[str S,str M] 9))):=hid (HB5.out.alloc HB5.out.size _)
      generalize w5.alloc (.cells #[str S,str M] 9)=w6 at *
      refine (refJoin _ 2 2 [S,M] w6 HO6.out.ss' (by rw [lens_two];have:=HSL.out;have:=HML.out;simp only [List.length_cons,List.length_nil];omega)).mono ?_
      rintro e w7 ⟨rfl,hb7⟩
      have HB7:=hid (HB6.out.trans (hb7.mono HB6.out.size))
      clear hb7 HO6
      go_wp2_with (fail)
      go_ret2
      exact ⟨by rw [HE.out];rfl,HB7.out⟩
end
section
open Go.RowKit
set_option maxRecDepth 100000 in
set_option maxHeartbeats 1000000 in
theorem refGood_yes (A:Option Addr) (n c:Nat) (l:List UInt8) (w:World) (hB:Bs w A n c l) (hg:good l=true) :
    Calls Tryz.prog 91 #[.slice A n c] w fun e w'=>e=.returned (.bool true)∧w=w':=by
  have hn:=hB.nmax
  have HG:=hid hg;clear hg
  have HB:=hid hB;clear hB
  go_enter Tryz.func91,Tryz.ntmps91
  go_wp2
  go_loop [3] (fun i=>∃ k:Nat,k≤n∧i=.int .i64 k) (fun i=>n-(intOf i).toNat)
  case atStart=>exact ⟨0,Nat.zero_le _,rfl⟩
  case round =>
    obtain ⟨k,hk,rfl⟩:=hrel
    by_cases hlt:k<n
    · obtain ⟨b,o,rfl,hb,hc⟩:=HB.out.at_ (by omega)
      have hkl:k<l.length:=by have:=HB.out.len;omega
      have hbad:=good_at HG.out hkl
      have hcell:=hc k _ (List.getElem?_eq_getElem hkl)
      have h11:l[k]≠11:=fun e=>good_no_start HG.out (e ▸ List.getElem_mem hkl)
      unfold badAt at hbad
      rw [List.getElem?_eq_getElem hkl] at hbad
      generalize l[k]=x at hcell hbad h11
      have h11':=u8_ne (x:=x) (k:=11) 11 rfl h11
      by_cases h28:x=28
      · subst h28
        have hkn:k+1≠l.length:=by intro e;simp [e] at hbad
        have hk1:k+1<l.length:=by omega
        have hcell1:=hc (k+1) _ (List.getElem?_eq_getElem hk1)
        rw [List.getElem?_eq_getElem hk1] at hbad
        generalize l[k+1]=y at hcell1 hbad
        have hne:=u8_ne (x:=y) (k:=13) 13 rfl (by intro e;subst e;simp at hbad)
        have hk2:((k:Int)+1 == n)=false:=by rw [beq_eq_false_iff_ne];have:=HB.out.len;omega
        have hk3:k+1<n:=by have:=HB.out.len;omega
        clear hbad hkn hc h11 h11'
        go_wp2
        go_round
        case rel=>exact ⟨k+1,by omega,by go_num⟩
        case measure=>simp [intOf];omega
      · have hx':=u8_ne (x:=x) (k:=28) 28 rfl h28
        clear hbad hc
        go_wp2
        go_round
        case rel=>exact ⟨k+1,by omega,by go_num⟩
        case measure=>simp [intOf];omega
    · go_wp2
      go_ret
      exact ⟨rfl,rfl⟩
theorem not_good_place {l:List UInt8} (h:good l=false):∃ j,j<l.length∧(l[j]?=some 11∨badAt l j=true):=by
  apply Classical.byContradiction
  intro hne
  rw [good_of (l:=l) (fun hm=>by
    obtain ⟨j,hj,e⟩:=List.getElem_of_mem hm
    exact hne ⟨j,hj,.inl (by rw [List.getElem?_eq_getElem hj,e])⟩) (fun i hi=>by
    cases hb:badAt l i with
    | false=>rfl
    | true=>exact absurd ⟨i,hi,.inr hb⟩ hne)] at h
  cases h
set_option maxRecDepth 100000 in
set_option maxHeartbeats 1000000 in
theorem refGood_no (A:Option Addr) (n c:Nat) (l:List UInt8) (w:World) (hB:Bs w A n c l) (hg:good l=false) :
    Calls Tryz.prog 91 #[.slice A n c] w fun e w'=>e=.returned (.bool false)∧w=w':=by
  have hn:=hB.nmax
  obtain ⟨j,hj,hjb⟩:=not_good_place hg
  have hjn:j<n:=by have:=hB.len;omega
  have HJ:=hid hjb;clear hjb hg
  have HB:=hid hB;clear hB
  go_enter Tryz.func91,Tryz.ntmps91
  go_wp2
  go_loop [3] (fun i=>∃ k:Nat,k≤j∧i=.int .i64 k) (fun i=>n-(intOf i).toNat)
  case atStart=>exact ⟨0,Nat.zero_le _,rfl⟩
  case round =>
    obtain ⟨k,hk,rfl⟩:=hrel
    have hlt:k<n:=by omega
    obtain ⟨b,o,rfl,hb,hc⟩:=HB.out.at_ (by omega)
    have hkl:k<l.length:=by have:=HB.out.len;omega
    have ek:=List.getElem?_eq_getElem hkl
    have hcell:=hc k _ ek
    by_cases h11:l[k]=11
    · rw [h11] at hcell
      clear hc ek h11
      go_wp2
      go_ret
      exact ⟨rfl,rfl⟩
    · have hJ2:k=j→badAt l k=true:=by
        rintro rfl
        exact HJ.out.resolve_left (by rw [ek];simpa using h11)
      cases hbad:badAt l k with
      | false =>
        have hkj:k<j:=by
          rcases Nat.lt_or_ge k j with h|h
          · exact h
          · rw [hJ2 (by omega)] at hbad;cases hbad
        unfold badAt at hbad
        rw [ek] at hbad
        generalize l[k]=x at hcell hbad h11 ek
        have h11':=u8_ne (x:=x) (k:=11) 11 rfl h11
        by_cases h28:x=28
        · subst h28
          have hkn:k+1≠l.length:=by intro e;simp [e] at hbad
          have hk1:k+1<l.length:=by omega
          have hcell1:=hc (k+1) _ (List.getElem?_eq_getElem hk1)
          rw [List.getElem?_eq_getElem hk1] at hbad
          generalize l[k+1]=y at hcell1 hbad
          have hne:=u8_ne (x:=y) (k:=13) 13 rfl (by intro e;subst e;simp at hbad)
          have hk2:((k:Int)+1 == n)=false:=by rw [beq_eq_false_iff_ne];have:=HB.out.len;omega
          have hk3:k+1<n:=by have:=HB.out.len;omega
          clear hbad hkn hc h11 h11' ek hJ2
          go_wp2
          go_round
          case rel=>exact ⟨k+1,by omega,by go_num⟩
          case measure=>simp [intOf];omega
        · have hx':=u8_ne (x:=x) (k:=28) 28 rfl h28
          clear hbad hc ek hJ2 h11
          go_wp2
          go_round
          case rel=>exact ⟨k+1,by omega,by go_num⟩
          case measure=>simp [intOf];omega
      | true =>
        unfold badAt at hbad
        rw [ek] at hbad
        simp only [Bool.and_eq_true,beq_iff_eq,Option.some.injEq,Bool.or_eq_true,decide_eq_true_eq] at hbad
        obtain ⟨h28,hend⟩:=hbad
        rw [h28] at hcell
        by_cases he:k+1=l.length
        · have hk2:((k:Int)+1 == n)=true:=by rw [beq_iff_eq];have:=HB.out.len;omega
          clear hend he hc h28 ek hJ2 h11
          go_wp2
          go_ret
          exact ⟨rfl,rfl⟩
        · have h13:=hend.resolve_left he
          have hcell1:=hc (k+1) _ h13
          have hk1:k+1<l.length:=by omega
          have hk2:((k:Int)+1 == n)=false:=by rw [beq_eq_false_iff_ne];have:=HB.out.len;omega
          have hk3:k+1<n:=by have:=HB.out.len;omega
          clear hend hc h28 he h13 ek hJ2 h11
          go_wp2
          go_ret
          exact ⟨rfl,rfl⟩
theorem refGood (A:Option Addr) (n c:Nat) (l:List UInt8) (w:World) (hB:Bs w A n c l) (r:Bool) (hr:good l=r) :
    Calls Tryz.prog 91 #[.slice A n c] w fun e w'=>e=.returned (.bool r)∧w=w':=by
  subst hr
  cases hg:good l with
  | true=>exact refGood_yes A n c l w hB hg
  | false=>exact refGood_no A n c l w hB hg
def RetB4I (l:List UInt8) (w:World) (e:Ending) (w':World):Prop :=
  ∃ A c,e=.returned (.slice A l.length c)∧Bs w' A l.length c l∧Below w.heap.size w w'∧∀ b,A=some b→w.heap.size≤b.block
set_option maxRecDepth 100000 in
theorem refWrap (A:Option Addr) (n c:Nat) (l:List UInt8) (w:World) (hB:Bs w A n c l) (hn:n≤140737488351232) :
    Calls Tryz.prog 93 #[.slice A n c] w (RetB4I (11 :: (l++[28,13])) w):=by
  have HB:=hid hB
  have HL:l.length≤n:=by have:=hB.len;omega
  have tok1:True:=trivial
  have tok2:True:=trivial
  clear hB
  go_enter Tryz.func93,Tryz.ntmps93
  go_wp2_with (first
    | (at_builtin;have _t:=tok1
       refine wpList_app rfl (.tmp 3) (.tmp 4) 40 rfl w.heap.size 5 Tryz.underlying40 byteInfoF _ [11] rfl (Own.lit 5 w [11] (Nat.le_refl _) (by simp [maxLen])) _ n c l rfl (HB.out.alloc _) (by simp;omega) (by simp) ?_
       intro v1 w1 hown1 hb1 hg1
       have b1:Below w.heap.size w w1:=((Below.refl _ _).alloc (Nat.le_refl _) _).trans hb1
       clear tok1 hb1 hg1 _t)
    | (at_builtin;have _t:=tok2
       refine wpList_app rfl (.tmp 5) (.tmp 6) 40 rfl w.heap.size 5 Tryz.underlying40 byteInfoF _ ([11]++l) rfl (hown1.alloc _) _ 2 2 [28,13] rfl (Bs.lit _ [28,13] 5 _ _ rfl rfl rfl (by simp [maxLen])) (by simp;omega) (by have:=b1.size;simp;omega) ?_
       intro v2 w2 hown2 hb2 hg2
       have b2:Below w.heap.size w w2:=(b1.alloc b1.size _).trans hb2
       clear tok2 hb2 hg2 _t))
  go_ret
  obtain ⟨A4,c4,rfl,hB4,hf4⟩:=hown2.bs
  have hl4:([11]++l++[28,13]:List UInt8)=11 :: (l++[28,13]):=by simp
  rw [hl4] at hB4 ⊢
  exact ⟨A4,c4,rfl,hB4,b2,hf4⟩
end
end Go.Proofs.YtodjilljcjkacaaGreatDoor
