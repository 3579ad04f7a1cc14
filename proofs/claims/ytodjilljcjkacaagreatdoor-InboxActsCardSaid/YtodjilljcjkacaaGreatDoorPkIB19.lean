/- Laid together: Msh6b, MshEG, AckP, MshOneM, Frame, AccM. -/
import Derived.Test.YtodjilljcjkacaaGreatDoorPkIB18
import Derived.Lib.LaidTab

namespace Go.Proofs.YtodjilljcjkacaaGreatDoor
open Lib (hid)
section
open Go.RowKit
set_option maxHeartbeats 16000000 in
set_option maxRecDepth 100000 in
theorem write_ (h:Hd) (w:World) (hb:Lib.lens (h.l.map (·.data.toList))≤1000000) :
    Calls Tryz.prog 115 #[h.v] w fun e w'=>e=.returned (.tuple #[str (writeH h).1,.int .i64 (writeH h).2])∧Below w.heap.size w w':=by
  have HX0:=hid (BoxH.new h w)
  have HB0:=hid (boxHd_below h w)
  have HLB:=hid hb
  have HW:Hid (writeH h=if h.d.good=true then if h.l.all (standD h.d.a)=true then (makeD mshB h.d.a ((rowH h).take (filledD h.l 10)),0) else ([],10) else ([],11)):=hid rfl
  clear hb
  go_enter Tryz.func115,Tryz.ntmps115
  obtain ⟨c0,c1,c2,c3,c4,c5,c6,c7,c8,c9,c10,c11,c12,c13,c14⟩:=HX0.out.cells
  go_wp2_with (fail)
  generalize w.alloc (.cells #[u8 h.d.a,u8 h.d.b,u8 h.d.c,u8 h.d.d,u8 h.d.e,.string h.a0,.string h.a1,.string h.a2,.string h.a3,.string h.a4,.string h.a5,.string h.a6,.string h.a7,.string h.a8,.string h.a9] TH)=w0 at *
  refine (delimRight h.d w0).mono ?_
  rintro e w1 ⟨rfl,hb1⟩
  have HX1:=hid (HX0.out.below hb1)
  have HB1:=hid (HB0.out.trans (hb1.mono HB0.out.size))
  clear hb1 c0 c1 c2 c3 c4 c5 c6 c7 c8 c9 c10 c11 c12 c13 c14 HX0 HB0
  cases hg:h.d.good
  · have HE:Hid (writeH h=([],11)):=hid (by rw [HW.out,hg];rfl)
    go_wp2_with (fail)
    go_ret2
    exact ⟨by rw [HE.out];rfl,HB1.out⟩
  · have HE:Hid (writeH h=if h.l.all (standD h.d.a)=true then (makeD mshB h.d.a ((rowH h).take (filledD h.l 10)),0) else ([],10)):=hid (by rw [HW.out,hg];rfl)
    go_wp2_with (fail)
    have HBS:Hid (Bs (w1.alloc (.cells #[u8 h.d.a] 5)) (some ⟨w1.heap.size,0,none⟩) 1 1 [h.d.a]):=hid (Bs.lit w1 [h.d.a] 5 _ _ rfl rfl rfl (by simp [maxLen]))
    have HGW:Hid (w.heap.size<w1.heap.size):=hid (Array.getElem?_eq_some_iff.1 HX1.out).1
    go_cut [4] (fun x wx=>∃ g:Nat,x=.slice (some ⟨g,0,none⟩) 2 2∧OwnS wx w1.heap.size (.slice (some ⟨g,0,none⟩) 2 2) [[h.d.a],[h.d.b,h.d.c,h.d.d,h.d.e]]∧Below w1.heap.size w1 wx)
    case first =>
      as_aux_lemma =>
        have hcv:∀ W:World,(convert 40 9 (.slice (some ⟨W.heap.size,0,none⟩) 1 1)).run Tryz.prog (W.alloc (.cells #[u8 h.d.a] 5))=.ok (str [h.d.a]) (W.alloc (.cells #[u8 h.d.a] 5)):=fun W=>(Bs.lit W [h.d.a] 5 _ _ rfl rfl rfl (by simp [maxLen])).str (P:=Tryz.prog) 40 5 9 Tryz.underlying40 Tryz.underlying5 Tryz.underlying9
        have hcd:(convert 40 9 (.slice (some ⟨w1.heap.size,0,none⟩) 1 1)).run Tryz.prog (w1.alloc (.cells #[u8 h.d.a] 5)).drew=.ok (str [h.d.a]) (w1.alloc (.cells #[u8 h.d.a] 5)).drew:=(HBS.out.drew).str (P:=Tryz.prog) 40 5 9 Tryz.underlying40 Tryz.underlying5 Tryz.underlying9
        have HCW:Hid (∀ wA:World,Below (w1.alloc (.cells #[u8 h.d.a] 5)).heap.size (w1.alloc (.cells #[u8 h.d.a] 5)).drew wA→(convert 40 9 (.slice (some ⟨w1.heap.size,0,none⟩) 1 1)).run Tryz.prog wA=.ok (str [h.d.a]) wA):=hid (fun wA hA=>(HBS.out.drew.below hA).str (P:=Tryz.prog) 40 5 9 Tryz.underlying40 Tryz.underlying5 Tryz.underlying9)
        have q0:∀ o1:Obj,(w1.alloc o1).cell? ⟨w.heap.size,0,none⟩=some (u8 h.d.a):=fun o1=>cell_of_row _ w.heap.size 0 _ _ _ (HX1.out.below ((Below.refl _ _).alloc (Nat.le_refl _) o1))
        have q1:∀ o1:Obj,(w1.alloc o1).cell? ⟨w.heap.size,1,none⟩=some (u8 h.d.b):=fun o1=>cell_of_row _ w.heap.size 1 _ _ _ (HX1.out.below ((Below.refl _ _).alloc (Nat.le_refl _) o1))
        have q2:∀ o1:Obj,(w1.alloc o1).cell? ⟨w.heap.size,2,none⟩=some (u8 h.d.c):=fun o1=>cell_of_row _ w.heap.size 2 _ _ _ (HX1.out.below ((Below.refl _ _).alloc (Nat.le_refl _) o1))
        have q3:∀ o1:Obj,(w1.alloc o1).cell? ⟨w.heap.size,3,none⟩=some (u8 h.d.d):=fun o1=>cell_of_row _ w.heap.size 3 _ _ _ (HX1.out.below ((Below.refl _ _).alloc (Nat.le_refl _) o1))
        have q4:∀ o1:Obj,(w1.alloc o1).cell? ⟨w.heap.size,4,none⟩=some (u8 h.d.e):=fun o1=>cell_of_row _ w.heap.size 4 _ _ _ (HX1.out.below ((Below.refl _ _).alloc (Nat.le_refl _) o1))
        obtain ⟨r0,r1,r2,r3,r4,_⟩:=HX1.out.cells
        go_region_with ((go_at_call 103;go_loud ((refine (otherSigns_ h.d _).mono ?_;rintro e wA ⟨rfl,hbA⟩;have HBA:Hid (Below w1.heap.size w1 wA):=hid (by first | exact ((Below.refl _ w1).alloc (Nat.le_refl _) _).drew.trans (hbA.mono (by simp)) | exact (Below.refl _ w1).drew.trans hbA | exact hbA);have HXA:=hid (HX1.out.below HBA.out);(first | (have hcA:=HCW.out wA hbA) | skip);obtain ⟨z0,_,_,_,_,_⟩:=HXA.out.cells;clear hbA))))
        all_goals
          go_wp2_with (fail)
          go_meet
          first
          | exact ⟨wA.heap.size,rfl,OwnS.twoH wA _ _ _ HBA.out.size,HBA.out.alloc HBA.out.size _⟩
          | exact ⟨wA.heap.size+1,rfl,by have t:=OwnS.twoH (wA.alloc (.cells #[u8 h.d.a] 5)) [h.d.a] [h.d.b,h.d.c,h.d.d,h.d.e] w1.heap.size (Nat.le_trans HBA.out.size (by simp));simp only [World.size_alloc] at t;exact t,(HBA.out.alloc HBA.out.size _).alloc (Nat.le_trans HBA.out.size (by simp)) _⟩
    case rest =>
      as_aux_lemma =>
        obtain ⟨g,rfl,ho,hbc⟩:=hcut
        have HO0:Hid (OwnS wc w1.heap.size (.slice (some ⟨g,0,none⟩) 2 2) ((rowH h).take 2)):=hid ho
        have HBC:=hid hbc
        clear ho hbc HBS
        go_wp2_with (fail)
        have HBW:Hid (Below w.heap.size w w1):=HB1
        refine (rows_ wc).mono ?_
        rintro e w7 ⟨rfl,hb7⟩
        have HYL:Hid (∀ y ∈ h.l,y.size≤1000000):=hid (fun y hy=>by
          have h1:=HLB.out
          have h2:=mem_lens (List.mem_map.2 ⟨y,hy,rfl⟩:y.data.toList ∈ h.l.map (·.data.toList))
          simp at h2
          omega)
        have HO7:=hid (HO0.out.below hb7)
        have HB7:=hid (HBC.out.trans (hb7.mono HBC.out.size))
        clear hb7 HO0 HBC
        go_wp2_with (fail)
        go_loopw [25,4,5,7,8] (fun i v f _ _ wr=>∃ k:Nat,k≤10∧i=.int .i64 k∧OwnS wr w1.heap.size v ((rowH h).take (k+2))∧f=.int .i64 ((filledD h.l k:Nat):Int)∧(h.l.take k).all (standD h.d.a)=true∧Below w1.heap.size w1 wr) (fun i _ _ _ _ _=>10-(intOf i).toNat)
        case atStart=>exact ⟨0,by omega,rfl,HO7.out,rfl,rfl,HB7.out⟩
        case round =>
          clear HO7 HB7
          obtain ⟨wo,rfl⟩:∃ wo:World,wo=wr:=⟨_,rfl⟩
          obtain ⟨k,hk,rfl,ho,rfl,hst,hb⟩:=hrel
          have HO:=hid ho
          have HST:=hid hst
          have HB:=hid hb
          clear ho hst hb
          obtain ⟨A4,cc4,rfl,_,_⟩:=HO.out.ss
          obtain ⟨L,hL⟩:∃ L,L=((rowH h).take (k+2)).length:=⟨_,rfl⟩
          have HLL:Hid (L=k+2):=hid (by rw [hL,List.length_take,show (rowH h).length=12 from rfl];omega)
          rw [← hL] at HO ⊢
          clear hL
          by_cases hlt:k<10
          · obtain ⟨F,i0,hkk,hrw⟩:=rowsAt k hlt
            have HRW:=hid hrw
            have HKL:=hid hlt
            have HB1:Hid (Below w1.heap.size w1 (wo.alloc (.cells #[.func (.func F) #[] #[]] 169))):=hid (HB.out.alloc HB.out.size _)
            have HO1:Hid (OwnS (wo.alloc (.cells #[.func (.func F) #[] #[]] 169)) w1.heap.size (.slice A4 L cc4) ((rowH h).take (k+2))):=hid (HO.out.below ((Below.refl _ _).alloc (Nat.le_refl _) _))
            obtain ⟨c0,c1,c2,c3,c4,cx⟩:=(HX1.out.below HB1.out).cells
            have cy:=(HX1.out.below HB1.out).text k hlt
            have HYM:Hid ((h.l.getD k ⟨#[]⟩) ∈ h.l):=hid (h.text_mem k hlt)
            have HRT:Hid ((rowH h).take (k+2)++[(h.l.getD k ⟨#[]⟩).data.toList]=(rowH h).take (k+1+2)):=hid (rowH_take h k hlt)
            have HTA:Hid (standD h.d.a (h.l.getD k ⟨#[]⟩)=true→(h.l.take (k+1)).all (standD h.d.a)=true):=hid (h.take_all _ k hlt HST.out)
            have HFS:Hid (filledD h.l (k+1)=if (h.l.getD k ⟨#[]⟩).toList.isEmpty then filledD h.l k else k+3):=hid (filledD_step h k)
            obtain ⟨y,hy⟩:∃ y,y=h.l.getD k ⟨#[]⟩:=⟨_,rfl⟩
            rw [← hy] at cy HYM HRT HTA HFS
            obtain ⟨f,hf⟩:∃ f,f=filledD h.l k:=⟨_,rfl⟩
            rw [← hf] at HFS ⊢
            clear hrw hk cx hy hf
            have hk0:(k:Int)<10:=by omega
            go_wp2_with (fail)
            refine (HRW.out w.heap.size _).mono ?_
            rintro e wc2 ⟨rfl,rfl⟩
            have hYS:Hid (y.size≤1000000):=hid (HYL.out _ HYM.out)
            go_wp2_with (fail)
            refine (mayStand_ y h.d _).mono ?_
            rintro e wd ⟨rfl,hbd⟩
            have HB2:=hid (HB1.out.trans (hbd.mono HB1.out.size))
            have HO2:=hid (HO1.out.below hbd)
            clear hbd c0 c1 c2 c3 c4 cy HB1 HO1
            cases hs:standD h.d.a y
            · have HEF:Hid (writeH h=([],10)):=hid (by
                rw [HE.out,if_neg]
                intro e
                have t:=List.all_eq_true.1 e y HYM.out
                rw [hs] at t
                cases t)
              go_wp2_with (fail)
              go_ret2
              exact ⟨by rw [HEF.out];rfl,HBW.out.trans (HB2.out.mono HBW.out.size)⟩
            · have HST2:Hid ((h.l.take (k+1)).all (standD h.d.a)=true):=hid (HTA.out hs)
              have HLB2:Hid (((rowH h).take (k+2)).length≤12):=hid (by rw [List.length_take];have:=rowH_len h;omega)
              clear hs
              cases de:y.toList.isEmpty
              · have tok1:Hid True:=hid trivial
                have HF2:Hid (filledD h.l (k+1)=k+3):=hid (by rw [HFS.out,de];rfl)
                go_wp2_with (at_builtin;have _t:=tok1;go_loud ((refine wpList_str rfl (.tmp 38) (.tmp 40) rfl w1.heap.size _ ((rowH h).take (k+2)) rfl (HO2.out.below ((Below.refl _ wd).alloc (Nat.le_refl _) _)) wd.heap.size y.data.toList rfl (heap_alloc_new wd _) (by have:=HLB2.out;omega) (by have:=HB2.out.size;simp;omega) ?_;intro v' w' hown hbel hgr;rw [HRT.out] at hown;obtain ⟨A5,c5,rfl,_,_⟩:=hown.ss;obtain ⟨L5,hL5⟩:∃ L5,L5=((rowH h).take (k+1+2)).length:=⟨_,rfl⟩;have HL5:Hid (L5=k+3):=hid (by rw [hL5,List.length_take,rowH_len];have:=HKL.out;omega);rw [← hL5] at hown ⊢;have HOWN:Hid (OwnS w' w1.heap.size (.slice A5 L5 c5) ((rowH h).take (k+1+2))):=hid hown;have HB3:Hid (Below w1.heap.size w1 w'):=hid ((HB2.out.alloc HB2.out.size _).trans hbel);clear tok1 hown hbel hgr hL5 _t)))
                exact ⟨⟨k+1,by have:=HKL.out;omega,by go_num,HOWN.out,by rw [HF2.out,HL5.out],HST2.out,HB3.out⟩,by have:=HKL.out;simp [intOf];omega⟩
              · have tok1:Hid True:=hid trivial
                have HF2:Hid (filledD h.l (k+1)=f):=hid (by rw [HFS.out,de];rfl)
                go_wp2_with (at_builtin;have _t:=tok1;go_loud ((refine wpList_str rfl (.tmp 38) (.tmp 40) rfl w1.heap.size _ ((rowH h).take (k+2)) rfl (HO2.out.below ((Below.refl _ wd).alloc (Nat.le_refl _) _)) wd.heap.size y.data.toList rfl (heap_alloc_new wd _) (by have:=HLB2.out;omega) (by have:=HB2.out.size;simp;omega) ?_;intro v' w' hown hbel hgr;rw [HRT.out] at hown;obtain ⟨A5,c5,rfl,_,_⟩:=hown.ss;obtain ⟨L5,hL5⟩:∃ L5,L5=((rowH h).take (k+1+2)).length:=⟨_,rfl⟩;have HL5:Hid (L5=k+3):=hid (by rw [hL5,List.length_take,rowH_len];have:=HKL.out;omega);rw [← hL5] at hown ⊢;have HOWN:Hid (OwnS w' w1.heap.size (.slice A5 L5 c5) ((rowH h).take (k+1+2))):=hid hown;have HB3:Hid (Below w1.heap.size w1 w'):=hid ((HB2.out.alloc HB2.out.size _).trans hbel);clear tok1 hown hbel hgr hL5 _t)))
                exact ⟨⟨k+1,by have:=HKL.out;omega,by go_num,HOWN.out,by rw [HF2.out],HST2.out,HB3.out⟩,by have:=HKL.out;simp [intOf];omega⟩
          · obtain rfl:k=10:=by omega
            have HE2:Hid (writeH h=(makeD mshB h.d.a ((rowH h).take (filledD h.l 10)),0)):=hid (by rw [HE.out,if_pos (show h.l.all (standD h.d.a)=true from HST.out)])
            have HFB:Hid (filledD h.l 10≤12):=hid (filledD_le h.l 10)
            have hR12:(rowH h).length=12:=rfl
            have hB2:Lib.lens (rowH h)=1+(4+Lib.lens (h.l.map (·.data.toList))):=by simp [rowH,Lib.lens]
            rw [List.take_of_length_le (by rw [hR12];omega)] at HO
            obtain ⟨RH,hRH⟩:∃ RH,RH=rowH h:=⟨_,rfl⟩
            rw [← hRH] at HO HE2 hR12 hB2
            clear hRH
            obtain ⟨g4,c4',e4,_,_,hcap,hcm⟩:=HO.out.form (by rw [hR12];omega)
            rw [e4] at HO ⊢
            rw [hR12] at HO hcap ⊢
            have HSS:Hid (Ss wo (some ⟨g4,0,none⟩) (filledD h.l 10) c4' (RH.take (filledD h.l 10))):=hid (Ss.take (n:=12) (by have t:=HO.out;rw [← hR12] at t;have t2:=OwnS.ss' t;rw [hR12] at t2;exact t2) HFB.out)
            have HBK:Hid (Lib.lens (RH.take (filledD h.l 10))+(RH.take (filledD h.l 10)).length≤1048576):=hid (by
              have h1:=Lib.lens_take_le RH (filledD h.l 10)
              have h2:=hB2
              have h3:(RH.take (filledD h.l 10)).length≤12:=by rw [List.length_take,hR12];omega
              have h4:=HLB.out
              omega)
            obtain ⟨F,hF⟩:∃ F,F=filledD h.l 10:=⟨_,rfl⟩
            rw [← hF] at HE2 HFB HSS HBK ⊢
            obtain ⟨U,hU⟩:∃ U,U=RH.take F:=⟨_,rfl⟩
            rw [← hU] at HE2 HSS HBK
            have HCAP:Hid (12≤c4'):=hid hcap
            have HMS:Hid (mshB.size≤1048576):=hid (by decide)
            have hf1:(F:Int)≤(c4':Int):=by have:=HFB.out;have:=HCAP.out;omega
            have hf2:(0:Int)≤(F:Int):=by omega
            have hf3:F≤c4':=by omega
            have HX2:=hid (HX1.out.below HB.out)
            have HB0:=hid (HBW.out.trans (HB.out.mono HBW.out.size))
            clear HX1 HB1 HBW HB HYL HLB HST HE HW HLL hlt hk hF hU hcap HO hR12 hB2 e4 hcm
            obtain ⟨r0,r1,r2,r3,r4,rx⟩:=HX2.out.cells
            clear rx
            go_wp2_with (fail)
            go_region_held3 (fun w'=>w'.cell? ⟨w.heap.size,0,none⟩=some (.int .u8 (h.d.a.toNat:Int))∧w'.cell? ⟨w.heap.size,1,none⟩=some (.int .u8 (h.d.b.toNat:Int))∧w'.cell? ⟨w.heap.size,2,none⟩=some (.int .u8 (h.d.c.toNat:Int))∧w'.cell? ⟨w.heap.size,3,none⟩=some (.int .u8 (h.d.d.toNat:Int))∧w'.cell? ⟨w.heap.size,4,none⟩=some (.int .u8 (h.d.e.toNat:Int))) (go_keep) ((go_at_call 118;go_loud ((refine (segMake h.d mshB (some ⟨g4,0,none⟩) F c4' U _ (by first | exact HSS.out | exact HSS.out.below (Below.refl _ _).drew) HMS.out HBK.out).mono ?_;rintro e wM ⟨rfl,hbM⟩;have HBM:Hid (Below w.heap.size w wM):=hid (by first | exact HB0.out.trans (hbM.mono HB0.out.size) | exact HB0.out.trans (((Below.refl _ _).drew.trans hbM).mono HB0.out.size));obtain ⟨z0,z1,z2,z3,z4,zx⟩:=(HX2.out.keep (by first | exact hbM | exact (Below.refl _ _).drew.trans hbM) (Array.getElem?_eq_some_iff.1 HX2.out).1).cells;clear hbM zx))))
            all_goals
              go_wp2_with (fail)
              go_ret2
              exact ⟨by rw [HE2.out];rfl,HBM.out⟩
end
/- Layer 9: a head against itself. -/
section
open Go.RowKit
end
/- Layer 9: how great a head is. -/
section
open Go.RowKit
def Hd.sum (h:Hd):Nat:=h.a0.size+h.a1.size+h.a2.size+h.a3.size+h.a4.size+h.a5.size+h.a6.size+h.a7.size+h.a8.size+h.a9.size
theorem Hd.sum_eq (h:Hd):h.sum=Lib.lens (h.l.map (·.data.toList)):=by
  have k:∀ b:ByteArray,b.data.toList.length=b.size:=fun b=>by simp
  simp only [Hd.sum,Hd.l,Lib.lens,List.map_cons,List.map_nil,List.sum_cons,List.sum_nil,k]
  omega
end
/- Layer 9: how a head is written. -/
section
open Go.RowKit
theorem writeH_cases (h:Hd):(writeH h=([],11))∨(writeH h=([],10))∨(writeH h=(segH h,0)∧h.d.good=true∧h.l.all (standD h.d.a)=true):=by
  by_cases hg:h.d.good=true
  · by_cases hs:h.l.all (standD h.d.a)=true
    · exact .inr (.inr ⟨writeH_good hg hs,hg,hs⟩)
    · exact .inr (.inl (by unfold writeH;rw [if_pos hg,if_neg hs]))
  · exact .inl (by unfold writeH;rw [if_neg hg])
theorem lens_joinTail (c:UInt8) (T:List (List UInt8)):(Lib.joinTail [c] T).length=Lib.lens T+T.length:=by
  induction T with
  | nil=>rfl
  | cons a r ih =>
    simp only [Lib.joinTail,Lib.lens] at ih ⊢
    simp only [List.map_cons,List.flatten_cons,List.length_append,List.length_cons,List.length_nil,List.sum_cons] at ih ⊢
    omega
theorem segH_len (h:Hd):(segH h).length≤h.sum+18:=by
  rw [segH_eq,List.length_append,lens_joinTail,h.sum_eq]
  have h1:=Lib.lens_take_le (h.l.map (·.data.toList)) (filledD h.l 10-2)
  have h2:(rowK h).length≤10:=by
    unfold rowK
    rw [List.length_take]
    have:(h.l.map (·.data.toList)).length=10:=rfl
    omega
  unfold rowK at h2 ⊢
  simp only [List.length_cons,List.length_nil]
  omega
end
/- Layer 10: the codes of answers,walked. -/
section
open Go.RowKit
def cB:Nat→ByteArray
  | 0=>⟨#[65,65]⟩
  | 1=>⟨#[65,69]⟩
  | 2=>⟨#[65,82]⟩
  | _=>⟨#[]⟩
def codesL:List ByteArray:=[cB 0,cB 1,cB 2]
abbrev codesV:Array Value:=#[.string (cB 0),.string (cB 1),.string (cB 2)]
def Cds (w:World):Prop:=w.cell? ⟨1,0,none⟩=some (.string (cB 0))∧w.cell? ⟨1,1,none⟩=some (.string (cB 1))∧w.cell? ⟨1,2,none⟩=some (.string (cB 2))
theorem Cds.below {w w':World} (h:Cds w) (hb:Below w.heap.size w w'):Cds w':=by
  obtain ⟨h0,h1,h2⟩:=h
  have hl:=World.block_lt_of_cell? w _ h0
  exact ⟨(hb.cell (p:=⟨1,0,none⟩) hl).trans h0,(hb.cell (p:=⟨1,1,none⟩) hl).trans h1,(hb.cell (p:=⟨1,2,none⟩) hl).trans h2⟩
def codeD (s:ByteArray):Bool:=codesL.any fun v=>decide (v=s)
set_option maxHeartbeats 4000000 in
set_option maxRecDepth 100000 in
theorem ackKnown_ (s:ByteArray) (w:World) (hv:Cds w):Calls Tryz.prog 74 #[.string s] w fun e w'=>e=.returned (.bool (codeD s))∧w'=w:=by
  obtain ⟨v0,v1,v2⟩:=hv
  go_enter Tryz.func74,Tryz.ntmps74
  go_wp2_with (fail)
  clear v0 v1 v2
  go_loop [6,4] (fun i _=>∃ k:Nat,k≤3∧i=.int .i64 k∧∀ j,j<k→cB j≠s) (fun i _=>3-(intOf i).toNat)
  case atStart=>exact ⟨0,by omega,rfl,fun j h=>absurd h (by omega)⟩
  case round =>
    obtain ⟨k,hk,rfl,hn⟩:=hrel
    have HN:=hid hn
    clear hn
    by_cases hlt:k<3
    · match k,hlt with
      | 0,_ =>
        rw [show ((0:Nat):Int)=0 from rfl]
        have i0:∀ W,(Instr.index 179 (.agg codesV) (.int .i64 0)).run Tryz.prog W=.ok (.string (cB 0)) W:=fun _=>by kernel_rfl
        clear hlt hk
        by_cases he:cB 0=s
        · have d:=strEq_t he
          have HE:Hid (codeD s=true):=hid (by unfold codeD codesL;simp [he])
          clear he
          go_wp2_with (fail)
          go_ret
          rw [HE.out];exact ⟨rfl,rfl⟩
        · have d:=strEq_f he
          have HM:Hid (∀ j,j<1→cB j≠s):=hid (fun j hj=>by
            rcases Nat.lt_or_ge j 0 with h|h
            · exact HN.out j h
            · have:j=0:=by omega
              rw [this];exact he)
          clear he
          go_wp2_with (fail)
          exact ⟨⟨1,by omega,rfl,HM.out⟩,by simp [intOf]⟩
      | 1,_ =>
        rw [show ((1:Nat):Int)=1 from rfl]
        have i0:∀ W,(Instr.index 179 (.agg codesV) (.int .i64 1)).run Tryz.prog W=.ok (.string (cB 1)) W:=fun _=>by kernel_rfl
        clear hlt hk
        by_cases he:cB 1=s
        · have d:=strEq_t he
          have HE:Hid (codeD s=true):=hid (by unfold codeD codesL;simp [he])
          clear he
          go_wp2_with (fail)
          go_ret
          rw [HE.out];exact ⟨rfl,rfl⟩
        · have d:=strEq_f he
          have HM:Hid (∀ j,j<2→cB j≠s):=hid (fun j hj=>by
            rcases Nat.lt_or_ge j 1 with h|h
            · exact HN.out j h
            · have:j=1:=by omega
              rw [this];exact he)
          clear he
          go_wp2_with (fail)
          exact ⟨⟨2,by omega,rfl,HM.out⟩,by simp [intOf]⟩
      | 2,_ =>
        rw [show ((2:Nat):Int)=2 from rfl]
        have i0:∀ W,(Instr.index 179 (.agg codesV) (.int .i64 2)).run Tryz.prog W=.ok (.string (cB 2)) W:=fun _=>by kernel_rfl
        clear hlt hk
        by_cases he:cB 2=s
        · have d:=strEq_t he
          have HE:Hid (codeD s=true):=hid (by unfold codeD codesL;simp [he])
          clear he
          go_wp2_with (fail)
          go_ret
          rw [HE.out];exact ⟨rfl,rfl⟩
        · have d:=strEq_f he
          have HM:Hid (∀ j,j<3→cB j≠s):=hid (fun j hj=>by
            rcases Nat.lt_or_ge j 2 with h|h
            · exact HN.out j h
            · have:j=2:=by omega
              rw [this];exact he)
          clear he
          go_wp2_with (fail)
          exact ⟨⟨3,by omega,rfl,HM.out⟩,by simp [intOf]⟩
    · obtain rfl:k=3:=by omega
      have HE:Hid (codeD s=false):=hid (by
        have h:=HN.out
        unfold codeD codesL
        simp only [List.any_cons,List.any_nil,Bool.or_false,Bool.or_eq_false_iff,decide_eq_false_iff_not]
        exact ⟨h 0 (by omega),h 1 (by omega),h 2 (by omega)⟩)
      clear hlt hk
      go_wp2_with (fail)
      go_ret
      rw [HE.out];exact ⟨rfl,rfl⟩
def ansH (h:Hd):Hd:=⟨h.d,h.a2,h.a3,h.a0,h.a1,h.a4,⟨#[]⟩,⟨#[65,67,75]⟩,h.a7,h.a8,h.a9⟩
set_option maxHeartbeats 4000000 in
set_option maxRecDepth 100000 in
theorem headOf_ (h:Hd) (w:World):Calls Tryz.prog 116 #[h.v] w fun e w'=>e=.returned (ansH h).v∧Below w.heap.size w w':=by
  have HY0:Hid (BoxH (ansH h) (w.heap.size+1) ((w.alloc (.cells #[u8 h.d.a,u8 h.d.b,u8 h.d.c,u8 h.d.d,u8 h.d.e,.string h.a0,.string h.a1,.string h.a2,.string h.a3,.string h.a4,.string h.a5,.string h.a6,.string h.a7,.string h.a8,.string h.a9] TH)).alloc (.cells #[.int .u8 (h.d.a.toNat:Int),.int .u8 (h.d.b.toNat:Int),.int .u8 (h.d.c.toNat:Int),.int .u8 (h.d.d.toNat:Int),.int .u8 (h.d.e.toNat:Int),.string h.a2,.string h.a3,.string h.a0,.string h.a1,.string h.a4,.string ⟨#[]⟩,.string ⟨#[65,67,75]⟩,.string h.a7,.string h.a8,.string h.a9] TH))):=hid (by
    have t:=BoxH.new (ansH h) (w.alloc (.cells h.cells TH))
    rw [World.size_alloc] at t
    exact t)
  have HB0:Hid (Below w.heap.size w ((w.alloc (.cells #[u8 h.d.a,u8 h.d.b,u8 h.d.c,u8 h.d.d,u8 h.d.e,.string h.a0,.string h.a1,.string h.a2,.string h.a3,.string h.a4,.string h.a5,.string h.a6,.string h.a7,.string h.a8,.string h.a9] TH)).alloc (.cells #[.int .u8 (h.d.a.toNat:Int),.int .u8 (h.d.b.toNat:Int),.int .u8 (h.d.c.toNat:Int),.int .u8 (h.d.d.toNat:Int),.int .u8 (h.d.e.toNat:Int),.string h.a2,.string h.a3,.string h.a0,.string h.a1,.string h.a4,.string ⟨#[]⟩,.string ⟨#[65,67,75]⟩,.string h.a7,.string h.a8,.string h.a9] TH))):=hid ((boxHd_below h w).alloc (boxHd_below h w).size _)
  go_enter Tryz.func116,Tryz.ntmps116
  go_wp2_with (fail)
  generalize ((w.alloc (.cells #[u8 h.d.a,u8 h.d.b,u8 h.d.c,u8 h.d.d,u8 h.d.e,.string h.a0,.string h.a1,.string h.a2,.string h.a3,.string h.a4,.string h.a5,.string h.a6,.string h.a7,.string h.a8,.string h.a9] TH)).alloc (.cells #[.int .u8 (h.d.a.toNat:Int),.int .u8 (h.d.b.toNat:Int),.int .u8 (h.d.c.toNat:Int),.int .u8 (h.d.d.toNat:Int),.int .u8 (h.d.e.toNat:Int),.string h.a2,.string h.a3,.string h.a0,.string h.a1,.string h.a4,.string ⟨#[]⟩,.string ⟨#[65,67,75]⟩,.string h.a7,.string h.a8,.string h.a9] TH))=w3 at *
  obtain ⟨a,ha⟩:∃ a,a=ansH h:=⟨_,rfl⟩
  rw [← ha] at HY0 ⊢
  clear ha
  obtain ⟨c0,c1,c2,c3,c4,c5,c6,c7,c8,c9,c10,c11,c12,c13,c14⟩:=HY0.out.cells
  refine bodyPost_ret (v:=a.v) ?_ rfl ⟨rfl,HB0.out⟩
  simp [results,Tryz.results116,go_sem,*]
end
/- Layer 10: an answer that is built is read as its code and Id. -/
section
open Go.RowKit Lib
abbrev msaB:ByteArray:=⟨#[77,83,65]⟩
def buildD (h:Hd) (code:ByteArray):List UInt8 × Int :=
  if codeD code=true then if (writeH (ansH h)).2=0 then (joinD [(writeH (ansH h)).1,makeD msaB h.d.a [code.data.toList,h.a7.data.toList]],0) else ([],(writeH (ansH h)).2) else ([],17)
theorem splitD_cons (m l:List UInt8) (h:(13:UInt8) ∉ m):splitD (m++13 :: l)=m :: splitD l:=by
  unfold splitD
  rw [cutAt_front 13 m l h]
  obtain ⟨x,r,hx⟩:∃ x r,cutAt 13 l=x :: r:=by
    cases h:cutAt 13 l with
    | nil=>exact absurd h (cutAt_ne _ _)
    | cons a b=>exact ⟨a,b,rfl⟩
  rw [hx]
  have e:(m :: x :: r).getLastD []=(x :: r).getLastD []:=by cases r <;> rfl
  rw [e]
  split <;> rfl
theorem code_mem {s:ByteArray} (h:codeD s=true):s=cB 0∨s=cB 1∨s=cB 2:=by
  unfold codeD codesL at h
  simp only [List.any_cons,List.any_nil,Bool.or_false,Bool.or_eq_true,decide_eq_true_iff] at h
  rcases h with h|h|h
  · exact .inl h.symm
  · exact .inr (.inl h.symm)
  · exact .inr (.inr h.symm)
theorem sign_no_letter {x:UInt8} (h:isSign x.toNat=true) (y:UInt8) (hy:isSign y.toNat=false):x≠y:=fun e=>by
  subst e;rw [h] at hy;cases hy
theorem good_a {s:Sgn} (h:s.good=true):isSign s.a.toNat=true:=(good_signs h).1 s.a (by simp [Sgn.l])
theorem makeD_two (c:UInt8) (x y:List UInt8):makeD msaB c [x,y]=[77,83,65]++joinTail [c] [x,y]:=makeD_plain msaB c _ (by decide)
theorem ansH_l (h:Hd):(ansH h).l=[h.a2,h.a3,h.a0,h.a1,h.a4,⟨#[]⟩,⟨#[65,67,75]⟩,h.a7,h.a8,h.a9]:=rfl
theorem buildD_cases (h:Hd) (code:ByteArray):buildD h code=([],17)∨buildD h code=([],11)∨buildD h code=([],10)∨(buildD h code=(segH (ansH h)++13 :: (makeD msaB h.d.a [code.data.toList,h.a7.data.toList]++[13]),0)∧codeD code=true∧h.d.good=true∧(ansH h).l.all (standD h.d.a)=true):=by
  unfold buildD
  by_cases hk:codeD code=true
  · rw [if_pos hk]
    by_cases hg:h.d.good=true
    · by_cases hs:(ansH h).l.all (standD h.d.a)=true
      · have e:writeH (ansH h)=(segH (ansH h),0):=writeH_good (h:=ansH h) hg hs
        rw [e,if_pos rfl]
        refine .inr (.inr (.inr ⟨?_,hk,hg,hs⟩))
        simp [joinD]
      · have e:writeH (ansH h)=([],10):=by
          unfold writeH
          rw [if_pos (show (ansH h).d.good=true from hg),if_neg (show ¬ (ansH h).l.all (standD (ansH h).d.a)=true from hs)]
        rw [e,if_neg (by decide)]
        exact .inr (.inr (.inl rfl))
    · have e:writeH (ansH h)=([],11):=by
        unfold writeH
        rw [if_neg (show ¬ (ansH h).d.good=true from hg)]
      rw [e,if_neg (by decide)]
      exact .inr (.inl rfl)
  · rw [if_neg hk]
    exact .inl rfl
end
/- Layer 10: an answer built,and read,walked. -/
section
open Go.RowKit
def RetBE (w:World) (r:List UInt8 × Int) (e:Ending) (w':World):Prop :=
  ∃ A c,e=.returned (.tuple #[.slice A r.1.length c,.int .i64 r.2])∧Bs w' A r.1.length c r.1∧Below w.heap.size w w'
theorem ansH_sum (h:Hd):(ansH h).sum≤h.sum+3:=by
  unfold Hd.sum ansH
  have e1:(ByteArray.mk #[]).size=0:=rfl
  have e2:(ByteArray.mk #[65,67,75]).size=3:=rfl
  simp only [e1,e2]
  omega
theorem a7_le (h:Hd):h.a7.size≤h.sum:=by unfold Hd.sum;omega
theorem lens_two (x y:List UInt8):Lib.lens [x,y]=x.length+y.length:=by simp [Lib.lens]
theorem msa_len (c:UInt8) (x y:List UInt8):(makeD msaB c [x,y]).length=x.length+y.length+5:=by
  rw [makeD_two];simp [Lib.joinTail];omega
theorem buildD_len (h:Hd) (code:ByteArray):(buildD h code).1.length≤2*h.sum+code.size+40:=by
  rcases buildD_cases h code with e|e|e|⟨e,_,_,_⟩
  · rw [e];simp
  · rw [e];simp
  · rw [e];simp
  · rw [e]
    have h1:=segH_len (ansH h)
    have h2:=ansH_sum h
    have h3:=a7_le h
    have h4:code.data.toList.length=code.size:=by simp
    have h5:h.a7.data.toList.length=h.a7.size:=by simp
    simp only [List.length_append,List.length_cons,List.length_nil,msa_len]
    omega
set_option maxHeartbeats 8000000 in
set_option maxRecDepth 100000 in
theorem ackBuild (h:Hd) (code:ByteArray) (w:World) (hv:Cds w) (hb:h.sum≤300000) (hc:code.size≤1000):Calls Tryz.prog 85 #[h.v,.string code] w (RetBE w (buildD h code)):=by
  have HX0:=hid (BoxH.new h w)
  have HB0:=hid (boxHd_below h w)
  have HV0:=hid (hv.below (boxHd_below h w))
  have HS:=hid hb
  have HC:=hid hc
  have HAS:=hid (ansH_sum h)
  have HA7:=hid (a7_le h)
  clear hv hb hc
  go_enter Tryz.func85,Tryz.ntmps85
  go_wp2_with (fail)
  generalize w.alloc (.cells #[u8 h.d.a,u8 h.d.b,u8 h.d.c,u8 h.d.d,u8 h.d.e,.string h.a0,.string h.a1,.string h.a2,.string h.a3,.string h.a4,.string h.a5,.string h.a6,.string h.a7,.string h.a8,.string h.a9] TH)=w0 at *
  refine (ackKnown_ code w0 HV0.out).mono ?_
  rintro e w1 ⟨rfl,rfl⟩
  cases hk:codeD code
  · have HE:Hid (buildD h code=([],17)):=hid (by unfold buildD;rw [hk];rfl)
    go_wp2_with (fail)
    go_ret2
    exact ⟨none,0,by rw [HE.out];rfl,by rw [HE.out];exact Bs.none_ _,HB0.out⟩
  · obtain ⟨c0,c1,c2,c3,c4,c5,c6,c7,c8,c9,c10,c11,c12,c13,c14⟩:=HX0.out.cells
    go_wp2_with (fail)
    clear c0 c1 c2 c3 c4 c5 c6 c7 c8 c9 c10 c11 c12 c13 c14
    refine (headOf_ h w1).mono ?_
    rintro e w2 ⟨rfl,hb2⟩
    have HX2:=hid (HX0.out.below hb2)
    have HB2:=hid (HB0.out.trans (hb2.mono HB0.out.size))
    clear hb2 HX0
    go_wp2_with (fail)
    refine (write_ (ansH h) w2 (by rw [← Hd.sum_eq];have:=HAS.out;have:=HS.out;omega)).mono ?_
    rintro e w3 ⟨rfl,hb3⟩
    have HX3:=hid (HX2.out.below hb3)
    have HB3:=hid (HB2.out.trans (hb3.mono HB2.out.size))
    clear hb3 HX2
    rcases writeH_cases (ansH h) with hw|hw|⟨hw,hg,hst⟩
    · have HE:Hid (buildD h code=([],11)):=hid (by unfold buildD;rw [if_pos hk,hw];rfl)
      rw [hw]
      rw [show str (([],(11:Int)):List UInt8 × Int).1=Value.string ⟨#[]⟩ from rfl]
      clear hw hk
      go_wp2_with (fail)
      go_ret2
      exact ⟨none,0,by rw [HE.out];rfl,by rw [HE.out];exact Bs.none_ _,HB3.out⟩
    · have HE:Hid (buildD h code=([],10)):=hid (by unfold buildD;rw [if_pos hk,hw];rfl)
      rw [hw]
      rw [show str (([],(10:Int)):List UInt8 × Int).1=Value.string ⟨#[]⟩ from rfl]
      clear hw hk
      go_wp2_with (fail)
      go_ret2
      exact ⟨none,0,by rw [HE.out];rfl,by rw [HE.out];exact Bs.none_ _,HB3.out⟩
    · have HE:Hid (buildD h code=(joinD [segH (ansH h),makeD msaB h.d.a [code.data.toList,h.a7.data.toList]],0)):=hid (by unfold buildD;rw [if_pos hk,hw];rfl)
      have HSL:Hid ((segH (ansH h)).length≤300021):=hid (by have:=segH_len (ansH h);have:=HAS.out;have:=HS.out;omega)
      rw [hw]
      clear hw hk hg hst
      obtain ⟨c0,c1,c2,c3,c4,c5,c6,c7,c8,c9,c10,c11,c12,c13,c14⟩:=HX3.out.cells
      go_wp2_with (fail)
      clear c0 c1 c2 c3 c4 c5 c6 c7 c8 c9 c10 c11 c12 c13 c14
      have HO4:Hid (OwnS (w3.alloc (.cells #[.string code,.string h.a7] 9)) w3.heap.size (.slice (some ⟨w3.heap.size,0,none⟩) 2 2) [code.data.toList,h.a7.data.toList]):=hid (OwnS.twoH w3 code.data.toList h.a7.data.toList _ (Nat.le_refl _))
      have HB4:Hid (Below w.heap.size w (w3.alloc (.cells #[.string code,.string h.a7] 9))):=hid (HB3.out.alloc HB3.out.size _)
      have HT:Hid (Lib.lens [code.data.toList,h.a7.data.toList]≤302000):=hid (by rw [lens_two];have:=HC.out;have:=HA7.out;have:=HS.out;simp;omega)
      generalize w3.alloc (.cells #[.string code,.string h.a7] 9)=w4 at *
      refine (segMake h.d msaB _ 2 2 _ w4 HO4.out.ss' (by decide) (by have:=HT.out;simp only [List.length_cons,List.length_nil];omega)).mono ?_
      rintro e w5 ⟨rfl,hb5⟩
      have HB5:=hid (HB4.out.trans (hb5.mono HB4.out.size))
      have HML:Hid ((makeD msaB h.d.a [code.data.toList,h.a7.data.toList]).length≤302005):=hid (by rw [msa_len,← lens_two];have:=HT.out;omega)
      clear hb5 HO4 HB4 HT
      obtain ⟨M,hM⟩:∃ M,M=makeD msaB h.d.a [code.data.toList,h.a7.data.toList]:=⟨_,rfl⟩
      rw [← hM] at HE HML ⊢
      obtain ⟨S,hS⟩:∃ S,S=segH (ansH h):=⟨_,rfl⟩
      rw [← hS] at HE HSL ⊢
      clear hM hS
      go_wp2_with (fail)
      have HO6:Hid (OwnS (w5.alloc (.cells #[str S,str M] 9)) w5.heap.size (.slice (some ⟨w5.heap.size,0,none⟩) 2 2) [S,M]):=hid (OwnS.twoH w5 S M _ (Nat.le_refl _))
      have HB6:Hid (Below w.heap.size w (w5.alloc (.cells #[str S,str M] 9))):=hid (HB5.out.alloc HB5.out.size _)
      generalize w5.alloc (.cells #[str S,str M] 9)=w6 at *
      refine (segJoin _ 2 2 [S,M] w6 HO6.out.ss' (by rw [lens_two];have:=HSL.out;have:=HML.out;simp only [List.length_cons,List.length_nil];omega)).mono ?_
      rintro e w7 ⟨A7,c7,rfl,hB7,hb7⟩
      have HBS:=hid hB7
      have HB7:=hid (HB6.out.trans (hb7.mono HB6.out.size))
      clear hB7 hb7 HO6
      go_wp2_with (fail)
      go_ret2
      exact ⟨A7,c7,by rw [HE.out];rfl,by rw [HE.out];exact HBS.out,HB7.out⟩
end
section
open Go.RowKit Lib
theorem cut_mem {c:UInt8}:∀ {l x:List UInt8},x ∈ cutAt c l→c ∉ x∧x.length≤l.length∧∀ y ∈ x,y ∈ l
  | [],x,h=>by
    simp [cutAt] at h
    subst h
    exact ⟨by simp,by simp,fun y hy=>by cases hy⟩
  | a :: r,x,h=>by
    unfold cutAt at h
    split at h
    · rcases List.mem_cons.1 h with rfl|h
      · exact ⟨by simp,by simp,fun y hy=>by cases hy⟩
      · obtain ⟨h1,h2,h3⟩:=cut_mem h
        exact ⟨h1,by simp only [List.length_cons];omega,fun y hy=>List.mem_cons_of_mem _ (h3 y hy)⟩
    · rename_i hne
      have hm:∀ z ∈ cutAt c r,c ∉ z∧z.length≤r.length∧∀ y ∈ z,y ∈ r:=fun z hz=>cut_mem hz
      cases hc:cutAt c r with
      | nil=>exact absurd hc (cutAt_ne _ _)
      | cons p q =>
        rw [hc] at h hm
        simp only at h
        rcases List.mem_cons.1 h with rfl|h
        · obtain ⟨h1,h2,h3⟩:=hm p (by simp)
          refine ⟨fun hin=>?_,by simp only [List.length_cons];omega,fun y hy=>?_⟩
          · rcases List.mem_cons.1 hin with e|e
            · exact hne e.symm
            · exact h1 e
          · rcases List.mem_cons.1 hy with e|e
            · rw [e];simp
            · exact List.mem_cons_of_mem _ (h3 y e)
        · obtain ⟨h1,h2,h3⟩:=hm x (by simp [h])
          exact ⟨h1,by simp only [List.length_cons];omega,fun y hy=>List.mem_cons_of_mem _ (h3 y hy)⟩
theorem getD_mem_or {α:Type} (T:List α) (k:Nat) (d:α):T.getD k d ∈ T∨T.getD k d=d:=by
  rw [List.getD_eq_getElem?_getD]
  rcases Nat.lt_or_ge k T.length with h|h
  · rw [List.getElem?_eq_getElem h];exact .inl (List.getElem_mem h)
  · rw [List.getElem?_eq_none h];exact .inr rfl
theorem cut_getD {c:UInt8} (l:List UInt8) (k:Nat):c ∉ (cutAt c l).getD k []∧((cutAt c l).getD k []).length≤l.length∧∀ y ∈ (cutAt c l).getD k [],y ∈ l:=by
  rcases getD_mem_or (cutAt c l) k [] with h|h
  · exact cut_mem h
  · rw [h];exact ⟨by simp,by simp,fun y hy=>by cases hy⟩
theorem fields_mem (s:List UInt8) (c:UInt8) (k:Nat):c ∉ (fieldsD (txt s) c).getD (k+1) []∧((fieldsD (txt s) c).getD (k+1) []).length≤s.length∧∀ y ∈ (fieldsD (txt s) c).getD (k+1) [],y ∈ s:=by
  have none_:c ∉ ([]:List UInt8)∧([]:List UInt8).length≤s.length∧∀ y ∈ ([]:List UInt8),y ∈ s:=⟨by simp,by simp,fun y hy=>by cases hy⟩
  unfold fieldsD
  split
  · unfold behD
    split
    · rename_i h
      split at h
      · cases h
      · exact none_
    · rename_i r h
      split at h
      · injection h with h
        subst h
        rw [List.getD_cons_succ]
        obtain ⟨h1,h2,h3⟩:=cut_getD (c:=c) ((txt s).extract 4 (txt s).size).data.toList k
        have e:((txt s).extract 4 (txt s).size).data.toList=s.drop 4:=by
          rw [ex_list,show (txt s).data.toList=s from by simp,txt_size]
          exact List.take_of_length_le (by simp)
        rw [e] at h1 h2 h3 ⊢
        exact ⟨h1,by rw [List.length_drop] at h2;omega,fun y hy=>List.mem_of_mem_drop (h3 y hy)⟩
      · cases h
  · rw [show (txt s).data.toList=s from by simp]
    have e:(cutAt c s).tail.getD (k+1) []=(cutAt c s).getD (k+2) []:=by
      cases hc:cutAt c s with
      | nil=>exact absurd hc (cutAt_ne _ _)
      | cons a b=>rfl
    rw [e]
    exact cut_getD s (k+2)
theorem seg0_mem (l:List UInt8):(13:UInt8) ∉ (splitD l).getD 0 []∧((splitD l).getD 0 []).length≤l.length:=by
  rcases getD_mem_or (splitD l) 0 [] with h|h
  · have hm:(splitD l).getD 0 [] ∈ cutAt 13 l:=by
      unfold splitD at h ⊢
      split at h
      · rename_i hc
        rw [if_pos hc]
        exact List.dropLast_subset _ h
      · rename_i hc
        rw [if_neg hc]
        exact h
    exact ⟨(cut_mem hm).1,(cut_mem hm).2.1⟩
  · rw [h];exact ⟨by simp,by simp⟩
theorem readD_good {l:List UInt8} (h:(readD l).2=0):(readD l).1.good=true:=by
  unfold readD at h ⊢
  split at h
  · cases h
  · rename_i h1
    rw [if_neg h1]
    split at h
    · cases h
    · rename_i h2
      rw [if_neg h2]
      split at h
      · cases h
      · rename_i h3
        rw [if_neg h3]
        simp only
        cases hg:(Sgn.of l).good
        · exact absurd (.inr hg) h2
        · rfl
theorem hdTo_l (d:Sgn) (T:Nat→ByteArray):(hdTo d T 10).l=[T 0,T 1,T 2,T 3,T 4,T 5,T 6,T 7,T 8,T 9]:=rfl
theorem read_stands {l:List UInt8} {h:Hd} (hr:readH l=(h,0)):h.d.good=true∧h.l.all (standD h.d.a)=true∧∀ b ∈ h.l,b.size≤l.length:=by
  unfold readH at hr
  split at hr
  · rename_i h0
    have hg:=readD_good h0
    split at hr
    · obtain ⟨seg,hseg⟩:∃ seg,seg=(splitD l).getD 0 []:=⟨_,rfl⟩
      obtain ⟨s1,s2⟩:=seg0_mem l
      rw [← hseg] at hr s1 s2
      injection hr with hr _
      obtain ⟨d,hd⟩:∃ d,d=(readD l).1:=⟨_,rfl⟩
      rw [← hd] at hr hg
      subst hr
      have key:∀ i,standD d.a (textsD (fieldsD (txt seg) d.a) i)=true∧(textsD (fieldsD (txt seg) d.a) i).size≤l.length:=fun i=>by
        obtain ⟨h1,h2,h3⟩:=fields_mem seg d.a (i+1)
        have e:textsD (fieldsD (txt seg) d.a) i=txt ((fieldsD (txt seg) d.a).getD (i+1+1) []):=by unfold textsD;rw [show 2+i=i+1+1 by omega]
        rw [e]
        generalize (fieldsD (txt seg) d.a).getD (i+1+1) []=x at h1 h2 h3
        refine ⟨?_,by rw [txt_size];omega⟩
        unfold standD
        rw [show (txt x).data.toList=x from by simp]
        simp only [Bool.and_eq_true,Bool.not_eq_true']
        refine ⟨?_,?_⟩
        · cases hc:x.contains d.a
          · rfl
          · exact absurd (List.contains_iff_mem.1 hc) h1
        · cases hc:x.contains 13
          · rfl
          · exact absurd (h3 13 (List.contains_iff_mem.1 hc)) s1
      refine ⟨hg,?_,fun b hb=>?_⟩
      · rw [hdTo_l]
        simp only [List.all_cons,List.all_nil,Bool.and_true,Bool.and_eq_true]
        exact ⟨(key 0).1,(key 1).1,(key 2).1,(key 3).1,(key 4).1,(key 5).1,(key 6).1,(key 7).1,(key 8).1,(key 9).1⟩
      · rw [hdTo_l] at hb
        simp only [List.mem_cons,List.not_mem_nil,or_false] at hb
        rcases hb with rfl|rfl|rfl|rfl|rfl|rfl|rfl|rfl|rfl|rfl
        · exact (key 0).2
        · exact (key 1).2
        · exact (key 2).2
        · exact (key 3).2
        · exact (key 4).2
        · exact (key 5).2
        · exact (key 6).2
        · exact (key 7).2
        · exact (key 8).2
        · exact (key 9).2
    · injection hr with _ h2
      cases h2
  · rename_i h0
    injection hr with _ h2
    exact absurd h2 h0
theorem sum_le_of {h:Hd} {n:Nat} (hb:∀ b ∈ h.l,b.size≤n):h.a8.size≤n∧h.a9.size≤n∧Lib.lens (h.l.map (·.data.toList))≤10*n:=by
  have k:∀ b:ByteArray,b.data.toList.length=b.size:=fun b=>by simp
  simp only [Hd.l,List.mem_cons,List.not_mem_nil,or_false,forall_eq_or_imp,forall_eq] at hb
  obtain ⟨h0,h1,h2,h3,h4,h5,h6,h7,h8,h9⟩:=hb
  refine ⟨h8,h9,?_⟩
  simp only [Hd.l,Lib.lens,List.map_cons,List.map_nil,List.sum_cons,List.sum_nil,k]
  omega
end
section
open Go.RowKit
def Signs (w:World):Prop :=
  w.cell? ⟨0,0,none⟩=some (.int .u8 11)∧w.cell? ⟨0,1,none⟩=some (.int .u8 28)∧w.cell? ⟨0,2,none⟩=some (.int .u8 13)
theorem Signs.below {w w':World} (h:Signs w) (hb:Below w.heap.size w w'):Signs w' :=
  ⟨(hb.cell (World.block_lt_of_cell? w _ h.1)).trans h.1,(hb.cell (World.block_lt_of_cell? w _ h.2.1)).trans h.2.1,(hb.cell (World.block_lt_of_cell? w _ h.2.2)).trans h.2.2⟩
def Good (l:List UInt8):Prop:=11 ∉ l∧∀ i,i<l.length→l[i]?=some 28→∃ d,l[i+1]?=some d∧d≠13
def badAt (l:List UInt8) (i:Nat):Bool:=l[i]? == some 28 && (decide (i+1=l.length) || l[i+1]? == some 13)
def good (l:List UInt8):Bool:=!l.contains 11 && (List.range l.length).all fun i=>!badAt l i
theorem u8_ne {x:UInt8} {k:Int} (y:UInt8) (hk:k=(y.toNat:Int)) (h:x≠y):((x.toNat:Int) == k)=false:=by
  rw [beq_eq_false_iff_ne]
  intro e
  apply h
  apply UInt8.toNat_inj.1
  omega
theorem u8_bne {x:UInt8} {k:Int} (y:UInt8) (hk:k=(y.toNat:Int)) (h:x≠y):((x.toNat:Int) != k)=true:=by
  rw [bne,u8_ne y hk h]
  rfl
theorem good_no_start {l:List UInt8} (h:good l=true):11 ∉ l:=by
  unfold good at h
  simp at h
  exact h.1
theorem good_at {l:List UInt8} (h:good l=true) {i:Nat} (hi:i<l.length):badAt l i=false:=by
  unfold good at h
  simp only [Bool.and_eq_true,List.all_eq_true,Bool.not_eq_true'] at h
  exact h.2 i (List.mem_range.2 hi)
theorem good_of {l:List UInt8} (h1:11 ∉ l) (h2:∀ i,i<l.length→badAt l i=false):good l=true:=by
  unfold good
  simp only [Bool.and_eq_true,List.all_eq_true,Bool.not_eq_true']
  exact ⟨by simpa using h1,fun i hi=>h2 i (List.mem_range.1 hi)⟩
theorem indexByte_neg {l:List UInt8} {c:UInt8} (h:c ∉ l):Lib.indexByte l c=-1:=by
  induction l with
  | nil=>rfl
  | cons b l ih =>
    simp only [List.mem_cons,not_or] at h
    unfold Lib.indexByte
    rw [if_neg (by simpa using fun e=>h.1 e.symm),ih h.2]
    rfl
theorem indexByte_pos {l:List UInt8} {c:UInt8} (h:c ∈ l):0≤Lib.indexByte l c:=by
  induction l with
  | nil=>cases h
  | cons b l ih =>
    unfold Lib.indexByte
    by_cases e:b=c
    · rw [if_pos (by simpa using e)];omega
    · rw [if_neg (by simpa using e)]
      have:=ih ((List.mem_cons.1 h).resolve_left fun h'=>e h'.symm)
      rw [if_neg (by simp;omega)]
      omega
set_option maxRecDepth 100000 in
theorem indexByte_any (A:Option Addr) (n c:Nat) (l:List UInt8) (cv:UInt8) (k:Int) (hk:k=(cv.toNat:Int)) (w:World) (hB:Bs w A n c l) :
    Calls Tryz.prog 101 #[.slice A n c,.int .u8 k] w fun e w'=>e=.returned (.int .i64 (Lib.indexByte l cv))∧w=w':=by
  have hcv:k.toNat.toUInt8=cv:=by subst hk;simp
  have hrun:(Extern.BytealgIndexByte.indexByte #[.slice A n c,.int .u8 k]).run Tryz.prog w=.ok (.int .i64 (Lib.indexByte l cv)) w:=by
    rcases Nat.eq_zero_or_pos n with h0|h0
    · subst h0
      obtain rfl:=hB.empty
      rcases A with _|a
      · have h0:∀ (kk:Int) (cc:Nat) (w:World),(Extern.BytealgIndexByte.indexByte #[.slice none 0 cc,.int .u8 kk]).run Tryz.prog w=.ok (.int .i64 (-1)) w:=fun _ _ _=>by kernel_rfl
        exact h0 k c w
      · have:=Lib.run_indexByteAt (P:=Tryz.prog) w a 0 c [] rfl (fun i hi=>by omega) k
        rw [this];rfl
    · obtain ⟨b,o,rfl,hc⟩:=hB.cells h0
      have:=Lib.run_indexByteAt (P:=Tryz.prog) w ⟨b,o,none⟩ n c (nums l) (by rw [nums_length,hB.1]) (fun i hi=>by rw [Addr.add_lit];exact hc i hi) k
      rw [this,bytesOf_nums,hcv]
  have Hrun:=hid hrun
  clear hrun hcv hk
  go_enter Tryz.func101,Tryz.ntmps101
  go_wp2
  rw [run_callFunc_extern Tryz.func139 (by kernel_rfl) (by kernel_rfl) (by kernel_rfl) (e:=Extern.BytealgIndexByte.indexByte) (by kernel_rfl),Hrun.out]
  simp only [Result.andThen]
  rw [Oper.upon_value]
  go_wp2
  go_ret
  exact ⟨rfl,rfl⟩
set_option maxRecDepth 100000 in
theorem frameGood_yes (A:Option Addr) (n c:Nat) (l:List UInt8) (w:World) (hS:Signs w) (hB:Bs w A n c l) (hg:good l=true) :
    Calls Tryz.prog 68 #[.slice A n c] w fun e w'=>e=.returned (.bool true)∧∃ q,w'=w.drewN q:=by
  obtain ⟨s0,s1,s2⟩:=hS
  have hn:=hB.nmax
  have hib:=indexByte_any A n c l 11 11 rfl w hB
  rw [indexByte_neg (good_no_start hg)] at hib
  have Hib:=hid hib;clear hib
  have HG:=hid hg;clear hg
  have HB:=hid hB;clear hB
  go_enter Tryz.func68,Tryz.ntmps68
  go_wp2_with (go_at_call 101;refine (Hib.out).mono ?_;rintro e w' ⟨rfl,rfl⟩)
  go_loopw [12,3,4] (fun i x y wr=>∃ k:Nat,k≤n∧i=.int .i64 k∧∃ q,wr=w.drewN q) (fun i _ _ _=>n-(intOf i).toNat)
  case atStart=>exact ⟨0,Nat.zero_le _,rfl,0,rfl⟩
  case round =>
    obtain ⟨k,hk,rfl,q,rfl⟩:=hrel
    by_cases hlt:k<n
    · obtain ⟨b,o,rfl,hb,hc⟩:=HB.out.at_ (by omega)
      have hkl:k<l.length:=by have:=HB.out.len;omega
      have hbad:=good_at HG.out hkl
      have hcell:=hc k _ (List.getElem?_eq_getElem hkl)
      unfold badAt at hbad
      rw [List.getElem?_eq_getElem hkl] at hbad
      generalize l[k]=x at hcell hbad
      by_cases h28:x=28
      · subst h28
        have hkn:k+1≠l.length:=by intro e;simp [e] at hbad
        have hk1:k+1<l.length:=by omega
        have hcell1:=hc (k+1) _ (List.getElem?_eq_getElem hk1)
        rw [List.getElem?_eq_getElem hk1] at hbad
        generalize l[k+1]=y at hcell1 hbad
        have hne:=u8_ne (x:=y) (k:=13) 13 rfl (by intro e;subst e;simp at hbad)
        have hk2:((k:Int)+1 == n)=false:=by rw [beq_eq_false_iff_ne];have:=HB.out.len;omega
        have hk3:k+1<n:=by have:=HB.out.len;omega
        have hw1:IntKind.i64.wrap ((k:Int)+1)=(k:Int)+1:=IntWalk.i64_in _ (by omega)
        have hw2:((k:Int)+1).toNat=k+1:=by omega
        have hw3:(0:Int)≤(k:Int)+1:=by omega
        have hw4:(k:Int)+1<(n:Int):=by omega
        clear hbad hkn hc
        go_wp2
        go_quiet (fail)
        clear hw1 hw2 hw3 hw4
        go_wp2
        go_roundw
        case rel=>exact ⟨k+1,by omega,by go_num,_,rfl⟩
        case measure=>simp [intOf];omega
      · have hx':=u8_ne (x:=x) (k:=28) 28 rfl h28
        clear hbad hc
        go_wp2
        go_quiet (fail)
        go_wp2
        go_roundw
        case rel=>exact ⟨k+1,by omega,by go_num,_,rfl⟩
        case measure=>simp [intOf];omega
    · go_wp2
      go_ret
      exact ⟨rfl,_,rfl⟩
set_option maxRecDepth 100000 in
theorem frameGood_no (A:Option Addr) (n c:Nat) (l:List UInt8) (w:World) (hS:Signs w) (hB:Bs w A n c l) (hg:good l=false) :
    Calls Tryz.prog 68 #[.slice A n c] w fun e w'=>e=.returned (.bool false)∧∃ q,w'=w.drewN q:=by
  obtain ⟨s0,s1,s2⟩:=hS
  have hn:=hB.nmax
  have hib:=indexByte_any A n c l 11 11 rfl w hB
  by_cases h11:11 ∈ l
  · have hp:=indexByte_pos h11
    generalize Lib.indexByte l 11=r at hib hp
    have Hib:=hid hib;clear hib
    go_enter Tryz.func68,Tryz.ntmps68
    go_wp2_with (go_at_call 101;refine (Hib.out).mono ?_;rintro e w' ⟨rfl,rfl⟩)
    go_ret
    exact ⟨rfl,0,rfl⟩
  · rw [indexByte_neg h11] at hib
    have Hib:=hid hib;clear hib
    have hex:∃ i,i<l.length∧badAt l i=true:=by
      apply Classical.byContradiction
      intro hne
      rw [good_of h11 (fun i hi=>by
        cases hb:badAt l i with
        | false=>rfl
        | true=>exact absurd ⟨i,hi,hb⟩ hne)] at hg
      cases hg
    obtain ⟨j,hj,hjb⟩:=hex
    have hjn:j<n:=by have:=hB.len;omega
    have HJ:=hid hjb;clear hjb hg
    have HB:=hid hB;clear hB
    go_enter Tryz.func68,Tryz.ntmps68
    go_wp2_with (go_at_call 101;refine (Hib.out).mono ?_;rintro e w' ⟨rfl,rfl⟩)
    go_loopw [12,3,4] (fun i x y wr=>∃ k:Nat,k≤j∧i=.int .i64 k∧∃ q,wr=w.drewN q) (fun i _ _ _=>n-(intOf i).toNat)
    case atStart=>exact ⟨0,Nat.zero_le _,rfl,0,rfl⟩
    case round =>
      obtain ⟨k,hk,rfl,q,rfl⟩:=hrel
      have hlt:k<n:=by omega
      obtain ⟨b,o,rfl,hb,hc⟩:=HB.out.at_ (by omega)
      have hkl:k<l.length:=by have:=HB.out.len;omega
      have hcell:=hc k _ (List.getElem?_eq_getElem hkl)
      cases hbad:badAt l k with
      | false =>
        have hkj:k<j:=by
          rcases Nat.lt_or_ge k j with h|h
          · exact h
          · obtain rfl:k=j:=by omega
            rw [HJ.out] at hbad;cases hbad
        unfold badAt at hbad
        rw [List.getElem?_eq_getElem hkl] at hbad
        generalize l[k]=x at hcell hbad
        by_cases h28:x=28
        · subst h28
          have hkn:k+1≠l.length:=by intro e;simp [e] at hbad
          have hk1:k+1<l.length:=by omega
          have hcell1:=hc (k+1) _ (List.getElem?_eq_getElem hk1)
          rw [List.getElem?_eq_getElem hk1] at hbad
          generalize l[k+1]=y at hcell1 hbad
          have hne:=u8_ne (x:=y) (k:=13) 13 rfl (by intro e;subst e;simp at hbad)
          have hk2:((k:Int)+1 == n)=false:=by rw [beq_eq_false_iff_ne];have:=HB.out.len;omega
          have hk3:k+1<n:=by have:=HB.out.len;omega
          have hw1:IntKind.i64.wrap ((k:Int)+1)=(k:Int)+1:=IntWalk.i64_in _ (by omega)
          have hw2:((k:Int)+1).toNat=k+1:=by omega
          have hw3:(0:Int)≤(k:Int)+1:=by omega
          have hw4:(k:Int)+1<(n:Int):=by omega
          clear hbad hkn hc
          go_wp2
          go_quiet (fail)
          clear hw1 hw2 hw3 hw4
          go_wp2
          go_roundw
          case rel=>exact ⟨k+1,by omega,by go_num,_,rfl⟩
          case measure=>simp [intOf];omega
        · have hx':=u8_ne (x:=x) (k:=28) 28 rfl h28
          clear hbad hc
          go_wp2
          go_quiet (fail)
          go_wp2
          go_roundw
          case rel=>exact ⟨k+1,by omega,by go_num,_,rfl⟩
          case measure=>simp [intOf];omega
      | true =>
        unfold badAt at hbad
        rw [List.getElem?_eq_getElem hkl] at hbad
        simp only [Bool.and_eq_true,beq_iff_eq,Option.some.injEq,Bool.or_eq_true,decide_eq_true_eq] at hbad
        obtain ⟨h28,hend⟩:=hbad
        rw [h28] at hcell
        have hw1:IntKind.i64.wrap ((k:Int)+1)=(k:Int)+1:=IntWalk.i64_in _ (by omega)
        have hw2:((k:Int)+1).toNat=k+1:=by omega
        have hw3:(0:Int)≤(k:Int)+1:=by omega
        by_cases he:k+1=l.length
        · have hk2:((k:Int)+1 == n)=true:=by rw [beq_iff_eq];have:=HB.out.len;omega
          clear hend he hc h28
          go_wp2
          go_quiet (fail)
          clear hw1 hw2 hw3
          go_wp2
          go_ret
          exact ⟨rfl,q+nq,by rw [World.drewN_drewN]⟩
        · have h13:=hend.resolve_left he
          have hcell1:=hc (k+1) _ h13
          have hk1:k+1<l.length:=by omega
          have hk2:((k:Int)+1 == n)=false:=by rw [beq_eq_false_iff_ne];have:=HB.out.len;omega
          have hk3:k+1<n:=by have:=HB.out.len;omega
          have hw4:(k:Int)+1<(n:Int):=by omega
          clear hend hc h28 he h13
          go_wp2
          go_quiet (fail)
          clear hw1 hw2 hw3 hw4
          go_wp2
          go_ret
          exact ⟨rfl,q+nq,by rw [World.drewN_drewN]⟩
end
section
open Go.RowKit
def seg1 (l:List UInt8):List UInt8:=if Lib.indexByte l 13<0 then l else l.take (Lib.indexByte l 13).toNat
theorem indexByte_lt (l:List UInt8) (c:UInt8):Lib.indexByte l c<(l.length:Int):=by
  induction l with
  | nil=>simp [Lib.indexByte]
  | cons b l ih =>
    unfold Lib.indexByte
    split
    · simp
    · split
      · simp;omega
      · simp;omega
theorem indexByte_front {m:List UInt8} {c:UInt8} (h:c ∉ m) (r:List UInt8):Lib.indexByte (m++c :: r) c=(m.length:Int):=by
  induction m with
  | nil=>simp [Lib.indexByte]
  | cons b m ih =>
    simp only [List.mem_cons,not_or] at h
    rw [List.cons_append]
    unfold Lib.indexByte
    rw [if_neg (by simpa using fun e=>h.1 e.symm),ih h.2]
    rw [if_neg (by simp)]
    simp
theorem seg1_front {m:List UInt8} (h:(13:UInt8) ∉ m) (r:List UInt8):seg1 (m++13 :: r)=m:=by
  unfold seg1
  rw [indexByte_front h r,if_neg (by omega)]
  simp
theorem seg1_none {m:List UInt8} (h:(13:UInt8) ∉ m):seg1 m=m:=by
  unfold seg1
  rw [indexByte_neg h,if_pos (by decide)]
theorem seg1_cases (l:List UInt8):((13:UInt8) ∉ l∧seg1 l=l)∨∃ r,(13:UInt8) ∉ seg1 l∧l=seg1 l++13 :: r:=by
  by_cases h:(13:UInt8) ∈ l
  · right
    obtain ⟨m,r,rfl,hm⟩:=List.eq_append_cons_of_mem h
    exact ⟨r,by rw [seg1_front hm];exact hm,by rw [seg1_front hm]⟩
  · exact .inl ⟨h,seg1_none h⟩
theorem seg1_sub (l:List UInt8):∀ y ∈ seg1 l,y ∈ l:=by
  intro y hy
  unfold seg1 at hy
  split at hy
  · exact hy
  · exact List.mem_of_mem_take hy
def codeOf (e:Int):ByteArray:=if e=0 then cB 0 else if e=14 then cB 1 else cB 2
def verdictD (l:List UInt8):Hd × ByteArray × Int :=
  if (readH l).2=0 then if (28:UInt8) ∈ seg1 l then (Hd.zero,⟨#[]⟩,10) else ((readH l).1,codeOf (checkD (readH l).1),checkD (readH l).1)
  else (Hd.zero,⟨#[]⟩,(readH l).2)
theorem checkD_cases (h:Hd):checkD h=0∨checkD h=14∨checkD h=12∨checkD h=13:=by
  unfold checkD
  split
  · exact .inr (.inl rfl)
  · split
    · exact .inr (.inr (.inl rfl))
    · split
      · exact .inr (.inr (.inr rfl))
      · exact .inl rfl
theorem seg0_seg1 {l:List UInt8} (h:(readD l).2=0):(splitD l).getD 0 []=seg1 l:=by
  have hl:=readD_long h
  rcases seg1_cases l with ⟨h1,h2⟩|⟨r,h1,h2⟩
  · rw [h2]
    unfold splitD
    rw [cutAt_none 13 l h1]
    cases l with
    | nil=>simp at hl
    | cons b l=>simp
  · obtain ⟨m,hm⟩:∃ m,m=seg1 l:=⟨_,rfl⟩
    rw [← hm] at h1 h2 ⊢
    rw [h2]
    rw [splitD_cons m r h1]
    rfl
theorem texts_seg1 {l:List UInt8} {h:Hd} (hr:readH l=(h,0)):∀ b ∈ h.l,∀ y ∈ b.data.toList,y ∈ seg1 l:=by
  unfold readH at hr
  split at hr
  · rename_i h0
    split at hr
    · rw [seg0_seg1 h0] at hr
      obtain ⟨seg,hseg⟩:∃ seg,seg=seg1 l:=⟨_,rfl⟩
      rw [← hseg] at hr ⊢
      injection hr with hr _
      obtain ⟨d,hd⟩:∃ d,d=(readD l).1:=⟨_,rfl⟩
      rw [← hd] at hr
      subst hr
      have key:∀ i,∀ y ∈ (textsD (fieldsD (txt seg) d.a) i).data.toList,y ∈ seg:=fun i=>by
        obtain ⟨h1,h2,h3⟩:=fields_mem seg d.a (i+1)
        have e:textsD (fieldsD (txt seg) d.a) i=txt ((fieldsD (txt seg) d.a).getD (i+1+1) []):=by unfold textsD;rw [show 2+i=i+1+1 by omega]
        rw [e]
        exact h3
      intro b hb
      rw [hdTo_l] at hb
      simp only [List.mem_cons,List.not_mem_nil,or_false] at hb
      rcases hb with rfl|rfl|rfl|rfl|rfl|rfl|rfl|rfl|rfl|rfl
      · exact key 0
      · exact key 1
      · exact key 2
      · exact key 3
      · exact key 4
      · exact key 5
      · exact key 6
      · exact key 7
      · exact key 8
      · exact key 9
    · injection hr with _ h2
      cases h2
  · rename_i h0
    injection hr with _ h2
    exact absurd h2 h0
theorem segH_free {g:Hd} {z:UInt8} (hz:z ∉ ([77,83,72]:List UInt8)) (hs:z ∉ g.d.l) (ht:∀ b ∈ g.l,z ∉ b.data.toList):z ∉ segH g:=by
  rw [segH_eq]
  intro hm
  rcases List.mem_append.1 hm with hm|hm
  · simp only [List.mem_cons,List.not_mem_nil,or_false] at hm hz
    rcases hm with e|e|e|hm
    · exact hz (.inl e)
    · exact hz (.inr (.inl e))
    · exact hz (.inr (.inr e))
    · exact hs (by simpa [Sgn.l] using hm)
  · unfold Lib.joinTail at hm
    obtain ⟨y,hy,hm⟩:=List.mem_flatten.1 hm
    obtain ⟨x,hx,rfl⟩:=List.mem_map.1 hy
    rcases List.mem_append.1 hm with hm|hm
    · exact hs (by rw [List.mem_singleton.1 hm];simp [Sgn.l])
    · obtain ⟨b,hb,rfl⟩:=List.mem_map.1 (List.mem_of_mem_take hx)
      exact ht b hb hm
theorem sign_free {s:Sgn} (h:s.good=true) {z:UInt8} (hz:isSign z.toNat=false):z ∉ s.l:=fun hm=>by
  have:=(good_signs h).1 z hm
  rw [hz] at this
  cases this
def replyD (l:List UInt8) (kept:Bool):List UInt8 × Bool :=
  if (verdictD l).2.1=⟨#[]⟩∨good l=false then ([],false)
  else (11 :: ((buildD (verdictD l).1 (if (verdictD l).2.1=cB 0∧kept=false then cB 1 else (verdictD l).2.1)).1++[28,13]),true)
theorem codeOf_ne (e:Int):codeOf e≠⟨#[]⟩∧codeD (codeOf e)=true∧(codeOf e).size=2:=by
  unfold codeOf
  split
  · decide +kernel
  · split <;> decide +kernel
theorem verdict_some {l:List UInt8} (h:(verdictD l).2.1≠⟨#[]⟩):∃ g,readH l=(g,0)∧(28:UInt8) ∉ seg1 l∧verdictD l=(g,codeOf (checkD g),checkD g):=by
  unfold verdictD at h ⊢
  split at h
  · rename_i h0
    rw [if_pos h0]
    split at h
    · exact absurd rfl h
    · rename_i h28
      rw [if_neg h28]
      exact ⟨(readH l).1,by rw [← h0],h28,rfl⟩
  · exact absurd rfl h
theorem answer_good {l:List UInt8} {g:Hd} (hr:readH l=(g,0)) (h28:(28:UInt8) ∉ seg1 l) (hl:good l=true) {c:ByteArray} (hc:codeD c=true) :
    buildD g c=(segH (ansH g)++13 :: (makeD msaB g.d.a [c.data.toList,g.a7.data.toList]++[13]),0)∧good (buildD g c).1=true:=by
  obtain ⟨hg,hs,_⟩:=read_stands hr
  have ht:=texts_seg1 hr
  have hca:=good_a hg
  have hack:standD g.d.a ⟨#[65,67,75]⟩=true:=by
    simp only [standD,Bool.and_eq_true,Bool.not_eq_true']
    constructor
    · rw [← Bool.not_eq_true,List.contains_iff_mem]
      intro hm
      simp only [List.mem_cons,List.not_mem_nil,or_false] at hm
      rcases hm with e|e|e <;> exact sign_no_letter hca _ (by decide) e
    · decide
  have hnil:standD g.d.a ⟨#[]⟩=true:=by simp [standD]
  have hsa:(ansH g).l.all (standD g.d.a)=true:=by
    rw [ansH_l]
    simp only [Hd.l,List.all_cons,List.all_nil,Bool.and_true,Bool.and_eq_true] at hs ⊢
    obtain ⟨h0,h1,h2,h3,h4,h5,h6,h7,h8,h9⟩:=hs
    exact ⟨h2,h3,h0,h1,h4,hnil,hack,h7,h8,h9⟩
  have e:buildD g c=(segH (ansH g)++13 :: (makeD msaB g.d.a [c.data.toList,g.a7.data.toList]++[13]),0):=by
    unfold buildD
    rw [if_pos hc,writeH_good (h:=ansH g) hg hsa,if_pos rfl]
    simp [joinD]
  refine ⟨e,?_⟩
  rw [e]
  have free:∀ z:UInt8,isSign z.toNat=false→z ∉ ([77,83,72,65,67,75,13]:List UInt8)→z ∉ c.data.toList→z ∉ seg1 l→z ∉ segH (ansH g)++13 :: (makeD msaB g.d.a [c.data.toList,g.a7.data.toList]++[13]):=by
    intro z hz hk hzc hzs hm
    have hsg:=sign_free hg hz
    have htx:∀ b ∈ g.l,z ∉ b.data.toList:=fun b hb hy=>hzs (ht b hb z hy)
    simp only [List.mem_cons,List.not_mem_nil,or_false,not_or] at hk
    obtain ⟨k1,k2,k3,k4,k5,k6,k7⟩:=hk
    have hans:∀ b ∈ (ansH g).l,z ∉ b.data.toList:=by
      intro b hb
      rw [ansH_l] at hb
      simp only [List.mem_cons,List.not_mem_nil,or_false] at hb
      have m:∀ x,x ∈ g.l→z ∉ x.data.toList:=htx
      rcases hb with rfl|rfl|rfl|rfl|rfl|rfl|rfl|rfl|rfl|rfl
      · exact m _ (by simp [Hd.l])
      · exact m _ (by simp [Hd.l])
      · exact m _ (by simp [Hd.l])
      · exact m _ (by simp [Hd.l])
      · exact m _ (by simp [Hd.l])
      · simp
      · simp [k4,k5,k6]
      · exact m _ (by simp [Hd.l])
      · exact m _ (by simp [Hd.l])
      · exact m _ (by simp [Hd.l])
    rcases List.mem_append.1 hm with hm|hm
    · exact segH_free (g:=ansH g) (by simp [k1,k2,k3]) hsg hans hm
    · rcases List.mem_cons.1 hm with hm|hm
      · exact k7 hm
      · rcases List.mem_append.1 hm with hm|hm
        · rw [makeD_two] at hm
          have ha:z≠g.d.a:=fun e=>hsg (by rw [e];simp [Sgn.l])
          simp only [Lib.joinTail,List.map_cons,List.map_nil,List.flatten_cons,List.flatten_nil,List.append_nil,List.mem_append,List.mem_cons,List.not_mem_nil,or_false] at hm
          rcases hm with (e|e|e)|(e|e)|(e|e)
          · exact k1 e
          · exact k2 e
          · exact k4 e
          · exact ha e
          · exact hzc e
          · exact ha e
          · exact htx g.a7 (by simp [Hd.l]) e
        · exact k7 (List.mem_singleton.1 hm)
  have hcc:∀ z:UInt8,z ∈ c.data.toList→z=65∨z=69∨z=82:=by
    intro z hz
    rcases code_mem hc with rfl|rfl|rfl <;> simp [cB] at hz <;> rcases hz with rfl|rfl <;> simp
  have f11:=free 11 (by decide) (by decide) (fun hm=>by rcases hcc _ hm with e | e | e <;> exact absurd e (by decide)) (fun hm=>good_no_start hl (seg1_sub l _ hm))
  have f28:=free 28 (by decide) (by decide) (fun hm=>by rcases hcc _ hm with e | e | e <;> exact absurd e (by decide)) h28
  refine good_of f11 (fun i hi=>?_)
  unfold badAt
  obtain ⟨X,hX⟩:∃ X,X=segH (ansH g)++13 :: (makeD msaB g.d.a [c.data.toList,g.a7.data.toList]++[13]):=⟨_,rfl⟩
  rw [← hX] at f28 hi ⊢
  have hne:X[i]?≠some 28:=fun e=>f28 (List.mem_of_getElem? e)
  simp [hne]
end
end Go.Proofs.YtodjilljcjkacaaGreatDoor
