/- Laid together: Rk4, Rk5, Rk8, Rk9, DkLen. -/
import Derived.Test.YtodjilljcjkacaaGreatDoorPkIB11
import Derived.Sort.Walk0

namespace Go.Proofs.YtodjilljcjkacaaGreatDoor
open Lib (hid)
section
open Go.RowKit Go.MapKept
section
variable {w:World} {B G:Nat} {E:Nat→Prop} {r:Rk} {A0 Q0:Fs} {nm:ByteArray} {f:Fl} {v:Value} {P:List Value}
theorem RkAt.mid (h:RkAt w B G E r (A0++(nm,f) :: Q0) v P):∃ g n1 cv Pa A7 m7 c7 Pb,v=.slice (some ⟨g,0,none⟩) n1 cv∧n1=(A0++(nm,f) :: Q0).length∧n1≤cv∧cv≤9223372036854775807∧P=Pa++.slice A7 m7 c7 :: Pb∧Pa.length=A0.length∧Bs w A7 m7 c7 f.bs∧DvX (fun k=>RF G v k∨E k) w (.slice A7 m7 c7) f.bs∧w.cell? ⟨G,0,none⟩=some v∧w.cell? ⟨g,A0.length*3+1,none⟩=some (.slice A7 m7 c7)∧w.cell? ⟨g,A0.length*3+2,none⟩=some (.int .i64 (f.safe:Int))∧(∀ j,w.frozen? ⟨g,j,none⟩=false):=by
  obtain ⟨Av,cv,rfl,hcv1,hcv2⟩:=h.form
  obtain ⟨g,rfl,_,hxx⟩:=h.at_ (by simp only [List.length_append,List.length_cons];omega)
  obtain ⟨Pa,d,Pb,rfl,hpa⟩:=p_split h.len
  have hei:(A0++(nm,f) :: Q0)[A0.length]?=some (nm,f):=by rw [List.getElem?_append_right (Nat.le_refl _),Nat.sub_self];rfl
  have hdi:(Pa++d :: Pb)[A0.length]?=some d:=by rw [← hpa,List.getElem?_append_right (Nat.le_refl _),Nat.sub_self];rfl
  obtain ⟨d',hd',_,x1,x2⟩:=hxx _ _ hei
  rw [hdi] at hd'
  injection hd' with hd'
  subst hd'
  obtain ⟨A7,m7,c7,rfl,hB7,hx7⟩:=h.dat _ _ _ hei hdi
  exact ⟨g,_,cv,Pa,A7,m7,c7,Pb,rfl,rfl,hcv1,hcv2,rfl,hpa,hB7,⟨A7,m7,c7,rfl,hB7,hx7⟩,h.cell 0,x1,x2,fun j=>h.own.frozenAt j⟩
end
abbrev ret2 (e:Int) (g:Bool):Ending:=.returned (.tuple #[.int .i64 e,.bool g])
theorem results_two {fn:Func} {t u:Tmp} (h:fn.results=#[.tmp t,.tmp u]) (tmps:Array Value) (P:Program) (w:World) :
    (results fn tmps).run P w=.ok (.tuple #[tmps.getD t undef,tmps.getD u undef]) w:=by
  simp [results,h]
def rOdd (r:Rk):Bool:=r.keep.tmod 2 != 0
def rDo (r:Rk):Bool:=!(r.armed == 1) || rOdd r
def cutL (r:Rk) (A0:Fs) (nm:ByteArray) (f:Fl) (Q0:Fs) (n:Nat):Fs:=if rDo r=true then A0++(nm,⟨f.bs.take n,min f.safe n⟩) :: Q0 else A0++(nm,f) :: Q0
def Ret2 (w:World) (B G:Nat) (E:Nat→Prop) (r':Rk) (L':Fs) (v:Value) (e:Int) (g:Bool) (x:Ending) (w':World):Prop :=
  ∃ v' P',x=ret2 e g∧RkAt w' B G E r' L' v' P'∧Ch (RF G v) w w'∧(∀ k,v'.ownBlock=some k→v.ownBlock=some k∨w.heap.size≤k)
theorem Ret2.same {w w':World} {B G:Nat} {E:Nat→Prop} {r':Rk} {L':Fs} {v:Value} {P:List Value} (e:Int) (g:Bool) (h:RkAt w' B G E r' L' v P) (c:Ch (RF G v) w w'):Ret2 w B G E r' L' v e g (ret2 e g) w':=⟨v,P,rfl,h,c,fun _ hk=>.inl hk⟩
section
variable {w:World} {B G:Nat} {E:Nat→Prop} {r:Rk} {L:Fs} {v:Value} {P:List Value}
set_option maxHeartbeats 8000000 in
set_option maxRecDepth 100000 in
theorem rkTrunc_none (h:RkAt w B G E r L v P) (nm:ByteArray) (hL:L.length≤100000) (n:Int) (hg:fget L nm=none) :
    Calls Tryz.prog 46 #[pR G,.string nm,.int .i64 n] w (Ret2 w B G E r L v 6 false):=by
  have H:=hid h
  have HL:=hid hL
  have HI:Hid (fidx L nm=-1):=hid (by rcases fs_split L nm with ⟨_,_,hi⟩ | ⟨_,_,_,_,_,hg',_⟩;exact hi;rw [hg] at hg';cases hg')
  clear h hL hg
  go_enter Tryz.func46,Tryz.ntmps46
  go_wp2_with (fail)
  refine (rkFind H.out nm (by have:=HL.out;omega)).mono ?_
  rw [HI.out]
  rintro e w1 ⟨rfl,rfl⟩
  go_wp2_with (fail)
  refine bodyPost_ret (v:=.tuple #[.int .i64 6,.bool false]) (results_two Tryz.results46 _ _ _) rfl ?_
  exact Ret2.same 6 false H.out (Ch.refl _ _)
set_option maxHeartbeats 8000000 in
set_option maxRecDepth 100000 in
theorem rkTrunc_bad {A0 Q0:Fs} {nm:ByteArray} {f:Fl} (h:RkAt w B G E r (A0++(nm,f) :: Q0) v P) (hno:∀ e ∈ A0,e.1≠nm) (hL:(A0++(nm,f) :: Q0).length≤100000) (n:Int) (hn:n<0∨(f.bs.length:Int)<n) :
    Calls Tryz.prog 46 #[pR G,.string nm,.int .i64 n] w (Ret2 w B G E r (A0++(nm,f) :: Q0) v 3 false):=by
  have H:=hid h
  have HL:=hid hL
  have HI:Hid (fidx (A0++(nm,f) :: Q0) nm=(A0.length:Int)):=hid (fidx_at hno)
  obtain ⟨g,n1,cv,Pa,A7,m7,c7,Pb,rfl,hn1,hnc,hcm,rfl,hpa,hB7,hdv,c0,x1,x2,fz⟩:=h.mid
  have hin:(A0.length:Int)<(n1:Int):=by rw [hn1];simp only [List.length_append,List.length_cons];omega
  have hnc':(n1:Int)≤(cv:Int):=by omega
  have hm7:f.bs.length=m7:=hB7.len
  rw [hm7] at hn
  obtain ⟨i,hi⟩:∃ i,i=A0.length:=⟨_,rfl⟩
  rw [← hi] at HI x1 x2 hin
  have hge:¬ ((i:Int)<0):=by omega
  have HNN:=hid hn
  clear h hL hn hdv hB7 hpa hn1 fz hm7 hno x2 hi
  go_enter Tryz.func46,Tryz.ntmps46
  go_wp2_with (fail)
  refine (rkFind H.out nm (by have:=HL.out;omega)).mono ?_
  rw [HI.out]
  rintro e w1 ⟨rfl,rfl⟩
  by_cases h0:n<0
  · have d0:decide (n<0)=true:=decide_eq_true h0
    clear h0
    go_wp2_with (fail)
    refine bodyPost_ret (v:=.tuple #[.int .i64 3,.bool false]) (results_two Tryz.results46 _ _ _) rfl ?_
    exact Ret2.same 3 false H.out (Ch.refl _ _)
  · have d0:decide (n<0)=false:=decide_eq_false h0
    have d1:decide ((m7:Int)<n)=true:=decide_eq_true (HNN.out.resolve_left h0)
    clear h0
    go_wp2_with (fail)
    refine bodyPost_ret (v:=.tuple #[.int .i64 3,.bool false]) (results_two Tryz.results46 _ _ _) rfl ?_
    exact Ret2.same 3 false H.out (Ch.refl _ _)
set_option maxHeartbeats 16000000 in
set_option maxRecDepth 100000 in
theorem rkTrunc_do {A0 Q0:Fs} {nm:ByteArray} {f:Fl} (h:RkAt w B G E r (A0++(nm,f) :: Q0) v P) (ok:r.Ok) (hno:∀ e ∈ A0,e.1≠nm) (hL:(A0++(nm,f) :: Q0).length≤100000) (hE:∀ k,E k→k<w.heap.size) (n:Nat) (hn:n≤f.bs.length) :
    Calls Tryz.prog 46 #[pR G,.string nm,.int .i64 (n:Int)] w (Ret2 w B G E r.begin (cutL r A0 nm f Q0 n) v 0 (r.armed == 1)):=by
  have H:=hid h
  have HL:=hid hL
  have HOK:=hid ok
  have HE:=hid hE
  have HI:Hid (fidx (A0++(nm,f) :: Q0) nm=(A0.length:Int)):=hid (fidx_at hno)
  obtain ⟨g,n1,cv,Pa,A7,m7,c7,Pb,rfl,hn1,hnc,hcm,rfl,hpa,hB7,hdv,c0,x1,x2,fz⟩:=h.mid
  have HN1:=hid hn1
  have HPA:=hid hpa
  have HB7:=hid hB7
  have HDV:=hid hdv
  have hin:(A0.length:Int)<(n1:Int):=by rw [hn1];simp only [List.length_append,List.length_cons];omega
  have hnc':(n1:Int)≤(cv:Int):=by omega
  have hm7:f.bs.length=m7:=hB7.len
  have hc7:m7≤c7:=hB7.2.1
  rw [hm7] at hn
  have HM7:=hid hm7
  have HNM:=hid hn
  obtain ⟨i,hi⟩:∃ i,i=A0.length:=⟨_,rfl⟩
  have HII:=hid hi
  rw [← hi] at HI x1 x2 hin
  have hge:¬ ((i:Int)<0):=by omega
  have d0:decide ((n:Int)<0)=false:=by rw [decide_eq_false_iff_not];omega
  have d1:decide ((m7:Int)<(n:Int))=false:=by rw [decide_eq_false_iff_not];omega
  have d1':decide (m7<n)=false:=by rw [decide_eq_false_iff_not];omega
  have d2:¬ (m7<n):=by omega
  have HC7:=hid hc7
  clear h hL hdv hB7 hpa hn1 fz hm7 hno hi hE ok
  go_enter Tryz.func46,Tryz.ntmps46
  go_wp2_with (fail)
  refine (rkFind H.out nm (by have:=HL.out;omega)).mono ?_
  rw [HI.out]
  rintro e w1 ⟨rfl,rfl⟩
  go_wp2_with (fail)
  refine (rkBegin H.out HOK.out.count HOK.out.armed).mono ?_
  rintro e w1 ⟨rfl,h1,hc1⟩
  have H1:=hid h1
  have HC1:=hid hc1
  clear h1 hc1 c0 x1 x2 d0 d1 d1' d2 hge hn hc7
  obtain ⟨gone,hgone⟩:∃ g,g=(r.armed == 1):=⟨_,rfl⟩
  have HGONE:=hid hgone
  have HRD:Hid (rDo r=(!gone || rOdd r)):=hid (by unfold rDo;rw [hgone])
  rw [← hgone]
  clear hgone
  have c4:w1.cell? ⟨G,4,none⟩=some (.int .i64 r.keep):=H1.out.cell 4
  go_upto_region 7 with (fail)
  go_cut [41] (fun x wx=>x=.bool (!gone || rOdd r)∧wx=w1)
  case first =>
    cases gone
    · go_wp2_with (fail)
      go_meet
      exact ⟨rfl,rfl⟩
    · go_wp2_with (fail)
      go_meet
      exact ⟨by first | rfl | (unfold rOdd;rfl) | (unfold rOdd;simp),rfl⟩
  case rest =>
    obtain ⟨rfl,hw⟩:=hcut
    obtain rfl:=hw.symm
    rw [← HRD.out]
    clear c4
    obtain ⟨dd,hdd⟩:∃ dd,dd=rDo r:=⟨_,rfl⟩
    rw [← hdd] at HRD ⊢
    have HDD:=hid hdd
    clear hdd
    cases dd
    · have HCL:Hid (cutL r A0 nm f Q0 n=A0++(nm,f) :: Q0):=hid (by unfold cutL;rw [← HDD.out];rfl)
      go_wp2_with (fail)
      refine bodyPost_ret (v:=.tuple #[.int .i64 0,.bool gone]) (results_two Tryz.results46 _ _ _) rfl ?_
      rw [HCL.out,← HGONE.out]
      exact Ret2.same 0 gone H1.out (HC1.out.wide (fun k hk=>.inl hk))
    · have HCL:Hid (cutL r A0 nm f Q0 n=A0++(nm,⟨f.bs.take n,min f.safe n⟩) :: Q0):=hid (by unfold cutL;rw [← HDD.out];rfl)
      have HCX:Hid (w1.cell? ⟨G,0,none⟩=some (.slice (some ⟨g,0,none⟩) n1 cv)∧w1.cell? ⟨g,i*3+1,none⟩=some (.slice A7 m7 c7)∧w1.cell? ⟨g,i*3+2,none⟩=some (.int .i64 (f.safe:Int))∧(∀ j,w1.frozen? ⟨g,j,none⟩=false)):=hid (by
        have ho:=H1.out.own
        refine ⟨H1.out.cell 0,?_,?_,fun j=>by rw [← HN1.out] at ho;exact ho.frozenAt j⟩
        · rw [rfsC_mid HPA.out] at ho
          rw [HN1.out] at ho
          rw [ho.cellAt (i*3+1) (by simp only [List.length_append,List.length_cons];have:=HII.out;omega),List.getElem?_append_right (by rw [rfsC_len HPA.out];have:=HII.out;omega),rfsC_len HPA.out,HII.out,Nat.add_sub_cancel_left]
          rfl
        · rw [rfsC_mid HPA.out] at ho
          rw [HN1.out] at ho
          rw [ho.cellAt (i*3+2) (by simp only [List.length_append,List.length_cons];have:=HII.out;omega),List.getElem?_append_right (by rw [rfsC_len HPA.out];have:=HII.out;omega),rfsC_len HPA.out,HII.out,Nat.add_sub_cancel_left]
          rfl)
      obtain ⟨c0,x1,x2,fz⟩:=HCX.out
      have f1:=fz (i*3+1)
      have sl1:∀ W,(Instr.sliceAt 40 (.slice A7 m7 c7) none (some (.int .i64 ((n:Nat):Int))) none).run Tryz.prog W=.ok (.slice A7 n c7) W:=fun W=>slice_fr A7 m7 c7 n (by have:=HC7.out;have:=HNM.out;omega) W
      have HK2:Hid (RkAt (w1.setCell ⟨g,i*3+1,none⟩ (.slice A7 n c7)) B G E r.begin (A0++(nm,⟨f.bs.take n,f.safe⟩) :: Q0) (.slice (some ⟨g,0,none⟩) n1 cv) (Pa++.slice A7 n c7 :: Pb)):=hid (by
        obtain ⟨A8,m8,c8,e8,hB8,hx8⟩:=H1.out.dat A0.length (nm,f) (.slice A7 m7 c7) (by rw [List.getElem?_append_right (Nat.le_refl _),Nat.sub_self];rfl) (by rw [List.getElem?_append_right (by have:=HPA.out;omega),HPA.out,Nat.sub_self];rfl)
        cases e8
        have:=H1.out.setD HPA.out (.slice A7 n c7) (f.bs.take n) ⟨A7,n,c7,rfl,hB8.front HNM.out,fun a ha=>(hx8 a ha).imp (fun h0=>by have:=HNM.out;omega) id⟩
        rw [← HII.out] at this
        exact this)
      have HY2:Hid ((w1.setCell ⟨g,i*3+1,none⟩ (.slice A7 n c7)).drew.cell? ⟨g,i*3+2,none⟩=some (.int .i64 (f.safe:Int))∧(w1.setCell ⟨g,i*3+1,none⟩ (.slice A7 n c7)).drew.frozen? ⟨g,i*3+2,none⟩=false):=hid (by
        have ho:=(HK2.out.below (Below.drew (Below.refl _ _))).own
        have hln:(A0++(nm,(⟨f.bs.take n,f.safe⟩:Fl)) :: Q0).length=n1:=by rw [HN1.out];simp
        refine ⟨?_,by rw [hln] at ho;exact ho.frozenAt _⟩
        rw [rfsC_mid HPA.out] at ho
        rw [← hln] at ho
        rw [ho.cellAt (i*3+2) (by simp only [List.length_append,List.length_cons];have:=HII.out;omega),List.getElem?_append_right (by rw [rfsC_len HPA.out];have:=HII.out;omega),rfsC_len HPA.out,HII.out,Nat.add_sub_cancel_left]
        rfl)
      have HC2:Hid (Ch (RF G (.slice (some ⟨g,0,none⟩) n1 cv)) w (w1.setCell ⟨g,i*3+1,none⟩ (.slice A7 n c7)).drew):=hid (((HC1.out.wide (fun k hk=>.inl hk)).trans ((Ch.refl _ _).set1 _ _) (fun k _ hk=>.inr (by rw [hk];rfl))).trans (Ch.of_below (S:=fun _=>False) (Below.drew (Below.refl _ _))) (fun _ _ h=>h.elim))
      have y2:=HY2.out.1
      have yf:=HY2.out.2
      clear x2 fz
      go_wp2_with (fail)
      go_region
      all_goals
        clear c0 x1 f1 sl1
        have c0:=(HK2.out.below (Below.drew (Below.refl _ _))).cell 0
        by_cases hs:(n:Int)<(f.safe:Int)
        · have d3:decide ((n:Int)<(f.safe:Int))=true:=decide_eq_true hs
          have HS:Hid (min f.safe n=n):=hid (by omega)
          have d4:n<f.safe:=by omega
          have d5:decide (n<f.safe)=true:=decide_eq_true d4
          clear hs
          go_wp2_with (fail)
          refine bodyPost_ret (v:=.tuple #[.int .i64 0,.bool gone]) (results_two Tryz.results46 _ _ _) rfl ?_
          rw [HCL.out,HS.out,← HGONE.out]
          have h5:=HK2.out.setS HPA.out n
          rw [← HII.out] at h5
          have hc5:Ch (RF G (.slice (some ⟨g,0,none⟩) n1 cv)) w ((w1.setCell ⟨g,i*3+1,none⟩ (.slice A7 n c7)).setCell ⟨g,i*3+2,none⟩ (.int .i64 (n:Int))):=((HC1.out.wide (fun k hk=>.inl hk)).trans ((Ch.refl _ w1).set1 (i*3+1) (.slice A7 n c7)) (fun k _ hk=>.inr (by rw [hk];rfl))).trans ((Ch.refl _ _).set1 (i*3+2) (.int .i64 (n:Int))) (fun k _ hk=>.inr (by rw [hk];rfl))
          exact Ret2.same 0 gone (h5.below (Below.drew (Below.refl _ _))) (hc5.trans (Ch.of_below (S:=fun _=>False) (Below.drew (Below.refl _ _))) (fun _ _ h=>h.elim))
        · have d3:decide ((n:Int)<(f.safe:Int))=false:=decide_eq_false hs
          have HS:Hid (min f.safe n=f.safe):=hid (by omega)
          have d4:¬ n<f.safe:=by omega
          have d5:decide (n<f.safe)=false:=decide_eq_false d4
          clear hs
          go_wp2_with (fail)
          refine bodyPost_ret (v:=.tuple #[.int .i64 0,.bool gone]) (results_two Tryz.results46 _ _ _) rfl ?_
          rw [HCL.out,HS.out,← HGONE.out]
          exact Ret2.same 0 gone (HK2.out.below (Below.drew (Below.refl _ _))) HC2.out
end
end
section
open Go.RowKit Go.MapKept
def synL (r:Rk) (A0:Fs) (nm:ByteArray) (f:Fl) (Q0:Fs):Fs:=if (r.fail == 1)=false∧rDo r=true then A0++(nm,⟨f.bs,f.bs.length⟩) :: Q0 else A0++(nm,f) :: Q0
def synE (r:Rk):Int:=if (r.fail == 1)=true∧(r.armed == 1)=false then 5 else 0
def Rk.fall (r:Rk):Rk:={ r with fail:=if 0<r.fail then r.fail-1 else r.fail }
section
variable {w:World} {B G:Nat} {E:Nat→Prop} {r:Rk} {L:Fs} {v:Value} {P:List Value}
set_option maxHeartbeats 8000000 in
set_option maxRecDepth 100000 in
theorem rkSync_none (h:RkAt w B G E r L v P) (nm:ByteArray) (hL:L.length≤100000) (hg:fget L nm=none) :
    Calls Tryz.prog 47 #[pR G,.string nm] w (Ret2 w B G E r L v 6 false):=by
  have H:=hid h
  have HL:=hid hL
  have HI:Hid (fidx L nm=-1):=hid (by rcases fs_split L nm with ⟨_,_,hi⟩ | ⟨_,_,_,_,_,hg',_⟩;exact hi;rw [hg] at hg';cases hg')
  clear h hL hg
  go_enter Tryz.func47,Tryz.ntmps47
  go_wp2_with (fail)
  refine (rkFind H.out nm (by have:=HL.out;omega)).mono ?_
  rw [HI.out]
  rintro e w1 ⟨rfl,rfl⟩
  go_wp2_with (fail)
  refine bodyPost_ret (v:=.tuple #[.int .i64 6,.bool false]) (results_two Tryz.results47 _ _ _) rfl ?_
  exact Ret2.same 6 false H.out (Ch.refl _ _)
set_option maxHeartbeats 16000000 in
set_option maxRecDepth 100000 in
theorem rkSync_do {A0 Q0:Fs} {nm:ByteArray} {f:Fl} (h:RkAt w B G E r (A0++(nm,f) :: Q0) v P) (ok:r.Ok) (hno:∀ e ∈ A0,e.1≠nm) (hL:(A0++(nm,f) :: Q0).length≤100000) :
    Calls Tryz.prog 47 #[pR G,.string nm] w (Ret2 w B G E r.begin.fall (synL r A0 nm f Q0) v (synE r) (r.armed == 1)):=by
  have H:=hid h
  have HL:=hid hL
  have HOK:=hid ok
  have HI:Hid (fidx (A0++(nm,f) :: Q0) nm=(A0.length:Int)):=hid (fidx_at hno)
  obtain ⟨g,n1,cv,Pa,A7,m7,c7,Pb,rfl,hn1,hnc,hcm,rfl,hpa,hB7,hdv,c0,x1,x2,fz⟩:=h.mid
  have HN1:=hid hn1
  have HPA:=hid hpa
  have hin:(A0.length:Int)<(n1:Int):=by rw [hn1];simp only [List.length_append,List.length_cons];omega
  have hnc':(n1:Int)≤(cv:Int):=by omega
  have hm7:f.bs.length=m7:=hB7.len
  have HM7:=hid hm7
  obtain ⟨i,hi⟩:∃ i,i=A0.length:=⟨_,rfl⟩
  have HII:=hid hi
  rw [← hi] at HI hin
  have hge:¬ ((i:Int)<0):=by omega
  have d0:decide ((i:Int)<0)=false:=by rw [decide_eq_false_iff_not];omega
  clear h hL hdv hB7 hpa hn1 fz hm7 hno hi ok c0 x1 x2
  go_enter Tryz.func47,Tryz.ntmps47
  go_wp2_with (fail)
  refine (rkFind H.out nm (by have:=HL.out;omega)).mono ?_
  rw [HI.out]
  rintro e w1 ⟨rfl,rfl⟩
  go_wp2_with (fail)
  refine (rkBegin H.out HOK.out.count HOK.out.armed).mono ?_
  rintro e w1 ⟨rfl,h1,hc1⟩
  have H1:=hid h1
  have HC1:=hid hc1
  clear h1 hc1 d0
  obtain ⟨gone,hgone⟩:∃ g,g=(r.armed == 1):=⟨_,rfl⟩
  have HGONE:=hid hgone
  have HRD:Hid (rDo r=(!gone || rOdd r)):=hid (by unfold rDo;rw [hgone])
  rw [← hgone]
  clear hgone
  have c5:w1.cell? ⟨G,5,none⟩=some (.int .i64 r.fail):=H1.out.cell 5
  have f5:=H1.out.frozen 5
  go_upto_if 25 with (fail)
  go_cut [] (fun wx=>RkAt wx B G E r.begin.fall (A0++(nm,f) :: Q0) (.slice (some ⟨g,0,none⟩) n1 cv) (Pa++.slice A7 m7 c7 :: Pb)∧Ch (At1 G) w wx)
  case first =>
    have hw5:IntKind.i64.wrap (r.fail-1)=r.fail-1:=IntWalk.i64_in _ (by have:=HOK.out.fail;omega)
    by_cases h0:0<r.fail
    · have d0:decide (0<r.fail)=true:=decide_eq_true h0
      have HR1:Hid ((w1.setCell ⟨G,5,none⟩ (.int .i64 (r.fail-1))).heap[G]?=some (rkObj (.slice (some ⟨g,0,none⟩) n1 cv) r.begin.fall)):=hid (by
        have hf:r.begin.fall={ r.begin with fail:=r.fail-1 }:=by
          unfold Rk.fall
          rw [if_pos (show 0<r.begin.fail from h0)]
          rfl
        rw [hf]
        exact heap_set_row H1.out.row _)
      have HX:Hid (RkAt (w1.setCell ⟨G,5,none⟩ (.int .i64 (r.fail-1))) B G E r.begin.fall (A0++(nm,f) :: Q0) (.slice (some ⟨g,0,none⟩) n1 cv) (Pa++.slice A7 m7 c7 :: Pb)∧Ch (At1 G) w (w1.setCell ⟨G,5,none⟩ (.int .i64 (r.fail-1)))):=hid ⟨H1.out.nums ((Ch.refl _ _).set1 5 _) HR1.out,HC1.out.set1 5 _⟩
      go_wp2_with (fail)
      go_meet
      exact HX.out
    · have d0:decide (0<r.fail)=false:=decide_eq_false h0
      have HX:Hid (RkAt w1 B G E r.begin.fall (A0++(nm,f) :: Q0) (.slice (some ⟨g,0,none⟩) n1 cv) (Pa++.slice A7 m7 c7 :: Pb)∧Ch (At1 G) w w1):=hid (by
        refine ⟨?_,HC1.out⟩
        have:r.begin.fall=r.begin:=by
          unfold Rk.fall
          rw [if_neg (show ¬ 0<r.begin.fail from h0)]
        rw [this]
        exact H1.out)
      go_wp2_with (fail)
      go_meet
      exact HX.out
  case rest =>
    obtain ⟨h3,hc3⟩:=hcut
    have H3:=hid h3
    have HC3:=hid hc3
    clear h3 hc3 c5 f5 H1 HC1
    obtain ⟨fb,hfb⟩:∃ g,g=(r.fail == 1):=⟨_,rfl⟩
    have HFB:=hid hfb
    rw [← hfb]
    clear hfb
    cases fb
    · have HSE:Hid (synE r=0):=hid (by unfold synE;rw [← HFB.out];rfl)
      have c4:wc.cell? ⟨G,4,none⟩=some (.int .i64 r.keep):=H3.out.cell 4
      go_upto_region 8 with (fail)
      go_cut [46] (fun x wx=>x=.bool (!gone || rOdd r)∧wx=wc)
      case first =>
        cases gone
        · go_wp2_with (fail)
          go_meet
          exact ⟨rfl,rfl⟩
        · go_wp2_with (fail)
          go_meet
          exact ⟨by first | rfl | (unfold rOdd;rfl) | (unfold rOdd;simp),rfl⟩
      case rest =>
        obtain ⟨rfl,hw⟩:=hcut
        obtain rfl:=hw.symm
        rw [← HRD.out]
        clear c4
        obtain ⟨dd,hdd⟩:∃ dd,dd=rDo r:=⟨_,rfl⟩
        rw [← hdd] at HRD ⊢
        have HDD:=hid hdd
        clear hdd
        cases dd
        · have HCL:Hid (synL r A0 nm f Q0=A0++(nm,f) :: Q0):=hid (by unfold synL;rw [← HDD.out];simp)
          go_wp2_with (fail)
          refine bodyPost_ret (v:=.tuple #[.int .i64 0,.bool gone]) (results_two Tryz.results47 _ _ _) rfl ?_
          rw [HCL.out,← HGONE.out,HSE.out]
          exact Ret2.same 0 gone H3.out (HC3.out.wide (fun k hk=>.inl hk))
        · have HCL:Hid (synL r A0 nm f Q0=A0++(nm,⟨f.bs,m7⟩) :: Q0):=hid (by unfold synL;rw [← HDD.out,← HFB.out,HM7.out];simp)
          have HK2:Hid (RkAt (wc.setCell ⟨g,i*3+2,none⟩ (.int .i64 (m7:Int))) B G E r.begin.fall (A0++(nm,⟨f.bs,m7⟩) :: Q0) (.slice (some ⟨g,0,none⟩) n1 cv) (Pa++.slice A7 m7 c7 :: Pb)):=hid (by
            have:=H3.out.setS HPA.out m7
            rw [← HII.out] at this
            exact this)
          have HC2:Hid (Ch (RF G (.slice (some ⟨g,0,none⟩) n1 cv)) w (wc.setCell ⟨g,i*3+2,none⟩ (.int .i64 (m7:Int)))):=hid ((HC3.out.wide (fun k hk=>.inl hk)).trans ((Ch.refl _ wc).set1 (i*3+2) _) (fun k _ hk=>.inr (by rw [hk];rfl)))
          have HCX:Hid (wc.cell? ⟨G,0,none⟩=some (.slice (some ⟨g,0,none⟩) n1 cv)∧wc.cell? ⟨g,i*3+1,none⟩=some (.slice A7 m7 c7)∧wc.cell? ⟨g,i*3+2,none⟩=some (.int .i64 (f.safe:Int))∧(∀ j,wc.frozen? ⟨g,j,none⟩=false)):=hid (by
            have ho:=H3.out.own
            refine ⟨H3.out.cell 0,?_,?_,fun j=>by rw [← HN1.out] at ho;exact ho.frozenAt j⟩
            · rw [rfsC_mid HPA.out] at ho
              rw [HN1.out] at ho
              rw [ho.cellAt (i*3+1) (by simp only [List.length_append,List.length_cons];have:=HII.out;omega),List.getElem?_append_right (by rw [rfsC_len HPA.out];have:=HII.out;omega),rfsC_len HPA.out,HII.out,Nat.add_sub_cancel_left]
              rfl
            · rw [rfsC_mid HPA.out] at ho
              rw [HN1.out] at ho
              rw [ho.cellAt (i*3+2) (by simp only [List.length_append,List.length_cons];have:=HII.out;omega),List.getElem?_append_right (by rw [rfsC_len HPA.out];have:=HII.out;omega),rfsC_len HPA.out,HII.out,Nat.add_sub_cancel_left]
              rfl)
          obtain ⟨c0,x1,x2,fz⟩:=HCX.out
          have f2:=fz (i*3+2)
          clear fz
          go_wp2_with (fail)
          go_region
          all_goals
            clear c0 x1 x2 f2
            go_wp2_with (fail)
            refine bodyPost_ret (v:=.tuple #[.int .i64 0,.bool gone]) (results_two Tryz.results47 _ _ _) rfl ?_
            rw [HCL.out,← HGONE.out,HSE.out]
            exact Ret2.same 0 gone (HK2.out.below (Below.drew (Below.refl _ _))) (HC2.out.trans (Ch.of_below (S:=fun _=>False) (Below.drew (Below.refl _ _))) (fun _ _ h=>h.elim))
    · have HCL:Hid (synL r A0 nm f Q0=A0++(nm,f) :: Q0):=hid (by unfold synL;rw [← HFB.out];simp)
      cases gone
      · have HSE:Hid (synE r=5):=hid (by unfold synE;rw [← HFB.out,← HGONE.out];rfl)
        go_wp2_with (fail)
        refine bodyPost_ret (v:=.tuple #[.int .i64 5,.bool false]) (results_two Tryz.results47 _ _ _) rfl ?_
        rw [HCL.out,← HGONE.out,HSE.out]
        exact Ret2.same 5 false H3.out (HC3.out.wide (fun k hk=>.inl hk))
      · have HSE:Hid (synE r=0):=hid (by unfold synE;rw [← HFB.out,← HGONE.out];rfl)
        go_wp2_with (fail)
        refine bodyPost_ret (v:=.tuple #[.int .i64 0,.bool true]) (results_two Tryz.results47 _ _ _) rfl ?_
        rw [HCL.out,← HGONE.out,HSE.out]
        exact Ret2.same 0 true H3.out (HC3.out.wide (fun k hk=>.inl hk))
end
end
section
open Go.RowKit Go.MapKept
theorem bl_iff {a b:ByteArray}:bl a b=true ↔ a.data.toList<b.data.toList:=by
  unfold bl
  rw [bytesLess_eq,Lib.toList_data,Lib.toList_data,decide_eq_true_iff]
theorem bl_trans {a b c:ByteArray} (h1:bl a b=true) (h2:bl b c=true):bl a c=true:=by
  rw [bl_iff] at *
  exact List.lt_trans h1 h2
theorem bl_tot {a b:ByteArray} (h:bl a b=false) (hne:a≠b):bl b a=true:=by
  have h1:¬ a.data.toList<b.data.toList:=fun h2=>by rw [bl_iff.2 h2] at h;cases h
  rw [bl_iff]
  rcases Std.le_total (a:=a.data.toList) (b:=b.data.toList) with h2|h2
  · exact absurd (Std.lt_of_le_of_ne h2 (fun e=>hne (ByteArray.ext (Array.toList_inj.1 e)))) h1
  · exact Std.lt_of_le_of_ne h2 (fun e=>hne (ByteArray.ext (Array.toList_inj.1 e.symm)))
abbrev Srt (L:Fs):Prop:=L.Pairwise (fun a b=>bl a.1 b.1=true)
theorem fgetL_mid {A Q:Fs} {n:ByteArray} {f:Fl} (h:∀ e ∈ A,e.1≠n):fget (A++(n,f) :: Q) n=some f:=by
  induction A with
  | nil=>simp [fget]
  | cons x A ih =>
    obtain ⟨m,g⟩:=x
    simp only [List.cons_append,fget]
    rw [if_neg (fun e=>h (m,g) (by simp) e.symm)]
    exact ih (fun e he=>h e (by simp [he]))
theorem fput_mid {A Q:Fs} {n:ByteArray} {f f':Fl} (h:∀ e ∈ A,e.1≠n):fput (A++(n,f) :: Q) n f'=A++(n,f') :: Q:=by
  induction A with
  | nil=>simp [fput]
  | cons x A ih =>
    obtain ⟨m,g⟩:=x
    simp only [List.cons_append,fput]
    rw [if_neg (fun e=>h (m,g) (by simp) e.symm),ih (fun e he=>h e (by simp [he]))]
theorem perm_cut {A0 Q0 A1 Q1:Fs} {x:ByteArray × Fl} (h:(A0++x :: Q0).Perm (A1++x :: Q1)):(A0++Q0).Perm (A1++Q1) :=
  ((List.perm_middle.symm.trans h).trans List.perm_middle).cons_inv
theorem perm_mid {A0 Q0 A1 Q1:Fs} (x:ByteArray × Fl) (h:(A0++Q0).Perm (A1++Q1)):(A0++x :: Q0).Perm (A1++x :: Q1) :=
  (List.perm_middle.trans (h.cons x)).trans List.perm_middle.symm
theorem fget_in {L:Fs} {n:ByteArray} {f:Fl} (h:fget L n=some f):(n,f) ∈ L:=by
  rcases fs_split L n with ⟨h1,_,_⟩|⟨A,f',Q,rfl,_,h2,_⟩
  · rw [h1] at h;cases h
  · rw [h2] at h;cases h;simp
theorem in_fget {L:Fs} {n:ByteArray} {f:Fl} (hn:(L.map (·.1)).Nodup) (h:(n,f) ∈ L):fget L n=some f:=by
  obtain ⟨A,Q,rfl⟩:=List.append_of_mem h
  refine fgetL_mid (fun e he e1=>?_)
  rw [List.map_append,List.nodup_append] at hn
  exact hn.2.2 e.1 (List.mem_map.2 ⟨e,he,rfl⟩) n (by simp) e1
theorem fget_perm {L fs:Fs} (h:L.Perm fs) (hn:(fs.map (·.1)).Nodup) (n:ByteArray):fget L n=fget fs n:=by
  have hn':(L.map (·.1)).Nodup:=(h.map _).nodup_iff.2 hn
  cases h1:fget fs n with
  | some f=>exact in_fget hn' (h.mem_iff.2 (fget_in h1))
  | none =>
    cases h2:fget L n with
    | none=>rfl
    | some f=>rw [in_fget hn (h.mem_iff.1 (fget_in h2))] at h1;cases h1
theorem fget_not {L:Fs} {n:ByteArray} (h:fget L n=none):∀ e ∈ L,e.1≠n:=by
  rcases fs_split L n with ⟨_,h2,_⟩|⟨_,f,_,_,_,h2,_⟩
  · exact h2
  · rw [h2] at h;cases h
theorem both_split {L fs:Fs} {A0 Q0:Fs} {n:ByteArray} {f:Fl} (h:L.Perm fs) (hn:(fs.map (·.1)).Nodup) (hL:L=A0++(n,f) :: Q0) (hno:∀ e ∈ A0,e.1≠n) :
    ∃ A1 Q1,fs=A1++(n,f) :: Q1∧(∀ e ∈ A1,e.1≠n)∧fget fs n=some f∧(A0++Q0).Perm (A1++Q1):=by
  have hg:fget fs n=some f:=by rw [← fget_perm h hn,hL];exact fgetL_mid hno
  rcases fs_split fs n with ⟨h1,_,_⟩|⟨A1,f',Q1,e,h2,h3,_⟩
  · rw [h1] at hg;cases hg
  · rw [h3] at hg
    cases hg
    refine ⟨A1,Q1,e,h2,h3,perm_cut (x:=(n,f)) ?_⟩
    rw [← hL,← e]
    exact h
theorem srt_put {L L':Fs} {e:ByteArray × Fl} (hs:Srt L) (hno:∀ x ∈ L,x.1≠e.1) (hp:PutsTo L e L'):Srt L'∧L'.Perm (e :: L):=by
  obtain ⟨Pl,Ql,rfl,rfl,h1,h2⟩:=hp
  refine ⟨?_,List.perm_middle⟩
  unfold Srt at *
  rw [List.pairwise_append] at hs ⊢
  obtain ⟨hs1,hs2,hs3⟩:=hs
  refine ⟨hs1,List.pairwise_cons.2 ⟨h1,hs2⟩,fun a ha b hb=>?_⟩
  have hae:bl a.1 e.1=true:=by
    have hne:Pl≠[]:=fun h=>by rw [h] at ha;cases ha
    have hl:=List.getLast?_eq_some_getLast hne
    have hy:=bl_tot (h2 _ hl) (fun h=>hno _ (List.mem_append_left _ (List.getLast_mem hne)) h.symm)
    have hsp:Pl=Pl.dropLast++[Pl.getLast hne]:=(List.dropLast_concat_getLast hne).symm
    rw [hsp] at ha hs1
    rcases List.mem_append.1 ha with h|h
    · exact bl_trans ((List.pairwise_append.1 hs1).2.2 a h _ (by simp)) hy
    · rw [List.mem_singleton.1 h];exact hy
  rcases List.mem_cons.1 hb with rfl|hb
  · exact hae
  · exact hs3 a ha b hb
theorem srt_sub {A Q:Fs} {n:ByteArray} {f f':Fl} (h:Srt (A++(n,f) :: Q)):Srt (A++(n,f') :: Q):=by
  unfold Srt at *
  rw [List.pairwise_append] at h ⊢
  obtain ⟨h1,h2,h3⟩:=h
  rw [List.pairwise_cons] at h2
  refine ⟨h1,List.pairwise_cons.2 ⟨fun x hx=>h2.1 x hx,h2.2⟩,fun a ha b hb=>?_⟩
  rcases List.mem_cons.1 hb with rfl|hb
  · exact h3 a ha (n,f) (by simp)
  · exact h3 a ha b (by simp [hb])
theorem sumB_perm {L fs:Fs} (h:L.Perm fs):sumB L=ftotal fs:=(h.map _).sum_nat
structure Sim (d:Dk) (fs:Fs) (r:Rk) (L:Fs):Prop where
  size:r.size=d.room
  count:r.count=d.ops
  armed:r.armed=d.armedIn
  keep:r.keep=d.armKeep
  fail:r.fail=d.failIn
  perm:L.Perm fs
  srt:Srt L
theorem Sim.odd {d:Dk} {fs:Fs} {r:Rk} {L:Fs} (h:Sim d fs r L):rOdd r=dOdd d:=by unfold rOdd dOdd;rw [h.keep]
theorem Sim.ok {d:Dk} {fs:Fs} {r:Rk} {L:Fs} (h:Sim d fs r L) (hk:FsOk d fs):r.Ok:=by
  have:=hk.ok
  exact ⟨by rw [h.size];have:=hk.ok.room;omega,by rw [h.count];exact hk.ok.ops,by rw [h.armed];exact hk.ok.armedIn,by rw [h.keep];exact hk.ok.armKeep,by rw [h.fail];exact hk.ok.failIn⟩
theorem Sim.begin {d:Dk} {fs:Fs} {r:Rk} {L:Fs} (h:Sim d fs r L) {fs' L':Fs} (hp:L'.Perm fs') (hs:Srt L') (u:Int):Sim { d.begin with used:=u } fs' r.begin L' :=
  ⟨h.size,by show r.count+1=d.ops+1;rw [h.count],by show (if r.armed=0 then 0 else r.armed-1)=(if d.armedIn=0 then 0 else d.armedIn-1);rw [h.armed],h.keep,h.fail,hp,hs⟩
theorem Sim.begin0 {d:Dk} {fs:Fs} {r:Rk} {L:Fs} (h:Sim d fs r L) {fs' L':Fs} (hp:L'.Perm fs') (hs:Srt L'):Sim d.begin fs' r.begin L':=h.begin hp hs d.begin.used
end
section
open Go.RowKit Go.MapKept
def Agree (o:Int ⊕ Int) (r:Rk) (e:Int) (g:Bool):Prop:=(∃ x,o=.inl x∧e=x∧g=false)∨(∃ op,o=.inr op∧op=r.count∧g=true)
def RM (w:World) (B G:Nat) (E:Nat→Prop) (v:Value) (o:Out) (x:Ending) (w':World):Prop :=
  ∃ e g r' L' v' P',x=ret2 e g∧Agree o.1 r' e g∧Sim o.2.1 o.2.2 r' L'∧RkAt w' B G E r' L' v' P'∧Ch (RF G v) w w'∧(∀ k,v'.ownBlock=some k→v.ownBlock=some k∨w.heap.size≤k)
def RA (w:World) (B G:Nat) (E:Nat→Prop) (v:Value) (o:OutN) (x:Ending) (w':World):Prop :=
  ∃ n e g r' L' v' P',x=ret3 n e g∧Agree o.1.2 r' e g∧(g=false→n=o.1.1)∧Sim o.2.1 o.2.2 r' L'∧RkAt w' B G E r' L' v' P'∧Ch (RF G v) w w'∧(∀ k,v'.ownBlock=some k→v.ownBlock=some k∨w.heap.size≤k)
section
variable {w:World} {B G:Nat} {E:Nat→Prop} {r:Rk} {L:Fs} {v:Value} {P:List Value} {d:Dk} {fs:Fs}
theorem RM.of {r':Rk} {L':Fs} {e:Int} {g:Bool} {x:Ending} {w':World} {o:Out} (h:Ret2 w B G E r' L' v e g x w') (ha:Agree o.1 r' e g∧Sim o.2.1 o.2.2 r' L'):RM w B G E v o x w':=by
  obtain ⟨v',P',h1,h2,h3,h4⟩:=h
  exact ⟨e,g,r',L',v',P',h1,ha.1,ha.2,h2,h3,h4⟩
theorem Sim.change (h:Sim d fs r L) {d1 d2:Dk} {fs1 L':Fs} {r':Rk} {x e:Int} (h1:rDo r=true→Sim d1 fs1 r' L') (h2:rDo r=false→Sim d2 fs r' L') (hc:r'.count=d.ops+1) (he:(r.armed == 1)=false→e=x) :
    Agree (opChange d fs x d1 d2 fs1).1 r' e (r.armed == 1)∧Sim (opChange d fs x d1 d2 fs1).2.1 (opChange d fs x d1 d2 fs1).2.2 r' L':=by
  unfold opChange
  by_cases ha:d.armedIn=1
  · have hb:(r.armed == 1)=true:=by rw [h.armed,ha];rfl
    have hd:rDo r=dOdd d:=by unfold rDo;rw [hb,h.odd];rfl
    rw [if_pos ha]
    refine ⟨.inr ⟨_,rfl,hc.symm,hb⟩,?_⟩
    cases ho:dOdd d
    · simp only [Bool.false_eq_true,if_false];exact h2 (by rw [hd,ho])
    · simp only [if_true];exact h1 (by rw [hd,ho])
  · have hb:(r.armed == 1)=false:=by rw [h.armed,beq_eq_false_iff_ne];exact ha
    have hd:rDo r=true:=by unfold rDo;rw [hb];rfl
    rw [if_neg ha]
    exact ⟨.inl ⟨_,rfl,he hb,hb⟩,h1 hd⟩
theorem Sim.get (h:Sim d fs r L) (ok:FsOk d fs) (n:ByteArray):fget L n=fget fs n:=fget_perm h.perm ok.names n
theorem rkTrunc (h:RkAt w B G E r L v P) (hs:Sim d fs r L) (ok:FsOk d fs) (nm:ByteArray) (n:Int) (hL:L.length≤100000) (hE:∀ k,E k→k<w.heap.size) :
    Calls Tryz.prog 46 #[pR G,.string nm,.int .i64 n] w (RM w B G E v (opTrunc d fs nm n)):=by
  have hg:=hs.get ok nm
  rcases fs_split L nm with ⟨h1,_,_⟩|⟨A0,f,Q0,hl,hno,h1,_⟩
  · rw [h1] at hg
    unfold opTrunc
    rw [← hg]
    exact (rkTrunc_none h nm hL n h1).mono fun x w' hx=>RM.of hx ⟨.inl ⟨6,rfl,rfl,rfl⟩,hs⟩
  · obtain ⟨A1,Q1,hfs,hno1,hg1,hp⟩:=both_split hs.perm ok.names hl hno
    unfold opTrunc
    rw [hg1]
    simp only
    subst hl
    by_cases hb:n<0∨(f.bs.length:Int)<n
    · rw [if_pos hb]
      exact (rkTrunc_bad h hno hL n hb).mono fun x w' hx=>RM.of hx ⟨.inl ⟨3,rfl,rfl,rfl⟩,hs⟩
    · rw [if_neg hb]
      obtain ⟨N,rfl⟩:∃ N:Nat,n=(N:Int):=⟨n.toNat,by omega⟩
      refine (rkTrunc_do h (hs.ok ok) hno hL hE N (by omega)).mono fun x w' hx=>RM.of hx ?_
      refine hs.change (fun hd=>?_) (fun hd=>?_) (by show r.count+1=_;rw [hs.count]) (fun _=>rfl)
      · unfold cutL
        rw [if_pos hd,hfs,fput_mid hno1]
        exact hs.begin (perm_mid _ hp) (srt_sub hs.srt) _
      · unfold cutL
        rw [hd]
        simp only [Bool.false_eq_true,if_false]
        exact hs.begin0 hs.perm hs.srt
theorem Sim.syncs (h:Sim d fs r L) (ok:FsOk d fs) {fs' L':Fs} (hp:L'.Perm fs') (hs:Srt L'):Sim d.syncs.begin fs' r.begin.fall L' :=
  ⟨h.size,by show r.count+1=d.ops+1;rw [h.count],by show (if r.armed=0 then 0 else r.armed-1)=(if d.armedIn=0 then 0 else d.armedIn-1);rw [h.armed],h.keep,by
    show (if 0<r.fail then r.fail-1 else r.fail)=(if d.failIn=0 then 0 else d.failIn-1)
    have:=ok.ok.failIn
    rw [h.fail]
    split <;> split <;> omega,hp,hs⟩
theorem rkSync (h:RkAt w B G E r L v P) (hs:Sim d fs r L) (ok:FsOk d fs) (nm:ByteArray) (hL:L.length≤100000) :
    Calls Tryz.prog 47 #[pR G,.string nm] w (RM w B G E v (opSync d fs nm)):=by
  have hg:=hs.get ok nm
  rcases fs_split L nm with ⟨h1,_,_⟩|⟨A0,f,Q0,hl,hno,h1,_⟩
  · rw [h1] at hg
    unfold opSync
    rw [← hg]
    exact (rkSync_none h nm hL h1).mono fun x w' hx=>RM.of hx ⟨.inl ⟨6,rfl,rfl,rfl⟩,hs⟩
  · obtain ⟨A1,Q1,hfs,hno1,hg1,hp⟩:=both_split hs.perm ok.names hl hno
    unfold opSync
    rw [hg1]
    simp only
    subst hl
    have hff:(d.failIn == 1)=(r.fail == 1):=by rw [hs.fail]
    rw [hff]
    refine (rkSync_do h (hs.ok ok) hno hL).mono fun x w' hx=>RM.of hx ?_
    refine hs.change (fun hd=>?_) (fun hd=>?_) (by show r.count+1=_;rw [hs.count]) (fun ha=>?_)
    · unfold synL
      cases hb:(r.fail == 1)
      · rw [if_pos ⟨rfl,hd⟩,hfs,fput_mid hno1]
        exact hs.syncs ok (perm_mid _ hp) (srt_sub hs.srt)
      · rw [if_neg (fun h=>by cases h.1),hfs,fput_mid hno1]
        exact hs.syncs ok (perm_mid _ hp) hs.srt
    · unfold synL
      rw [if_neg (fun h=>by rw [hd] at h;cases h.2)]
      exact hs.syncs ok hs.perm hs.srt
    · unfold synE syncErr
      rw [ha]
      cases hb:(r.fail == 1) <;> rfl
theorem rkApp (h:RkAt w B G E r L v P) (hs:Sim d fs r L) (ok:FsOk d fs) (nm:ByteArray) (hz:nm.size≤140737488355328) (A:Option Addr) (m c:Nat) (l:List UInt8) (hl:DvX (RF G v) w (.slice A m c) l) (hm:m≤140737488355328) (hL:L.length≤100000) (hB:B≤w.heap.size) (hE:∀ k,E k→k<w.heap.size) :
    Calls Tryz.prog 89 #[pR G,.string nm,.slice A m c] w (RA w B G E v (appO d fs nm l)):=by
  have hu:(sumB L:Int)=d.used:=by rw [sumB_perm hs.perm,ok.tot]
  have hN:appM r (sumB L) l.length=appN d l.length:=by
    unfold appM appN
    rw [hs.size,hu]
  have hR:appR r (sumB L) l.length=if d.armedIn=1 then appK d l.length else appN d l.length:=by
    unfold appR appK
    rw [hN,hs.armed,hs.keep]
  unfold appO
  cases hn:nameD nm
  · rw [if_pos rfl]
    refine (rkAppend_name nm hz hn A m c).mono fun x w' hx=>?_
    obtain ⟨rfl,rfl⟩:=hx
    exact ⟨0,16,false,r,L,v,P,rfl,.inl ⟨16,rfl,rfl,rfl⟩,fun _=>rfl,hs,h,Ch.refl _ _,fun k hk=>.inl hk⟩
  · rw [if_neg (by decide)]
    refine (rkAppend h (hs.ok ok) nm hz hn A m c l hl hm hL (by have:=ok.ok.used;omega) hB hE).mono fun x w' hx=>?_
    obtain ⟨L',v',P',hat,he,h',hc,hv⟩:=hx
    have key:∀ N:Nat,appR r (sumB L) l.length=N→∀ u:Int,Sim { d.begin with used:=u } (layF fs nm (l.take N)) r.begin L':=fun N hNN u=>by
      obtain ⟨L1,A0,f,Q0,hwhy,hl1,hno,hl'⟩:=hat
      rw [hNN] at hl'
      subst hl'
      unfold layF
      rcases hwhy with ⟨_,rfl⟩|⟨hg,hpt⟩
      · obtain ⟨A1,Q1,hfs,hno1,hg1,hp⟩:=both_split hs.perm ok.names hl1 hno
        rw [hg1,hfs,fput_mid hno1]
        have h5:=hs.srt
        rw [hl1] at h5
        exact hs.begin (perm_mid _ hp) (srt_sub h5) _
      · have hgf:fget fs nm=none:=by rw [← hs.get ok];exact hg
        obtain ⟨hs2,hp2⟩:=srt_put hs.srt (fget_not hg) hpt
        have hff:f=⟨[],0⟩:=by
          have h5:(nm,f) ∈ (nm,(⟨[],0⟩:Fl)) :: L:=hp2.mem_iff.1 (by rw [hl1];simp)
          rcases List.mem_cons.1 h5 with h5|h5
          · injection h5
          · exact absurd rfl (fget_not hg _ h5)
        subst hff
        rw [hl1] at hp2 hs2
        have hp3:(A0++Q0).Perm fs:=((List.perm_middle.symm.trans hp2).cons_inv).trans hs.perm
        rw [hgf,fput_new _ hgf]
        refine hs.begin ?_ (srt_sub hs2) _
        rw [List.nil_append]
        exact (List.perm_middle.trans (hp3.cons _)).trans (List.perm_append_singleton _ _).symm
    rw [hs.armed] at he
    by_cases ha:d.armedIn=1
    · rw [if_pos ha] at he hR ⊢
      exact ⟨0,0,true,r.begin,L',v',P',he,.inr ⟨_,rfl,(by show d.ops+1=r.count+1;rw [hs.count]),rfl⟩,(fun h=>by cases h),key _ hR _,h',hc,hv⟩
    · rw [if_neg ha] at he hR ⊢
      rw [hR] at he
      exact ⟨_,_,false,r.begin,L',v',P',he,.inl ⟨_,rfl,rfl,rfl⟩,fun _=>rfl,key _ hR _,h',hc,hv⟩
end
end
section
open Go.RowKit Go.MapKept
theorem fput_lenL:∀ (fs:Fs) (n:ByteArray) (v:Fl),(fput fs n v).length≤fs.length+1
  | [],n,v=>by simp [fput]
  | (a,u) :: r,n,v=>by
    unfold fput
    split
    · simp
    · have:=fput_lenL r n v
      simp only [List.length_cons];omega
theorem opChange_lenL {d d1 d2:Dk} {fs done:Fs} {x:Int} (h:done.length≤fs.length+1):(opChange d fs x d1 d2 done).2.2.length≤fs.length+1:=by
  unfold opChange
  split
  · split
    · exact h
    · simp
  · exact h
theorem callD_lenL (d : Dk) (fs : Fs) (kd n k : Int) (a b : ByteArray) (l : List UInt8) : (callD d fs kd n k a b l).2.2.length ≤ fs.length + 1 := by
  unfold callD
  split
  · unfold appO
    split
    · simp
    · split
      · exact fput_lenL _ _ _
      · exact fput_lenL _ _ _
  split
  · show (opTrunc d fs a n).2.2.length ≤ _
    unfold opTrunc
    cases fget fs a with
    | none => simp
    | some f => simp only; split
                · simp
                · exact opChange_lenL (fput_lenL _ _ _)
  split
  · show (opSync d fs a).2.2.length ≤ _
    unfold opSync
    cases fget fs a with
    | none => simp
    | some f => exact opChange_lenL (fput_lenL _ _ _)
  split
  · show (opRename d fs a b).2.2.length ≤ _
    unfold opRename
    cases fget fs a with
    | none => simp
    | some f =>
      simp only
      split
      · simp
      · split
        · exact opChange_lenL (by simp)
        · refine opChange_lenL ?_
          have h1 := (fdel_sub fs b).length_le
          have h2 := (fdel_sub (fdel fs b) a).length_le
          rw [List.length_append]; simp only [List.length_singleton]; omega
  split
  · show (opRemove d fs a).2.2.length ≤ _
    unfold opRemove
    cases fget fs a with
    | none => simp
    | some f => exact opChange_lenL (Nat.le_trans (fdel_sub fs a).length_le (by simp))
  split
  · show (opSetRoom d fs n).2.2.length ≤ _
    unfold opSetRoom; split <;> simp
  split
  · show (opFail d fs n).2.2.length ≤ _
    unfold opFail; split <;> simp
  split
  · show (opArm d fs n k).2.2.length ≤ _
    unfold opArm; split <;> simp
  split
  · show (powFs k fs).length ≤ _
    unfold powFs; simp
  · simp
end
end Go.Proofs.YtodjilljcjkacaaGreatDoor
