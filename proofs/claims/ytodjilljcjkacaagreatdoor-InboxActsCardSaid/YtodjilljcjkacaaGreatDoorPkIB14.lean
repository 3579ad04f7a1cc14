/- Laid together: RO14. -/
import Derived.Test.YtodjilljcjkacaaGreatDoorPkIB13

namespace Go.Proofs.YtodjilljcjkacaaGreatDoor
open Lib (hid)
section
open Go.RowKit Go.MapKept
section
variable {T T' S O E E':Nat→Prop} {w w':World} {B H G g:Nat} {nm:ByteArray} {rs:List (List UInt8)} {v vh:Value} {r:Rk} {L:Fs} {P:List Value} {d:Dk} {fs:Fs}
theorem RkAt.wider (h:RkAt w B G E r L v P) (hE:∀ k,E' k→E k∨w.heap.size≤k):RkAt w B G E' r L v P :=
  ⟨h.hG,h.row,h.len,h.own,fun i e d h1 h2=>by
    obtain ⟨A,m,q,rfl,hB,hx⟩:=h.dat i e d h1 h2
    refine ⟨A,m,q,rfl,hB,fun a ha=>?_⟩
    by_cases h0:m=0
    · exact .inl h0
    · obtain ⟨b',o',e',hlt,_⟩:=hB.at_ (by omega)
      rw [ha] at e';injection e' with e';subst e'
      refine .inr (fun hy=>(hx _ ha).resolve_left h0 (hy.imp id (fun h5=>(hE _ h5).resolve_right (fun h6=>?_))))
      exact absurd hlt (Nat.not_lt.2 h6)⟩
theorem Sim.bytes (h:Sim d fs r L) (ok:FsOk d fs) (n:ByteArray):bsOf L n=bsOf fs n:=by unfold bsOf;rw [h.get ok n]
theorem results_three {fn:Func} {t u x:Tmp} (h:fn.results=#[.tmp t,.tmp u,.tmp x]) (tmps:Array Value) (P:Program) (w:World) :
    (results fn tmps).run P w=.ok (.tuple #[tmps.getD t undef,tmps.getD u undef,tmps.getD x undef]) w:=by
  simp [results,h]
def ROpen (O:Nat→Prop) (w:World) (B G:Nat) (nm:ByteArray) (v:Value) (sc:List (List UInt8) × Nat × Int) (o:Out) (x:Ending) (w':World):Prop :=
  ∃ H r' L' v' P' vh,x=.returned (.tuple #[pH H,.int .i64 0,.bool false])∧Sim o.2.1 o.2.2 r' L'∧RkAt w' B G (fun k=>O k∨RL H vh k) r' L' v' P'∧RlAt (fun k=>O k∨RF G v' k) w' B H G nm sc.1 sc.2.1 vh ∧
    Ch (RF G v) w w'∧(∀ k,RF G v' k→RF G v k∨w.heap.size≤k)∧w.heap.size≤H∧(∀ k,vh.ownBlock=some k→w.heap.size≤k)
theorem ROpen.laid {w2 w5:World} {r5:Rk} {L5:Fs} {v5:Value} {P5:List Value} (hO:∀ k,O k→k<w.heap.size) (hr:RkAt w B G O r L v P) (hb:Below w.heap.size w w2) (hrw:Rw w.heap.size (fun k=>k<w.heap.size) w2 vh rs) (hB:B≤w.heap.size)
    (hst:Step w2 B G (fun k=>O k∨vh.ownBlock=some k) v w5 r5 L5 v5 P5) :
    RkAt (w5.alloc (.cells (rlCells G nm vh g) TR14)) B G (fun k=>O k∨RL w5.heap.size vh k) r5 L5 v5 P5∧RlAt (fun k=>O k∨RF G v5 k) (w5.alloc (.cells (rlCells G nm vh g) TR14)) B w5.heap.size G nm rs g vh∧Ch (RF G v) w (w5.alloc (.cells (rlCells G nm vh g) TR14)) ∧
      (∀ k,RF G v5 k→RF G v k∨w.heap.size≤k)∧w.heap.size≤w5.heap.size∧(∀ k,vh.ownBlock=some k→w.heap.size≤k):=by
  have hb5:Below w5.heap.size w5 (w5.alloc (.cells (rlCells G nm vh g) TR14)):=(Below.refl _ _).alloc (Nat.le_refl _) _
  have h25:=hst.ch.size
  have hwn:∀ k,RF G v5 k→RF G v k∨w2.heap.size≤k:=fun k hk=>by
    rcases hk with rfl|hk
    · exact .inl (.inl rfl)
    · exact (hst.own k hk).elim (fun h=>.inl (.inr h)) .inr
  have hOw:∀ k,O k∨RF G v5 k→k<w2.heap.size→k<w.heap.size:=fun k hk hlt=>by
    rcases hk with hk|hk
    · exact hO k hk
    · rcases hwn k hk with h1|h1
      · exact (hr.foot_lt h1).2
      · omega
  have hrw5:Rw w.heap.size (fun k=>O k∨RF G v5 k) w5 vh rs:=hrw.ch hst.ch (fun k _ hk=>(hr.foot_lt hk).2) (fun k hk ht=>hOw k ht hk)
  refine ⟨(hst.at_.wider (E':=fun k=>O k∨RL w5.heap.size vh k) (fun k hk=>?_)).below hb5,⟨heap_alloc_new w5 _,by have:=hb.size;omega,fun hk=>?_,((hrw5.base hB).widen (T':=fun k=>k=w5.heap.size∨(O k∨RF G v5 k)) (fun k hk=>?_)).below hb5⟩,((Ch.of_below (S:=RF G v) hb).trans hst.ch (fun _ _ h=>h)).trans (Ch.of_below (S:=RF G v) hb5) (fun _ _ h=>h),fun k hk=>?_,by have:=hb.size;omega,fun k hk=>(Rw.lt hrw hk).1⟩
  · rcases hk with hk|rfl|hk
    · exact .inl (.inl hk)
    · exact .inr (Nat.le_refl _)
    · exact .inl (.inr hk)
  · rcases hk with hk|hk
    · have:=hO _ hk;have:=hb.size;omega
    · have:=(hst.at_.foot_lt hk).2;omega
  · rcases hk with rfl|hk
    · exact .inr (Nat.le_refl _)
    · exact .inl hk
  · exact (hwn k hk).imp id (fun h=>Nat.le_trans hb.size h)
set_option maxRecDepth 100000 in
set_option maxHeartbeats 8000000 in
theorem refOpen14 (hr:RkAt w B G O r L v P) (hs:Sim d fs r L) (ok:FsOk d fs) (ho:d.ops+8≤1152921504606846976) (hL:L.length≤10000) (hO:∀ k,O k→k<w.heap.size) (hB:B≤w.heap.size) (hz:nm.size≤140737488355328) (hn:nameD nm=true) (hlen:(bsOf fs nm).length≤2000000000) (h0:(openD d fs nm).1=.inl 0) :
    Calls Tryz.prog 13 #[pR G,.string nm] w (ROpen O w B G nm v (scan (bsOf fs nm)) (openD d fs nm)):=by
  have HR:=hid hr
  have HS:=hid hs
  have HOK:=hid ok
  have HO:=hid ho
  have HLL:=hid hL
  have HOO:=hid hO
  have HB:=hid hB
  have HN:=hid hn
  have HLN:=hid hlen
  have H0:=hid h0
  have HBY:=hid (hs.bytes ok nm)
  clear hr hs ok ho hL hO hB hn hlen h0
  go_enter Tryz.func13,Tryz.ntmps13
  go_wp2_with (fail)
  refine (refName nm w hz).mono ?_
  rw [HN.out]
  rintro e w0 ⟨rfl,rfl⟩
  go_wp2_with (fail)
  refine (rkBytes HR.out nm (by have:=HLL.out;omega)).mono ?_
  intro e w1 hx
  obtain ⟨A1,c1,fnd,rfl,rfl,hB1⟩:∃ A1 c1 fnd,w=w1∧e=.returned (.tuple #[.slice A1 (bsOf fs nm).length c1,.bool fnd])∧Bs w A1 (bsOf fs nm).length c1 (bsOf fs nm):=by
    rw [← HBY.out]
    unfold bsOf
    obtain ⟨hw,⟨h1,h2⟩|⟨f,A,m,c,h1,h2,h3⟩⟩:=hx
    · rw [h1];exact ⟨none,0,false,hw,h2,Bs.none_ w⟩
    · rw [h1];have hl:=h3.len;subst hl;exact ⟨A,c,true,hw,h2,h3⟩
  have HB1:=hid hB1
  clear hx hB1 HBY
  have HOD:Hid (openD d fs nm=if (scan (bsOf fs nm)).2.1=(bsOf fs nm).length then (.inl 0,d,fs) else openT nm (opTrunc d fs nm ((scan (bsOf fs nm)).2.1:Int))):=hid rfl
  have HSL:=hid (scan_len (bsOf fs nm))
  generalize bsOf fs nm=bs at *
  obtain ⟨n,hn⟩:∃ n,n=bs.length:=⟨_,rfl⟩
  rw [← hn] at HB1 HSL HOD HLN ⊢
  clear hn
  go_wp2_with (fail)
  refine (refScann A1 n c1 bs w HB1.out HLN.out).mono ?_
  rintro e w2 ⟨v2,rfl,hrw,hb2⟩
  obtain ⟨rs,hrs⟩:∃ rs,rs=(scan bs).1:=⟨_,rfl⟩
  obtain ⟨g,hg⟩:∃ g,g=(scan bs).2.1:=⟨_,rfl⟩
  obtain ⟨er,her⟩:∃ er,er=(scan bs).2.2:=⟨_,rfl⟩
  have HSC:Hid (scan bs=(rs,g,er)):=hid (by rw [hrs,hg,her])
  rw [← hrs] at hrw
  rw [← hg,← her]
  rw [← hg] at HOD HSL
  obtain ⟨Av,cv,rfl⟩:=hrw.form
  have HRW:=hid hrw
  have HB2:=hid hb2
  clear hrw hb2 hrs hg her
  obtain ⟨vh,hvh⟩:∃ vh,vh=Value.slice Av rs.length cv:=⟨_,rfl⟩
  have HVH:=hid hvh
  have HST0:Hid (Step w2 B G (fun k=>O k∨(Value.slice Av rs.length cv).ownBlock=some k) v w2 r L v P):=hid (Step.refl (((HR.out.wider (E':=fun k=>O k∨w.heap.size≤k) (fun k hk=>hk)).below HB2.out).wider (fun k hk=>.inl (hk.imp id (fun h=>(Rw.lt HRW.out h).1)))))
  have HE:Hid (∀ q,O q∨(Value.slice Av rs.length cv).ownBlock=some q→q<w2.heap.size):=hid (fun q hq=>by
    rcases hq with hq|hq
    · exact Nat.lt_of_lt_of_le (HOO.out q hq) HB2.out.size
    · exact (Rw.lt HRW.out hq).2)
  clear hvh
  by_cases hgl:g=n
  · have e1:decide (g<n)=false:=by simp;omega
    have HOE:Hid (openD d fs nm=(.inl 0,d,fs)):=hid (by rw [HOD.out,if_pos hgl])
    have hQ:=HST0.out
    clear hgl HOD
    go_wp2_with (fail)
    have HL:=hid (ROpen.laid (nm:=nm) (g:=g) HOO.out HR.out HB2.out HRW.out HB.out HST0.out)
    refine bodyPost_ret (v:=.tuple #[pH w2.heap.size,.int .i64 0,.bool false]) (results_three Tryz.results13 _ _ _) rfl ?_
    rw [HOE.out,HSC.out]
    obtain ⟨h1,h2,h3,h4,h5,h6⟩:=HL.out
    exact ⟨_,r,L,v,P,_,rfl,HS.out,h1,h2,h3,h4,h5,h6⟩
  · have e1:decide (g<n)=true:=by have:=HSL.out;simp;omega
    have HOE:Hid (openD d fs nm=openT nm (opTrunc d fs nm (g:Int))):=hid (by rw [HOD.out,if_neg hgl])
    clear hgl HOD
    go_wp2_with (fail)
    refine (rkTrunc HST0.out.at_ HS.out HOK.out nm g (by have:=HLL.out;omega) HE.out).mono ?_
    intro x w3 hx
    obtain ⟨e3,g3,r3,L3,v3,P3,rfl,hag,hs3,hst⟩:=hx.step
    have HST3:=hid hst
    have HS3:=hid hs3
    have OK3:=hid (trunc_ok HOK.out (by have:=HO.out;omega) nm (g:Int))
    have HAL:=hid (trunc_len d fs nm (g:Int))
    have HOP:=hid (trunc_opsW d fs nm (g:Int))
    clear hx hst hs3 HST0
    generalize opTrunc d fs nm (g:Int)=q at *
    obtain ⟨y|op,d3,fs3⟩:=q
    · obtain rfl:g3=false:=by
        rcases hag with ⟨_,_,_,h3⟩|⟨_,h1,_,_⟩
        · exact h3
        · cases h1
      have HOF:Hid (openD d fs nm=opSync d3 fs3 nm):=HOE
      have HS3':Hid (Sim d3 fs3 r3 L3):=hid HS3.out
      have OK3':Hid (FsOk d3 fs3):=hid OK3.out
      have HLF:Hid (L3.length≤10001):=hid (by have h1:=HS3'.out.perm.length_eq;have h2:=HAL.out;have h3:=HS.out.perm.length_eq;have h4:=HLL.out;simp only at h2;omega)
      clear hag HOE
      go_wp2_with (fail)
      refine (rkSync HST3.out.at_ HS3'.out OK3'.out nm (by have:=HLF.out;omega)).mono ?_
      intro x w4 hx
      obtain ⟨e4,g4,r4,L4,v4,P4,rfl,hag,hs4,hst⟩:=hx.step
      have HST4:=hid (HST3.out.trans hst)
      have HS4:=hid hs4
      obtain ⟨rfl,rfl⟩:g4=false∧e4=0:=by
        have h1:=H0.out
        rw [HOF.out] at h1
        rcases hag with ⟨z,h2,h3,h4⟩|⟨_,h2,_,_⟩
        · rw [h1] at h2;injection h2 with h2;exact ⟨h4,by rw [h3,← h2]⟩
        · rw [h1] at h2;cases h2
      clear hx hst hs4 hag
      go_wp2_with (fail)
      have HL:=hid (ROpen.laid (nm:=nm) (g:=g) HOO.out HR.out HB2.out HRW.out HB.out HST4.out)
      refine bodyPost_ret (v:=.tuple #[pH w4.heap.size,.int .i64 0,.bool false]) (results_three Tryz.results13 _ _ _) rfl ?_
      rw [HOF.out,HSC.out]
      obtain ⟨h1,h2,h3,h4,h5,h6⟩:=HL.out
      exact ⟨_,r4,L4,v4,P4,_,rfl,HS4.out,h1,h2,h3,h4,h5,h6⟩
    · have h1:=H0.out
      rw [HOE.out] at h1
      cases h1
end
end
end Go.Proofs.YtodjilljcjkacaaGreatDoor
