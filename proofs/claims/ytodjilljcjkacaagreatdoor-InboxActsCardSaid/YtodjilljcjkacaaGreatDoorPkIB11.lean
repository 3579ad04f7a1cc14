/- Laid together: Rk3. -/
import Derived.Test.YtodjilljcjkacaaGreatDoorPkIB10
import Derived.Deep.CutRange
import Derived.Deep.DeepCutAuto

namespace Go.Proofs.YtodjilljcjkacaaGreatDoor
open Lib (hid)
section
open Go.RowKit Go.MapKept
theorem rfsC_mid {A0 Q0:Fs} {e:ByteArray × Fl} {P1 P2:List Value} {d:Value} (h:P1.length=A0.length):rfsC (A0++e :: Q0) (P1++d :: P2)=rfsC A0 P1++(rfC e d++rfsC Q0 P2):=by
  rw [rfsC_app _ _ h]
  rfl
theorem p_split {A0 Q0:Fs} {e:ByteArray × Fl} {P:List Value} (h:P.length=(A0++e :: Q0).length):∃ P1 d P2,P=P1++d :: P2∧P1.length=A0.length:=by
  have hl:A0.length<P.length:=by rw [h];simp
  exact ⟨P.take A0.length,P[A0.length],P.drop (A0.length+1),by rw [List.getElem_cons_drop,List.take_append_drop],by rw [List.length_take];omega⟩
section
variable {w:World} {B G g n c:Nat} {E:Nat→Prop} {r:Rk} {A0 Q0:Fs} {e:ByteArray × Fl} {v:Value} {P1 P2:List Value} {d:Value}
theorem setc_row (h:RkAt w B G E r (A0++e :: Q0) (.slice (some ⟨g,0,none⟩) n c) (P1++d :: P2)) (hp:P1.length=A0.length) (j:Nat) (u:Value) (hj:j<3) :
    (w.setCell ⟨g,A0.length*3+j,none⟩ u).ownsRow B TRF 3 (.slice (some ⟨g,0,none⟩) n c) (A0++e :: Q0).length (rfsC A0 P1++((rfC e d).set j u++rfsC Q0 P2)):=by
  have hn:n=(A0++e :: Q0).length:=by
    obtain ⟨A',c',e',_⟩:=h.form
    injection e'
  have ho:=h.own
  rw [rfsC_mid hp,← hn] at ho
  have h2:=(World.ownsRow.stored ho (A0.length*3+j) u).1
  rw [List.set_append,if_neg (by rw [rfsC_len hp];omega),rfsC_len hp,Nat.add_sub_cancel_left,List.set_append,if_pos (by simp [rfC];omega)] at h2
  rw [← hn]
  exact h2
theorem gne (h:RkAt w B G E r (A0++e :: Q0) (.slice (some ⟨g,0,none⟩) n c) (P1++d :: P2)):g≠G:=h.vne g rfl
theorem RkAt.setD (h:RkAt w B G E r (A0++e :: Q0) (.slice (some ⟨g,0,none⟩) n c) (P1++d :: P2)) (hp:P1.length=A0.length) (dv:Value) (b:List UInt8) (hd:DvX (fun k=>RF G (.slice (some ⟨g,0,none⟩) n c) k∨E k) w dv b) :
    RkAt (w.setCell ⟨g,A0.length*3+1,none⟩ dv) B G E r (A0++(e.1,⟨b,e.2.safe⟩) :: Q0) (.slice (some ⟨g,0,none⟩) n c) (P1++dv :: P2):=by
  have hc:Ch (At1 g) w (w.setCell ⟨g,A0.length*3+1,none⟩ dv):=(Ch.refl _ w).set1 _ _
  have hX:Ch (fun k=>RF G (.slice (some ⟨g,0,none⟩) n c) k∨E k) w (w.setCell ⟨g,A0.length*3+1,none⟩ dv):=hc.wide (fun k hk=>.inl (.inr (by rw [hk];rfl)))
  have hl:=h.len
  refine ⟨h.hG,hc.row h.row (fun hh=>gne h hh.symm),by simpa using hl,?_,fun i x q hx hq=>?_⟩
  · have:=setc_row h hp 1 dv (by omega)
    rw [rfsC_mid hp]
    simpa [rfC] using this
  · by_cases hi:i=A0.length
    · subst hi
      rw [List.getElem?_append_right (Nat.le_refl _),Nat.sub_self] at hx
      rw [List.getElem?_append_right (by omega),hp,Nat.sub_self] at hq
      simp only [List.getElem?_cons_zero,Option.some.injEq] at hx hq
      subst hx hq
      exact hd.ch hX (fun _ _ h=>h)
    · have h1:(A0++e :: Q0)[i]?=some x:=by
        by_cases hlt:i<A0.length
        · rw [List.getElem?_append_left hlt] at hx ⊢;exact hx
        · rw [List.getElem?_append_right (by omega)] at hx ⊢
          rw [show i-A0.length=(i-A0.length-1)+1 from by omega,List.getElem?_cons_succ] at hx ⊢
          exact hx
      have h2:(P1++d :: P2)[i]?=some q:=by
        by_cases hlt:i<A0.length
        · rw [List.getElem?_append_left (by omega)] at hq ⊢;exact hq
        · rw [List.getElem?_append_right (by omega)] at hq ⊢
          rw [show i-P1.length=(i-P1.length-1)+1 from by omega,List.getElem?_cons_succ] at hq ⊢
          exact hq
      exact (h.dat i x q h1 h2).ch hX (fun _ _ h=>h)
theorem RkAt.setS (h:RkAt w B G E r (A0++e :: Q0) (.slice (some ⟨g,0,none⟩) n c) (P1++d :: P2)) (hp:P1.length=A0.length) (s:Nat) :
    RkAt (w.setCell ⟨g,A0.length*3+2,none⟩ (.int .i64 (s:Int))) B G E r (A0++(e.1,⟨e.2.bs,s⟩) :: Q0) (.slice (some ⟨g,0,none⟩) n c) (P1++d :: P2):=by
  have hc:Ch (At1 g) w (w.setCell ⟨g,A0.length*3+2,none⟩ (.int .i64 (s:Int))):=(Ch.refl _ w).set1 _ _
  have hX:Ch (fun k=>RF G (.slice (some ⟨g,0,none⟩) n c) k∨E k) w (w.setCell ⟨g,A0.length*3+2,none⟩ (.int .i64 (s:Int))):=hc.wide (fun k hk=>.inl (.inr (by rw [hk];rfl)))
  have hl:=h.len
  refine ⟨h.hG,hc.row h.row (fun hh=>gne h hh.symm),by simpa using hl,?_,fun i x q hx hq=>?_⟩
  · have:=setc_row h hp 2 (.int .i64 (s:Int)) (by omega)
    rw [rfsC_mid hp]
    simpa [rfC] using this
  · by_cases hi:i=A0.length
    · subst hi
      have h2:=h.dat A0.length e q (by rw [List.getElem?_append_right (Nat.le_refl _),Nat.sub_self];rfl) hq
      rw [List.getElem?_append_right (Nat.le_refl _),Nat.sub_self] at hx
      simp only [List.getElem?_cons_zero,Option.some.injEq] at hx
      subst hx
      exact h2.ch hX (fun _ _ h=>h)
    · have h1:(A0++e :: Q0)[i]?=some x:=by
        by_cases hlt:i<A0.length
        · rw [List.getElem?_append_left hlt] at hx ⊢;exact hx
        · rw [List.getElem?_append_right (by omega)] at hx ⊢
          rw [show i-A0.length=(i-A0.length-1)+1 from by omega,List.getElem?_cons_succ] at hx ⊢
          exact hx
      exact (h.dat i x q h1 hq).ch hX (fun _ _ h=>h)
end
theorem slice_fr (A:Option Addr) (m c N:Nat) (h:N≤c) (W:World):(Instr.sliceAt 40 (.slice A m c) none (some (.int .i64 (N:Int))) none).run Tryz.prog W=.ok (.slice A N c) W:=by
  have he:Tryz.prog.elem 40=5:=by kernel_rfl
  have hu:Tryz.prog.underlying 40=some (.slice (Tryz.prog.elem 40)):=by rw [he];exact Tryz.underlying40
  rw [run_sliceAt_slice (h:=hu),run_slice_h (ht:=hu) (h0:=by omega) (h2:=by omega),he]
  rcases A with _|a
  · simp [go_sem,sliced,Result.andThen]
  · simp [go_sem,sliced,Result.andThen,Addr.add]
theorem Bs.front {w:World} {A:Option Addr} {m c N:Nat} {l:List UInt8} (h:Bs w A m c l) (hN:N≤m):Bs w A N c (l.take N):=by
  refine ⟨by rw [List.length_take,h.len];omega,by have:=h.2.1;omega,h.2.2.1,fun h0=>?_⟩
  obtain ⟨b,o,e,_,hc⟩:=h.at_ (by omega)
  exact ⟨b,o,e,fun i x hx=>hc i x (by
    rw [List.getElem?_take] at hx
    split at hx
    · exact hx
    · cases hx)⟩
def appM (r:Rk) (u m:Nat):Nat:=min m (r.size-(u:Int)).toNat
def appR (r:Rk) (u m:Nat):Nat:=if r.armed=1 then min (appM r u m) r.keep.toNat else appM r u m
def AppTo (r:Rk) (L:Fs) (nm:ByteArray) (l:List UInt8) (L':Fs):Prop :=
  ∃ L1 A f Q,(fget L nm≠none∧L1=L∨fget L nm=none∧PutsTo L (nm,⟨[],0⟩) L1)∧L1=A++(nm,f) :: Q∧(∀ e ∈ A,e.1≠nm)∧L'=A++(nm,⟨f.bs++l.take (appR r (sumB L) l.length),f.safe⟩) :: Q
structure Rk.Ok (r:Rk):Prop where
  size:0≤r.size∧r.size≤1099511627776
  count:0≤r.count∧r.count≤1152921504606846976
  armed:0≤r.armed∧r.armed≤9223372036854775807
  keep:-9223372036854775808≤r.keep∧r.keep≤9223372036854775807
  fail:0≤r.fail∧r.fail≤9223372036854775807
abbrev ret3 (n e:Int) (g:Bool):Ending:=.returned (.tuple #[.int .i64 n,.int .i64 e,.bool g])
set_option maxHeartbeats 16000000 in
set_option maxRecDepth 100000 in
theorem rkAppend_name {w:World} {G:Nat} (nm:ByteArray) (hs:nm.size≤140737488355328) (hn:nameD nm=false) (A:Option Addr) (m c:Nat) :
    Calls Tryz.prog 89 #[pR G,.string nm,.slice A m c] w fun x w'=>x=ret3 0 16 false∧w=w':=by
  have HN:=hid hn
  clear hn
  go_enter Tryz.func89,Tryz.ntmps89
  go_wp2_with (fail)
  refine (refName nm w hs).mono ?_
  rw [HN.out]
  rintro e w1 ⟨rfl,rfl⟩
  go_wp2_with (fail)
  refine bodyPost_ret (v:=.tuple #[.int .i64 0,.int .i64 16,.bool false]) (results_tmp3 Tryz.results89 _ _ _) rfl ?_
  exact ⟨rfl,rfl⟩
theorem puts_sum {L L':Fs} {nm:ByteArray} (h:PutsTo L (nm,⟨[],0⟩) L'):sumB L'=sumB L∧L'.length=L.length+1:=by
  obtain ⟨A,Q,rfl,rfl,_⟩:=h
  exact ⟨by simp [sumB],by simp;omega⟩
theorem puts_split {L L':Fs} {e:ByteArray × Fl} (h:PutsTo L e L') (hn:∀ x ∈ L,x.1≠e.1):∃ A Q,L'=A++e :: Q∧(∀ x ∈ A,x.1≠e.1):=by
  obtain ⟨A,Q,rfl,rfl,_⟩:=h
  exact ⟨A,Q,rfl,fun x hx=>hn x (by simp [hx])⟩
def RetApp (w:World) (B G:Nat) (E:Nat→Prop) (r:Rk) (L:Fs) (v:Value) (nm:ByteArray) (l:List UInt8) (x:Ending) (w':World):Prop :=
  ∃ L' v' P',AppTo r L nm l L'∧x=(if r.armed=1 then ret3 0 0 true else ret3 ((appR r (sumB L) l.length:Nat):Int) (if appR r (sumB L) l.length<l.length then 4 else 0) false)∧RkAt w' B G E r.begin L' v' P'∧Ch (RF G v) w w'∧(∀ k,v'.ownBlock=some k→v.ownBlock=some k∨w.heap.size≤k)
set_option maxHeartbeats 16000000 in
set_option maxRecDepth 100000 in
theorem rkAppend {w:World} {B G:Nat} {E:Nat→Prop} {r:Rk} {L:Fs} {v:Value} {P:List Value} (h:RkAt w B G E r L v P) (ok:r.Ok) (nm:ByteArray) (hs:nm.size≤140737488355328) (hn:nameD nm=true) (A:Option Addr) (m c:Nat) (l:List UInt8) (hl:DvX (RF G v) w (.slice A m c) l) (hm:m≤140737488355328)
    (hL:L.length≤100000) (hsum:sumB L≤1099511627776) (hBw:B≤w.heap.size) (hE:∀ k,E k→k<w.heap.size) :
    Calls Tryz.prog 89 #[pR G,.string nm,.slice A m c] w (RetApp w B G E r L v nm l):=by
  have H:=hid h
  have HOK:=hid ok
  have HL:=hid hL
  have HSU:=hid hsum
  have HBW:=hid hBw
  have HE:=hid hE
  have HM:=hid hm
  have HLD:=hid hl
  have HNM:=hid hn
  have hml:l.length=m:=by obtain ⟨A',m',c',e',hB,_⟩:=hl;injection e' with _ e2;rw [e2];exact hB.len
  have HML:=hid hml
  clear h ok hL hsum hBw hE hm hl hn hml
  go_enter Tryz.func89,Tryz.ntmps89
  go_wp2_with (fail)
  refine (refName nm w hs).mono ?_
  rw [HNM.out]
  rintro e w1 ⟨rfl,rfl⟩
  go_wp2_with (fail)
  refine (rkBegin H.out HOK.out.count HOK.out.armed).mono ?_
  rintro e w1 ⟨rfl,h1,hc1⟩
  have H1:=hid h1
  have HC1:=hid hc1
  clear h1 hc1
  obtain ⟨gone,hgone⟩:∃ g,g=(r.armed == 1):=⟨_,rfl⟩
  have HGONE:=hid hgone
  rw [← hgone]
  clear hgone
  go_wp2_with (fail)
  refine (rkFind H1.out nm (by have:=HL.out;omega)).mono ?_
  rintro e w2 ⟨rfl,rfl⟩
  have HFS:=hid (fs_split L nm)
  obtain ⟨I,hI⟩:∃ I,I=fidx L nm:=⟨_,rfl⟩
  rw [← hI] at HFS ⊢
  clear hI
  go_upto_if 20 with (fail)
  go_cut [] (fun wx=>∃ L1 v1 P1 A0 f Q0,(fget L nm≠none∧L1=L∨fget L nm=none∧PutsTo L (nm,⟨[],0⟩) L1)∧L1=A0++(nm,f) :: Q0∧(∀ e ∈ A0,e.1≠nm)∧sumB L1=sumB L∧L1.length≤L.length+1∧RkAt wx B G E r.begin L1 v1 P1∧Ch (RF G v) w wx∧(∀ k,v1.ownBlock=some k→v.ownBlock=some k∨w.heap.size≤k))
  case first =>
    rcases HFS.out with ⟨hg,hno,hi⟩|⟨A0,f,Q0,hL1,hno,hg,hi⟩
    · have HG:=hid hg
      have HNO:=hid hno
      have d1:decide (I<0)=true:=by rw [hi];rfl
      clear hg hno hi
      rw [d1]
      go_wp2_with (fail)
      refine Calls.mono (show Calls Tryz.prog 126 #[pR G,.agg #[.string nm,.slice none 0 0,.int .i64 0]] w1 _ from rkPut H1.out (nm,⟨[],0⟩) none 0 0 ⟨none,0,0,rfl,Bs.none_ _,fun a ha=>by cases ha⟩ (by have:=HL.out;omega) (Nat.le_trans HBW.out HC1.out.size)) ?_
      rintro e w3 ⟨rfl,L1,v1,P1,hp,h3,hc3,hv3⟩
      have HX:Hid (∃ L1 v1 P1 A0 f Q0,(fget L nm≠none∧L1=L∨fget L nm=none∧PutsTo L (nm,⟨[],0⟩) L1)∧L1=A0++(nm,f) :: Q0∧(∀ e ∈ A0,e.1≠nm)∧sumB L1=sumB L∧L1.length≤L.length+1∧RkAt w3 B G E r.begin L1 v1 P1∧Ch (RF G v) w w3∧(∀ k,v1.ownBlock=some k→v.ownBlock=some k∨w.heap.size≤k)):=hid (by
        obtain ⟨A0,Q0,hl1,hno1⟩:=puts_split hp HNO.out
        refine ⟨L1,v1,P1,A0,⟨[],0⟩,Q0,.inr ⟨HG.out,hp⟩,hl1,hno1,(puts_sum hp).1,by rw [(puts_sum hp).2];omega,h3,(HC1.out.wide (fun k hk=>.inl hk)).trans hc3 (fun _ _ h=>h),fun k hk=>?_⟩
        rcases hv3 k hk with h|h
        · exact .inl h
        · exact .inr (Nat.le_trans HC1.out.size h))
      clear hp h3 hc3 hv3
      go_wp2_with (fail)
      go_meet
      exact HX.out
    · have HX:Hid (∃ L1 v1 P1 A0 f Q0,(fget L nm≠none∧L1=L∨fget L nm=none∧PutsTo L (nm,⟨[],0⟩) L1)∧L1=A0++(nm,f) :: Q0∧(∀ e ∈ A0,e.1≠nm)∧sumB L1=sumB L∧L1.length≤L.length+1∧RkAt w1 B G E r.begin L1 v1 P1∧Ch (RF G v) w w1∧(∀ k,v1.ownBlock=some k→v.ownBlock=some k∨w.heap.size≤k)):=hid ⟨L,v,P,A0,f,Q0,.inl ⟨by rw [hg];simp,rfl⟩,hL1,hno,rfl,by omega,H1.out,HC1.out.wide (fun k hk=>.inl hk),fun k hk=>.inl hk⟩
      have d1:decide (I<0)=false:=by rw [hi,decide_eq_false_iff_not];omega
      clear hg hno hL1 hi
      rw [d1]
      go_wp2_with (fail)
      go_meet
      exact HX.out
  case rest =>
    obtain ⟨L1,v1,P1,A0,f,Q0,hwhy,hL1,hno,hsu,hlen,h2,hc2,hv2⟩:=hcut
    have HWHY:=hid hwhy
    have HL1:=hid hL1
    have HNO:=hid hno
    have HSUM:=hid hsu
    have HLEN:=hid hlen
    have H2:=hid h2
    have HC2:=hid hc2
    have HV2:=hid hv2
    have HUS:Hid (∀ W,Below wc.heap.size wc W→Calls Tryz.prog 127 #[pR G] W fun e w'=>e=.returned (.int .i64 (sumB L:Int))∧W=w'):=hid (fun W hW=>by
      have:=rkUsed (H2.out.below hW) (by have:=HLEN.out;have:=HL.out;omega) (by rw [HSUM.out];exact HSU.out)
      rw [HSUM.out] at this
      exact this)
    have c1:wc.cell? ⟨G,1,none⟩=some (.int .i64 r.size):=h2.cell 1
    obtain ⟨U,hU⟩:∃ U,U=sumB L:=⟨_,rfl⟩
    have HU:=hid hU
    have HUB:Hid (U≤1099511627776):=hid (by rw [hU];exact HSU.out)
    rw [← hU] at HUS
    have hwx:IntKind.i64.wrap (r.size-(U:Int))=r.size-(U:Int):=IntWalk.i64_in _ (by have:=HUB.out;have:=HOK.out.size;omega)
    clear hwhy hL1 hno hsu hlen h2 hc2 hv2 hU
    go_wp2_with (fail)
    go_quiet ((go_at_call 127;exact Calls.quiet_sym (HUS.out _ (drawN_below (Below.refl _ _) _))))
    have HBQ:Hid (Below wc.heap.size wc (wc.drewN nq)):=hid (drawN_below (Below.refl _ _) nq)
    have H3:=hid (H2.out.below HBQ.out)
    have HC3:=hid (HC2.out.trans (Ch.of_below (S:=fun _=>False) HBQ.out) (fun _ _ h=>h.elim))
    clear c1 hwx H2 HC2 HUS HBQ
    generalize wc.drewN nq=w3 at *
    obtain ⟨X,hX⟩:∃ X,X=r.size-(U:Int):=⟨_,rfl⟩
    have HX:=hid hX
    rw [← hX]
    clear hX
    go_upto_if 35 with (fail)
    go_cut [10] (fun x wx=>x=.int .i64 (min X (m:Int))∧wx=w3)
    case first =>
      by_cases hc:(decide ((m:Int)<X))=true
      · have HMIN:Hid (min X (m:Int)=(m:Int)):=hid (by simp at hc;omega)
        rw [hc]
        clear hc
        go_wp2_with (fail)
        go_meet
        exact ⟨by first | (rw [HMIN.out];done) | (rw [HMIN.out];rfl),rfl⟩
      · have hc:(decide ((m:Int)<X))=false:=by simpa using hc
        have HMIN:Hid (min X (m:Int)=X):=hid (by simp at hc;omega)
        rw [hc]
        clear hc
        go_wp2_with (fail)
        go_meet
        exact ⟨by first | (rw [HMIN.out];done) | (rw [HMIN.out];rfl),rfl⟩
    case rest =>
      obtain ⟨rfl,hw⟩:=hcut
      obtain rfl:=hw.symm
      obtain ⟨N0,hN0⟩:∃ N0,N0=appM r U m:=⟨_,rfl⟩
      have HN0:=hid hN0
      obtain ⟨M1,hM1⟩:∃ M1,M1=min X (m:Int):=⟨_,rfl⟩
      have HM1:Hid ((N0:Int)=max 0 M1):=hid (by rw [hN0,hM1,HX.out];unfold appM;omega)
      have HNM:Hid (N0≤m):=hid (by rw [hN0];unfold appM;omega)
      rw [← hM1]
      clear hN0 hM1
      go_upto_if 39 with (fail)
      go_cut [10] (fun x wx=>x=.int .i64 ((N0:Nat))∧wx=w3)
      case first =>
        by_cases hc:(decide (M1<0))=true
        · have HMIN:Hid ((N0:Nat)=0):=hid (by have:=HM1.out;simp at hc;omega)
          rw [hc]
          clear hc
          go_wp2_with (fail)
          go_meet
          exact ⟨by first | (rw [HMIN.out];done) | (rw [HMIN.out];rfl),rfl⟩
        · have hc:(decide (M1<0))=false:=by simpa using hc
          have HMIN:Hid ((N0:Nat)=M1):=hid (by have:=HM1.out;simp at hc;omega)
          rw [hc]
          clear hc
          go_wp2_with (fail)
          go_meet
          exact ⟨by first | (rw [HMIN.out];done) | (rw [HMIN.out];rfl),rfl⟩
      case rest =>
        obtain ⟨rfl,hw⟩:=hcut
        obtain rfl:=hw.symm
        obtain ⟨N1,hN1⟩:∃ N1,N1=appR r U m:=⟨_,rfl⟩
        have HN1:=hid hN1
        have c4:w3.cell? ⟨G,4,none⟩=some (.int .i64 r.keep):=H3.out.cell 4
        have HGT:Hid (gone=true→r.armed=1):=hid (fun h=>by have:=HGONE.out;rw [h] at this;simpa using this.symm)
        have HGF:Hid (gone=false→¬ r.armed=1):=hid (fun h=>by have:=HGONE.out;rw [h] at this;simpa using this.symm)
        obtain ⟨M3,hM3⟩:∃ M3:Int,M3=if gone then min (N0:Int) r.keep else (N0:Int):=⟨_,rfl⟩
        have HM3:Hid ((N1:Int)=max 0 M3):=hid (by
          rw [hN1,hM3]
          unfold appR
          rw [← HN0.out]
          cases hg:gone
          · rw [if_neg (HGF.out hg)];simp
          · rw [if_pos (HGT.out hg)];simp;omega)
        have HN1B:Hid (N1≤1099511627776):=hid (by
          have h1:=HOK.out.size
          have h2:N1≤appM r U m:=by rw [hN1];unfold appR;split <;> omega
          unfold appM at h2
          omega)
        have HNM1:Hid (N1≤m):=hid (by rw [hN1];unfold appR;rw [← HN0.out];have:=HNM.out;split <;> omega)
        have HM3':=hid hM3
        clear hN1 hM3
        go_upto_region 11 with (fail)
        go_cut [48] (fun x wx=>x=.bool (gone && decide (r.keep<(N0:Int)))∧wx=w3)
        case first =>
          cases gone
          · go_wp2_with (fail)
            go_meet
            exact ⟨rfl,rfl⟩
          · go_wp2_with (fail)
            go_meet
            exact ⟨by simp,rfl⟩
        case rest =>
          obtain ⟨rfl,hw⟩:=hcut
          obtain rfl:=hw.symm
          go_upto_if 48 with (fail)
          go_cut [10] (fun x wx=>x=.int .i64 (M3)∧wx=w3)
          case first =>
            by_cases hc:(gone && decide (r.keep<(N0:Int)))=true
            · have HMIN:Hid (M3=r.keep):=hid (by rw [HM3'.out];simp at hc;obtain ⟨h1,h2⟩:=hc;rw [h1];simp;omega)
              rw [hc]
              clear hc
              go_wp2_with (fail)
              go_meet
              exact ⟨by first | (rw [HMIN.out];done) | (rw [HMIN.out];rfl),rfl⟩
            · have hc:(gone && decide (r.keep<(N0:Int)))=false:=by simpa using hc
              have HMIN:Hid (M3=(N0:Int)):=hid (by rw [HM3'.out];cases gone <;> simp at hc ⊢;omega)
              rw [hc]
              clear hc
              go_wp2_with (fail)
              go_meet
              exact ⟨by first | (rw [HMIN.out];done) | (rw [HMIN.out];rfl),rfl⟩
          case rest =>
            obtain ⟨rfl,hw⟩:=hcut
            obtain rfl:=hw.symm
            go_upto_if 54 with (fail)
            go_cut [10] (fun x wx=>x=.int .i64 ((N1:Nat))∧wx=w3)
            case first =>
              by_cases hc:(decide (M3<0))=true
              · have HMIN:Hid ((N1:Nat)=0):=hid (by have:=HM3.out;simp at hc;omega)
                rw [hc]
                clear hc
                go_wp2_with (fail)
                go_meet
                exact ⟨by first | (rw [HMIN.out];done) | (rw [HMIN.out];rfl),rfl⟩
              · have hc:(decide (M3<0))=false:=by simpa using hc
                have HMIN:Hid ((N1:Nat)=M3):=hid (by have:=HM3.out;simp at hc;omega)
                rw [hc]
                clear hc
                go_wp2_with (fail)
                go_meet
                exact ⟨by first | (rw [HMIN.out];done) | (rw [HMIN.out];rfl),rfl⟩
            case rest =>
              obtain ⟨rfl,hw⟩:=hcut
              obtain rfl:=hw.symm
              clear c4
              go_wp2_with (fail)
              refine (rkFind H3.out nm (by have:=HLEN.out;have:=HL.out;omega)).mono ?_
              have hfx:fidx L1 nm=(A0.length:Int):=by rw [HL1.out];exact fidx_at HNO.out
              rw [hfx]
              clear hfx
              rintro e w4 ⟨rfl,hw4⟩
              obtain rfl:=hw4
              obtain ⟨i,hi⟩:∃ i,i=A0.length:=⟨_,rfl⟩
              have HI:=hid hi
              rw [← hi]
              clear hi
              obtain rfl:=HL1.out
              obtain ⟨Av,cv,rfl,hcv1,hcv2⟩:=H3.out.form
              obtain ⟨g,rfl,_,hxx⟩:=H3.out.at_ (by simp only [List.length_append,List.length_cons];omega)
              obtain ⟨Pa,d,Pb,rfl,hpa⟩:=p_split H3.out.len
              have HPA:=hid hpa
              obtain ⟨n1,hn1⟩:∃ n1,n1=(A0++(nm,f) :: Q0).length:=⟨_,rfl⟩
              have HN1':=hid hn1
              have hei:(A0++(nm,f) :: Q0)[i]?=some (nm,f):=by rw [HI.out,List.getElem?_append_right (Nat.le_refl _),Nat.sub_self];rfl
              have hdi:(Pa++d :: Pb)[i]?=some d:=by rw [HI.out,← hpa,List.getElem?_append_right (Nat.le_refl _),Nat.sub_self];rfl
              obtain ⟨d',hd',_,x1,_⟩:=hxx i _ hei
              rw [hdi] at hd'
              injection hd' with hd'
              subst hd'
              obtain ⟨A7,m7,c7,rfl,hB7,_⟩:=H3.out.dat i _ _ hei hdi
              have HB7:=hid hB7
              have HCX:Hid (∀ W,Below w3.heap.size w3 W→W.cell? ⟨G,0,none⟩=some (.slice (some ⟨g,0,none⟩) n1 cv)∧W.cell? ⟨g,i*3+1,none⟩=some (.slice A7 m7 c7)∧W.frozen? ⟨g,i*3+1,none⟩=false):=hid (fun W hW=>by
                have hK:=H3.out.below hW
                refine ⟨by have:=hK.cell 0;rw [← HN1'.out] at this;exact this,(hW.cell (p:=⟨g,i*3+1,none⟩) (World.block_lt_of_cell? w3 _ x1)).trans x1,hK.own.frozenAt _⟩)
              have hin:(i:Int)<(n1:Int):=by rw [hn1];simp only [List.length_append,List.length_cons];have:=HI.out;omega
              rw [← hn1] at hcv1
              have hnc:(n1:Int)≤(cv:Int):=by omega
              have HLB:Hid (Bs w3 A m c l∧∀ a,A=some a→m=0∨¬ RF G v a.block):=hid (by
                obtain ⟨A',m',c',e',hB,hx⟩:=HLD.out
                injection e' with e1 e2 e3
                subst e1 e2 e3
                have:=DvX.ch ⟨A,m,c,rfl,hB,hx⟩ HC3.out (fun _ _ h=>h)
                obtain ⟨A',m',c',e',hB',_⟩:=this
                injection e' with e1 e2 e3
                subst e1 e2 e3
                exact ⟨hB',hx⟩)
              have hmc:m≤c:=HLB.out.1.2.1
              have sl1:∀ W,(Instr.sliceAt 40 (.slice A m c) none (some (.int .i64 ((N1:Nat):Int))) none).run Tryz.prog W=.ok (.slice A N1 c) W:=fun W=>slice_fr A m c N1 (by have:=HNM1.out;omega) W
              have HB4:Hid (Below w3.heap.size w3 (w3.alloc (.cells #[] 5)).drew):=hid ((Below.refl _ _).alloc (Nat.le_refl _) _).drew
              have HB4':Hid (Below w3.heap.size w3 (w3.alloc (.cells #[] 5))):=hid ((Below.refl _ _).alloc (Nat.le_refl _) _)
              obtain ⟨c0,y1,_⟩:=HCX.out w3 (Below.refl _ _)
              obtain ⟨c0',y1',_⟩:=HCX.out _ HB4'.out
              have HLIT:Hid (Own 5 (w3.alloc (.cells #[] 5)).drew w3.heap.size (.slice (some ⟨w3.heap.size,0,none⟩) 0 0) []):=hid ((Own.lit 5 w3 [] (Nat.le_refl _) (by simp [maxLen])).below ((Below.refl _ _).drew))
              have HML7:Hid (m7≤1099511627776):=hid (by
                have h1:=hB7.len
                have h2:=HSU.out
                rw [← HSUM.out] at h2
                have h3:f.bs.length≤sumB (A0++(nm,f) :: Q0):=by simp [sumB];omega
                have h4:f.bs.length=m7:=h1
                omega)
              have tok1:Hid True:=hid trivial
              have tok2:Hid True:=hid trivial
              clear hxx hei hdi hB7 hpa x1 hn1
              go_upto_region 16 with (fail)
              obtain ⟨vv,hvv⟩:∃ vv:Value,vv=.slice (some ⟨g,0,none⟩) n1 cv:=⟨_,rfl⟩
              go_cut [] (fun wx=>∃ P',RkAt wx B G E r.begin (A0++(nm,⟨f.bs++l.take N1,f.safe⟩) :: Q0) (.slice (some ⟨g,0,none⟩) n1 cv) P'∧Ch (RF G v) w wx)
              case first =>
               go_region_law (first
                 | (have _t:=tok1;refine step_app rfl (.tmp 63) (.tmp 71) rfl w3.heap.size _ [] rfl HLIT.out A7 m7 c7 f.bs rfl (HB7.out.below HB4.out) (by have:=HML7.out;simp;omega) (by simp) ?_;intro v5 w5 ho5 hb5 hg5;have HO5:=hid ho5;have HB5:Hid (Below w3.heap.size w3 w5):=hid (HB4.out.trans hb5);obtain ⟨s0,s1,_⟩:=HCX.out w5 HB5.out;clear tok1 _t ho5 hb5 hg5)
                 | (have _t:=tok2;refine step_app rfl (.tmp 72) (.tmp 75) rfl w3.heap.size v5 ([]++f.bs) rfl HO5.out A N1 c (l.take N1) rfl ((HLB.out.1.below HB5.out).front HNM1.out) (by have:=HML7.out;have:=HB7.out.len;have:=HN1B.out;have:=HNM1.out;simp;omega) HB5.out.size ?_;intro v6 w6 ho6 hb6 hg6;obtain ⟨A6,c6,rfl⟩:=own_form ho6;have HO6:=hid ho6;have HB6:Hid (Below w3.heap.size w3 w6):=hid (HB5.out.trans hb6);obtain ⟨t0,t1,u1⟩:=HCX.out w6 HB6.out;clear tok2 _t ho6 hb6 hg6))
               all_goals
                have HPL:=hid hvv
                have HN6:Hid (f.bs.length+min N1 l.length=(f.bs++l.take N1).length):=hid (by simp)
                have HRK:Hid (RkAt w6 B G E r.begin (A0++(nm,f) :: Q0) (.slice (some ⟨g,0,none⟩) n1 cv) (Pa++.slice A7 m7 c7 :: Pb)):=hid (by have:=H3.out.below HB6.out;rw [← HN1'.out] at this;exact this)
                have HDN:Hid (DvX (fun k=>RF G (.slice (some ⟨g,0,none⟩) n1 cv) k∨E k) w6 (.slice A6 (f.bs.length+min N1 l.length) c6) (f.bs++l.take N1)):=hid (by
                  obtain ⟨A9,c9,e9,hB9,hx9⟩:=HO6.out.bs
                  simp only [List.nil_append,List.length_append,List.length_take] at e9
                  injection e9 with e1 e2 e3
                  subst e1 e3
                  refine ⟨A6,_,c6,rfl,by simpa using hB9,fun a ha=>.inr ?_⟩
                  have h1:=hx9 a ha
                  rintro (h|h)
                  · have h2:=(H3.out.foot_lt (k:=a.block) (by rw [← HN1'.out];exact h)).2;omega
                  · have h2:=HE.out _ h;have h3:=HC3.out.size;omega)
                have HFN:Hid (∃ P',RkAt (w6.setCell ⟨g,i*3+1,none⟩ (.slice A6 (f.bs.length+min N1 l.length) c6)) B G E r.begin (A0++(nm,⟨f.bs++l.take N1,f.safe⟩) :: Q0) (.slice (some ⟨g,0,none⟩) n1 cv) P'∧Ch (RF G v) w (w6.setCell ⟨g,i*3+1,none⟩ (.slice A6 (f.bs.length+min N1 l.length) c6))):=hid (by
                  have h1:=HRK.out.setD HPA.out (.slice A6 (f.bs.length+min N1 l.length) c6) (f.bs++l.take N1) HDN.out
                  rw [← HI.out] at h1
                  refine ⟨_,h1,?_⟩
                  have h2:Ch (fun k=>RF G v k∨w.heap.size≤k) w w6:=(HC3.out.wide (fun k hk=>.inl hk)).trans (Ch.of_below (S:=fun _=>False) HB6.out) (fun _ _ h=>h.elim)
                  exact (h2.set (a:=⟨g,i*3+1,none⟩) ((HV2.out g (by rfl)).imp .inr id) _).trim)
                clear c0 y1 c0' y1' s0 s1 t0 t1 u1 sl1
                go_wp2_with (fail)
                go_meet
                exact HFN.out
              case rest =>
               clear c0 y1 c0' y1' sl1
               obtain ⟨P',hk,hcc⟩:=hcut
               have HAPP:Hid (appR r (sumB L) l.length=N1):=hid (by rw [HN1.out,HU.out,HML.out])
               have HOUT:Hid (∃ L' v' P',AppTo r L nm l L'∧RkAt wc B G E r.begin L' v' P'∧Ch (RF G v) w wc∧(∀ k,v'.ownBlock=some k→v.ownBlock=some k∨w.heap.size≤k)):=hid ⟨_,_,P',⟨_,A0,f,Q0,HWHY.out,rfl,HNO.out,by rw [HAPP.out]⟩,hk,hcc,HV2.out⟩
               clear hk hcc hvv
               cases gone
               · have HF:Hid (¬ r.armed=1):=hid (HGF.out rfl)
                 by_cases hnm:N1<m
                 · have d1:decide (((N1:Nat):Int)<(m:Int))=true:=by rw [decide_eq_true_iff];omega
                   have d2:decide (N1<m)=true:=decide_eq_true hnm
                   have HE4:Hid ((if r.armed=1 then ret3 0 0 true else ret3 ((appR r (sumB L) l.length:Nat):Int) (if appR r (sumB L) l.length<l.length then 4 else 0) false)=ret3 ((N1:Nat):Int) 4 false):=hid (by rw [if_neg HF.out,HAPP.out,HML.out,if_pos hnm])
                   clear hnm
                   go_wp2_with (fail)
                   refine bodyPost_ret (v:=.tuple #[.int .i64 ((N1:Nat):Int),.int .i64 4,.bool false]) (results_tmp3 Tryz.results89 _ _ _) rfl ?_
                   obtain ⟨L',v',P',q1,q2,q3,q4⟩:=HOUT.out
                   exact ⟨L',v',P',q1,HE4.out.symm,q2,q3,q4⟩
                 · have d1:decide (((N1:Nat):Int)<(m:Int))=false:=by rw [decide_eq_false_iff_not];omega
                   have d2:decide (N1<m)=false:=decide_eq_false hnm
                   have HE4:Hid ((if r.armed=1 then ret3 0 0 true else ret3 ((appR r (sumB L) l.length:Nat):Int) (if appR r (sumB L) l.length<l.length then 4 else 0) false)=ret3 ((N1:Nat):Int) 0 false):=hid (by rw [if_neg HF.out,HAPP.out,HML.out,if_neg hnm])
                   clear hnm
                   go_wp2_with (fail)
                   refine bodyPost_ret (v:=.tuple #[.int .i64 ((N1:Nat):Int),.int .i64 0,.bool false]) (results_tmp3 Tryz.results89 _ _ _) rfl ?_
                   obtain ⟨L',v',P',q1,q2,q3,q4⟩:=HOUT.out
                   exact ⟨L',v',P',q1,HE4.out.symm,q2,q3,q4⟩
               · have HE4:Hid ((if r.armed=1 then ret3 0 0 true else ret3 ((appR r (sumB L) l.length:Nat):Int) (if appR r (sumB L) l.length<l.length then 4 else 0) false)=ret3 0 0 true):=hid (if_pos (HGT.out rfl))
                 go_wp2_with (fail)
                 refine bodyPost_ret (v:=.tuple #[.int .i64 0,.int .i64 0,.bool true]) (results_tmp3 Tryz.results89 _ _ _) rfl ?_
                 obtain ⟨L',v',P',q1,q2,q3,q4⟩:=HOUT.out
                 exact ⟨L',v',P',q1,HE4.out.symm,q2,q3,q4⟩
end
end Go.Proofs.YtodjilljcjkacaaGreatDoor
