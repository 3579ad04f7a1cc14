/- Laid together: Rk3, Rk4, Rk5, Rk8. -/
import Derived.Test.YtodjilljcjkacaaGreatDoorPkIB7
import Derived.Deep.CutRange
import Derived.Deep.DeepCutAuto
import Derived.Sort.Walk0

namespace Go.Proofs.YtodjilljcjkacaaGreatDoor
open Lib (hid)
section
open Go.RowKit Go.MapKept
theorem rfsC_mid {A0 Q0:Fs} {e:ByteArray × Fl} {P1 P2:List Value} {d:Value} (h:P1.length=A0.length):rfsC (A0++e :: Q0) (P1++d :: P2)=rfsC A0 P1++(rfC e d++rfsC Q0 P2):=by
  rw [rfsC_app _ _ h]
  rfl
theorem p_split {A0 Q0:Fs} {e:ByteArray × Fl} {P:List Value} (h:P.length=(A0++e :: Q0).length):∃ P1 d P2,P=P1++d :: P2∧P1.length=A0.length:=by
  have hl:A0.length<P.length:=by rw [h];simp
  exact ⟨P.take A0.length,P[A0.length],P.drop (A0.length+1),by rw [List.getElem_cons_drop,List.take_append_drop],by rw [List.length_take];omega⟩
section
variable {w:World} {B G g n c:Nat} {E:Nat→Prop} {r:Rk} {A0 Q0:Fs} {e:ByteArray × Fl} {v:Value} {P1 P2:List Value} {d:Value}
theorem setc_row (h:RkAt w B G E r (A0++e :: Q0) (.slice (some ⟨g,0,none⟩) n c) (P1++d :: P2)) (hp:P1.length=A0.length) (j:Nat) (u:Value) (hj:j<3) :
    (w.setCell ⟨g,A0.length*3+j,none⟩ u).ownsRow B TRF 3 (.slice (some ⟨g,0,none⟩) n c) (A0++e :: Q0).length (rfsC A0 P1++((rfC e d).set j u++rfsC Q0 P2)):=by
  have hn:n=(A0++e :: Q0).length:=by
    obtain ⟨A',c',e',_⟩:=h.form
    injection e'
  have ho:=h.own
  rw [rfsC_mid hp,← hn] at ho
  have h2:=(World.ownsRow.stored ho (A0.length*3+j) u).1
  rw [List.set_append,if_neg (by rw [rfsC_len hp];omega),rfsC_len hp,Nat.add_sub_cancel_left,List.set_append,if_pos (by simp [rfC];omega)] at h2
  rw [← hn]
  exact h2
theorem gne (h:RkAt w B G E r (A0++e :: Q0) (.slice (some ⟨g,0,none⟩) n c) (P1++d :: P2)):g≠G:=h.vne g rfl
theorem RkAt.setD (h:RkAt w B G E r (A0++e :: Q0) (.slice (some ⟨g,0,none⟩) n c) (P1++d :: P2)) (hp:P1.length=A0.length) (dv:Value) (b:List UInt8) (hd:DvX (fun k=>RF G (.slice (some ⟨g,0,none⟩) n c) k∨E k) w dv b) :
    RkAt (w.setCell ⟨g,A0.length*3+1,none⟩ dv) B G E r (A0++(e.1,⟨b,e.2.safe⟩) :: Q0) (.slice (some ⟨g,0,none⟩) n c) (P1++dv :: P2):=by
  have hc:Ch (At1 g) w (w.setCell ⟨g,A0.length*3+1,none⟩ dv):=(Ch.refl _ w).set1 _ _
  have hX:Ch (fun k=>RF G (.slice (some ⟨g,0,none⟩) n c) k∨E k) w (w.setCell ⟨g,A0.length*3+1,none⟩ dv):=hc.wide (fun k hk=>.inl (.inr (by rw [hk];rfl)))
  have hl:=h.len
  refine ⟨h.hG,hc.row h.row (fun hh=>gne h hh.symm),by simpa using hl,?_,fun i x q hx hq=>?_⟩
  · have:=setc_row h hp 1 dv (by omega)
    rw [rfsC_mid hp]
    simpa [rfC] using this
  · by_cases hi:i=A0.length
    · subst hi
      rw [List.getElem?_append_right (Nat.le_refl _),Nat.sub_self] at hx
      rw [List.getElem?_append_right (by omega),hp,Nat.sub_self] at hq
      simp only [List.getElem?_cons_zero,Option.some.injEq] at hx hq
      subst hx hq
      exact hd.ch hX (fun _ _ h=>h)
    · have h1:(A0++e :: Q0)[i]?=some x:=by
        by_cases hlt:i<A0.length
        · rw [List.getElem?_append_left hlt] at hx ⊢;exact hx
        · rw [List.getElem?_append_right (by omega)] at hx ⊢
          rw [show i-A0.length=(i-A0.length-1)+1 from by omega,List.getElem?_cons_succ] at hx ⊢
          exact hx
      have h2:(P1++d :: P2)[i]?=some q:=by
        by_cases hlt:i<A0.length
        · rw [List.getElem?_append_left (by omega)] at hq ⊢;exact hq
        · rw [List.getElem?_append_right (by omega)] at hq ⊢
          rw [show i-P1.length=(i-P1.length-1)+1 from by omega,List.getElem?_cons_succ] at hq ⊢
          exact hq
      exact (h.dat i x q h1 h2).ch hX (fun _ _ h=>h)
theorem RkAt.setS (h:RkAt w B G E r (A0++e :: Q0) (.slice (some ⟨g,0,none⟩) n c) (P1++d :: P2)) (hp:P1.length=A0.length) (s:Nat) :
    RkAt (w.setCell ⟨g,A0.length*3+2,none⟩ (.int .i64 (s:Int))) B G E r (A0++(e.1,⟨e.2.bs,s⟩) :: Q0) (.slice (some ⟨g,0,none⟩) n c) (P1++d :: P2):=by
  have hc:Ch (At1 g) w (w.setCell ⟨g,A0.length*3+2,none⟩ (.int .i64 (s:Int))):=(Ch.refl _ w).set1 _ _
  have hX:Ch (fun k=>RF G (.slice (some ⟨g,0,none⟩) n c) k∨E k) w (w.setCell ⟨g,A0.length*3+2,none⟩ (.int .i64 (s:Int))):=hc.wide (fun k hk=>.inl (.inr (by rw [hk];rfl)))
  have hl:=h.len
  refine ⟨h.hG,hc.row h.row (fun hh=>gne h hh.symm),by simpa using hl,?_,fun i x q hx hq=>?_⟩
  · have:=setc_row h hp 2 (.int .i64 (s:Int)) (by omega)
    rw [rfsC_mid hp]
    simpa [rfC] using this
  · by_cases hi:i=A0.length
    · subst hi
      have h2:=h.dat A0.length e q (by rw [List.getElem?_append_right (Nat.le_refl _),Nat.sub_self];rfl) hq
      rw [List.getElem?_append_right (Nat.le_refl _),Nat.sub_self] at hx
      simp only [List.getElem?_cons_zero,Option.some.injEq] at hx
      subst hx
      exact h2.ch hX (fun _ _ h=>h)
    · have h1:(A0++e :: Q0)[i]?=some x:=by
        by_cases hlt:i<A0.length
        · rw [List.getElem?_append_left hlt] at hx ⊢;exact hx
        · rw [List.getElem?_append_right (by omega)] at hx ⊢
          rw [show i-A0.length=(i-A0.length-1)+1 from by omega,List.getElem?_cons_succ] at hx ⊢
          exact hx
      exact (h.dat i x q h1 hq).ch hX (fun _ _ h=>h)
end
theorem slice_fr (A:Option Addr) (m c N:Nat) (h:N≤c) (W:World):(Instr.sliceAt 40 (.slice A m c) none (some (.int .i64 (N:Int))) none).run Tryz.prog W=.ok (.slice A N c) W:=by
  have he:Tryz.prog.elem 40=5:=by kernel_rfl
  have hu:Tryz.prog.underlying 40=some (.slice (Tryz.prog.elem 40)):=by rw [he];exact Tryz.underlying40
  rw [run_sliceAt_slice (h:=hu),run_slice_h (ht:=hu) (h0:=by omega) (h2:=by omega),he]
  rcases A with _|a
  · simp [go_sem,sliced,Result.andThen]
  · simp [go_sem,sliced,Result.andThen,Addr.add]
theorem Bs.front {w:World} {A:Option Addr} {m c N:Nat} {l:List UInt8} (h:Bs w A m c l) (hN:N≤m):Bs w A N c (l.take N):=by
  refine ⟨by rw [List.length_take,h.len];omega,by have:=h.2.1;omega,h.2.2.1,fun h0=>?_⟩
  obtain ⟨b,o,e,_,hc⟩:=h.at_ (by omega)
  exact ⟨b,o,e,fun i x hx=>hc i x (by
    rw [List.getElem?_take] at hx
    split at hx
    · exact hx
    · cases hx)⟩
def appM (r:Rk) (u m:Nat):Nat:=min m (r.size-(u:Int)).toNat
def appR (r:Rk) (u m:Nat):Nat:=if r.armed=1 then min (appM r u m) r.keep.toNat else appM r u m
def AppTo (r:Rk) (L:Fs) (nm:ByteArray) (l:List UInt8) (L':Fs):Prop :=
  ∃ L1 A f Q,(fget L nm≠none∧L1=L∨fget L nm=none∧PutsTo L (nm,⟨[],0⟩) L1)∧L1=A++(nm,f) :: Q∧(∀ e ∈ A,e.1≠nm)∧L'=A++(nm,⟨f.bs++l.take (appR r (sumB L) l.length),f.safe⟩) :: Q
structure Rk.Ok (r:Rk):Prop where
  size:0≤r.size∧r.size≤1099511627776
  count:0≤r.count∧r.count≤1152921504606846976
  armed:0≤r.armed∧r.armed≤9223372036854775807
  keep:-9223372036854775808≤r.keep∧r.keep≤9223372036854775807
  fail:0≤r.fail∧r.fail≤9223372036854775807
abbrev ret3 (n e:Int) (g:Bool):Ending:=.returned (.tuple #[.int .i64 n,.int .i64 e,.bool g])
set_option maxHeartbeats 16000000 in
set_option maxRecDepth 100000 in
theorem rkAppend_name {w:World} {G:Nat} (nm:ByteArray) (hs:nm.size≤140737488355328) (hn:nameD nm=false) (A:Option Addr) (m c:Nat) :
    Calls Tryz.prog 89 #[pR G,.string nm,.slice A m c] w fun x w'=>x=ret3 0 16 false∧w=w':=by
  have HN:=hid hn
  clear hn
  go_enter Tryz.func89,Tryz.ntmps89
  go_wp2_with (fail)
  refine (refName nm w hs).mono ?_
  rw [HN.out]
  rintro e w1 ⟨rfl,rfl⟩
  go_wp2_with (fail)
  refine bodyPost_ret (v:=.tuple #[.int .i64 0,.int .i64 16,.bool false]) (results_tmp3 Tryz.results89 _ _ _) rfl ?_
  exact ⟨rfl,rfl⟩
theorem puts_sum {L L':Fs} {nm:ByteArray} (h:PutsTo L (nm,⟨[],0⟩) L'):sumB L'=sumB L∧L'.length=L.length+1:=by
  obtain ⟨A,Q,rfl,rfl,_⟩:=h
  exact ⟨by simp [sumB],by simp;omega⟩
theorem puts_split {L L':Fs} {e:ByteArray × Fl} (h:PutsTo L e L') (hn:∀ x ∈ L,x.1≠e.1):∃ A Q,L'=A++e :: Q∧(∀ x ∈ A,x.1≠e.1):=by
  obtain ⟨A,Q,rfl,rfl,_⟩:=h
  exact ⟨A,Q,rfl,fun x hx=>hn x (by simp [hx])⟩
def RetApp (w:World) (B G:Nat) (E:Nat→Prop) (r:Rk) (L:Fs) (v:Value) (nm:ByteArray) (l:List UInt8) (x:Ending) (w':World):Prop :=
  ∃ L' v' P',AppTo r L nm l L'∧x=(if r.armed=1 then ret3 0 0 true else ret3 ((appR r (sumB L) l.length:Nat):Int) (if appR r (sumB L) l.length<l.length then 4 else 0) false)∧RkAt w' B G E r.begin L' v' P'∧Ch (RF G v) w w'∧(∀ k,v'.ownBlock=some k→v.ownBlock=some k∨w.heap.size≤k)
set_option maxHeartbeats 16000000 in
set_option maxRecDepth 100000 in
theorem rkAppend {w:World} {B G:Nat} {E:Nat→Prop} {r:Rk} {L:Fs} {v:Value} {P:List Value} (h:RkAt w B G E r L v P) (ok:r.Ok) (nm:ByteArray) (hs:nm.size≤140737488355328) (hn:nameD nm=true) (A:Option Addr) (m c:Nat) (l:List UInt8) (hl:DvX (RF G v) w (.slice A m c) l) (hm:m≤140737488355328)
    (hL:L.length≤100000) (hsum:sumB L≤1099511627776) (hBw:B≤w.heap.size) (hE:∀ k,E k→k<w.heap.size) :
    Calls Tryz.prog 89 #[pR G,.string nm,.slice A m c] w (RetApp w B G E r L v nm l):=by
  have H:=hid h
  have HOK:=hid ok
  have HL:=hid hL
  have HSU:=hid hsum
  have HBW:=hid hBw
  have HE:=hid hE
  have HM:=hid hm
  have HLD:=hid hl
  have HNM:=hid hn
  have hml:l.length=m:=by obtain ⟨A',m',c',e',hB,_⟩:=hl;injection e' with _ e2;rw [e2];exact hB.len
  have HML:=hid hml
  clear h ok hL hsum hBw hE hm hl hn hml
  go_enter Tryz.func89,Tryz.ntmps89
  go_wp2_with (fail)
  refine (refName nm w hs).mono ?_
  rw [HNM.out]
  rintro e w1 ⟨rfl,rfl⟩
  go_wp2_with (fail)
  refine (rkBegin H.out HOK.out.count HOK.out.armed).mono ?_
  rintro e w1 ⟨rfl,h1,hc1⟩
  have H1:=hid h1
  have HC1:=hid hc1
  clear h1 hc1
  obtain ⟨gone,hgone⟩:∃ g,g=(r.armed == 1):=⟨_,rfl⟩
  have HGONE:=hid hgone
  rw [← hgone]
  clear hgone
  go_wp2_with (fail)
  refine (rkFind H1.out nm (by have:=HL.out;omega)).mono ?_
  rintro e w2 ⟨rfl,rfl⟩
  have HFS:=hid (fs_split L nm)
  obtain ⟨I,hI⟩:∃ I,I=fidx L nm:=⟨_,rfl⟩
  rw [← hI] at HFS ⊢
  clear hI
  go_upto_if 20 with (fail)
  go_cut [] (fun wx=>∃ L1 v1 P1 A0 f Q0,(fget L nm≠none∧L1=L∨fget L nm=none∧PutsTo L (nm,⟨[],0⟩) L1)∧L1=A0++(nm,f) :: Q0∧(∀ e ∈ A0,e.1≠nm)∧sumB L1=sumB L∧L1.length≤L.length+1∧RkAt wx B G E r.begin L1 v1 P1∧Ch (RF G v) w wx∧(∀ k,v1.ownBlock=some k→v.ownBlock=some k∨w.heap.size≤k))
  case first =>
    rcases HFS.out with ⟨hg,hno,hi⟩|⟨A0,f,Q0,hL1,hno,hg,hi⟩
    · have HG:=hid hg
      have HNO:=hid hno
      have d1:decide (I<0)=true:=by rw [hi];rfl
      clear hg hno hi
      rw [d1]
      go_wp2_with (fail)
      refine Calls.mono (show Calls Tryz.prog 126 #[pR G,.agg #[.string nm,.slice none 0 0,.int .i64 0]] w1 _ from rkPut H1.out (nm,⟨[],0⟩) none 0 0 ⟨none,0,0,rfl,Bs.none_ _,fun a ha=>by cases ha⟩ (by have:=HL.out;omega) (Nat.le_trans HBW.out HC1.out.size)) ?_
      rintro e w3 ⟨rfl,L1,v1,P1,hp,h3,hc3,hv3⟩
      have HX:Hid (∃ L1 v1 P1 A0 f Q0,(fget L nm≠none∧L1=L∨fget L nm=none∧PutsTo L (nm,⟨[],0⟩) L1)∧L1=A0++(nm,f) :: Q0∧(∀ e ∈ A0,e.1≠nm)∧sumB L1=sumB L∧L1.length≤L.length+1∧RkAt w3 B G E r.begin L1 v1 P1∧Ch (RF G v) w w3∧(∀ k,v1.ownBlock=some k→v.ownBlock=some k∨w.heap.size≤k)):=hid (by
        obtain ⟨A0,Q0,hl1,hno1⟩:=puts_split hp HNO.out
        refine ⟨L1,v1,P1,A0,⟨[],0⟩,Q0,.inr ⟨HG.out,hp⟩,hl1,hno1,(puts_sum hp).1,by rw [(puts_sum hp).2];omega,h3,(HC1.out.wide (fun k hk=>.inl hk)).trans hc3 (fun _ _ h=>h),fun k hk=>?_⟩
        rcases hv3 k hk with h|h
        · exact .inl h
        · exact .inr (Nat.le_trans HC1.out.size h))
      clear hp h3 hc3 hv3
      go_wp2_with (fail)
      go_meet
      exact HX.out
    · have HX:Hid (∃ L1 v1 P1 A0 f Q0,(fget L nm≠none∧L1=L∨fget L nm=none∧PutsTo L (nm,⟨[],0⟩) L1)∧L1=A0++(nm,f) :: Q0∧(∀ e ∈ A0,e.1≠nm)∧sumB L1=sumB L∧L1.length≤L.length+1∧RkAt w1 B G E r.begin L1 v1 P1∧Ch (RF G v) w w1∧(∀ k,v1.ownBlock=some k→v.ownBlock=some k∨w.heap.size≤k)):=hid ⟨L,v,P,A0,f,Q0,.inl ⟨by rw [hg];simp,rfl⟩,hL1,hno,rfl,by omega,H1.out,HC1.out.wide (fun k hk=>.inl hk),fun k hk=>.inl hk⟩
      have d1:decide (I<0)=false:=by rw [hi,decide_eq_false_iff_not];omega
      clear hg hno hL1 hi
      rw [d1]
      go_wp2_with (fail)
      go_meet
      exact HX.out
  case rest =>
    obtain ⟨L1,v1,P1,A0,f,Q0,hwhy,hL1,hno,hsu,hlen,h2,hc2,hv2⟩:=hcut
    have HWHY:=hid hwhy
    have HL1:=hid hL1
    have HNO:=hid hno
    have HSUM:=hid hsu
    have HLEN:=hid hlen
    have H2:=hid h2
    have HC2:=hid hc2
    have HV2:=hid hv2
    have HUS:Hid (∀ W,Below wc.heap.size wc W→Calls Tryz.prog 127 #[pR G] W fun e w'=>e=.returned (.int .i64 (sumB L:Int))∧W=w'):=hid (fun W hW=>by
      have:=rkUsed (H2.out.below hW) (by have:=HLEN.out;have:=HL.out;omega) (by rw [HSUM.out];exact HSU.out)
      rw [HSUM.out] at this
      exact this)
    have c1:wc.cell? ⟨G,1,none⟩=some (.int .i64 r.size):=h2.cell 1
    obtain ⟨U,hU⟩:∃ U,U=sumB L:=⟨_,rfl⟩
    have HU:=hid hU
    have HUB:Hid (U≤1099511627776):=hid (by rw [hU];exact HSU.out)
    rw [← hU] at HUS
    have hwx:IntKind.i64.wrap (r.size-(U:Int))=r.size-(U:Int):=IntWalk.i64_in _ (by have:=HUB.out;have:=HOK.out.size;omega)
    clear hwhy hL1 hno hsu hlen h2 hc2 hv2 hU
    go_wp2_with (fail)
    go_quiet ((go_at_call 127;exact Calls.quiet_sym (HUS.out _ (drawN_below (Below.refl _ _) _))))
    have HBQ:Hid (Below wc.heap.size wc (wc.drewN nq)):=hid (drawN_below (Below.refl _ _) nq)
    have H3:=hid (H2.out.below HBQ.out)
    have HC3:=hid (HC2.out.trans (Ch.of_below (S:=fun _=>False) HBQ.out) (fun _ _ h=>h.elim))
    clear c1 hwx H2 HC2 HUS HBQ
    generalize wc.drewN nq=w3 at *
    obtain ⟨X,hX⟩:∃ X,X=r.size-(U:Int):=⟨_,rfl⟩
    have HX:=hid hX
    rw [← hX]
    clear hX
    go_upto_if 35 with (fail)
    go_cut [10] (fun x wx=>x=.int .i64 (min X (m:Int))∧wx=w3)
    case first =>
      by_cases hc:(decide ((m:Int)<X))=true
      · have HMIN:Hid (min X (m:Int)=(m:Int)):=hid (by simp at hc;omega)
        rw [hc]
        clear hc
        go_wp2_with (fail)
        go_meet
        exact ⟨by first | (rw [HMIN.out];done) | (rw [HMIN.out];rfl),rfl⟩
      · have hc:(decide ((m:Int)<X))=false:=by simpa using hc
        have HMIN:Hid (min X (m:Int)=X):=hid (by simp at hc;omega)
        rw [hc]
        clear hc
        go_wp2_with (fail)
        go_meet
        exact ⟨by first | (rw [HMIN.out];done) | (rw [HMIN.out];rfl),rfl⟩
    case rest =>
      obtain ⟨rfl,hw⟩:=hcut
      obtain rfl:=hw.symm
      obtain ⟨N0,hN0⟩:∃ N0,N0=appM r U m:=⟨_,rfl⟩
      have HN0:=hid hN0
      obtain ⟨M1,hM1⟩:∃ M1,M1=min X (m:Int):=⟨_,rfl⟩
      have HM1:Hid ((N0:Int)=max 0 M1):=hid (by rw [hN0,hM1,HX.out];unfold appM;omega)
      have HNM:Hid (N0≤m):=hid (by rw [hN0];unfold appM;omega)
      rw [← hM1]
      clear hN0 hM1
      go_upto_if 39 with (fail)
      go_cut [10] (fun x wx=>x=.int .i64 ((N0:Nat))∧wx=w3)
      case first =>
        by_cases hc:(decide (M1<0))=true
        · have HMIN:Hid ((N0:Nat)=0):=hid (by have:=HM1.out;simp at hc;omega)
          rw [hc]
          clear hc
          go_wp2_with (fail)
          go_meet
          exact ⟨by first | (rw [HMIN.out];done) | (rw [HMIN.out];rfl),rfl⟩
        · have hc:(decide (M1<0))=false:=by simpa using hc
          have HMIN:Hid ((N0:Nat)=M1):=hid (by have:=HM1.out;simp at hc;omega)
          rw [hc]
          clear hc
          go_wp2_with (fail)
          go_meet
          exact ⟨by first | (rw [HMIN.out];done) | (rw [HMIN.out];rfl),rfl⟩
      case rest =>
        obtain ⟨rfl,hw⟩:=hcut
        obtain rfl:=hw.symm
        obtain ⟨N1,hN1⟩:∃ N1,N1=appR r U m:=⟨_,rfl⟩
        have HN1:=hid hN1
        have c4:w3.cell? ⟨G,4,none⟩=some (.int .i64 r.keep):=H3.out.cell 4
        have HGT:Hid (gone=true→r.armed=1):=hid (fun h=>by have:=HGONE.out;rw [h] at this;simpa using this.symm)
        have HGF:Hid (gone=false→¬ r.armed=1):=hid (fun h=>by have:=HGONE.out;rw [h] at this;simpa using this.symm)
        obtain ⟨M3,hM3⟩:∃ M3:Int,M3=if gone then min (N0:Int) r.keep else (N0:Int):=⟨_,rfl⟩
        have HM3:Hid ((N1:Int)=max 0 M3):=hid (by
          rw [hN1,hM3]
          unfold appR
          rw [← HN0.out]
          cases hg:gone
          · rw [if_neg (HGF.out hg)];simp
          · rw [if_pos (HGT.out hg)];simp;omega)
        have HN1B:Hid (N1≤1099511627776):=hid (by
          have h1:=HOK.out.size
          have h2:N1≤appM r U m:=by rw [hN1];unfold appR;split <;> omega
          unfold appM at h2
          omega)
        have HNM1:Hid (N1≤m):=hid (by rw [hN1];unfold appR;rw [← HN0.out];have:=HNM.out;split <;> omega)
        have HM3':=hid hM3
        clear hN1 hM3
        go_upto_region 11 with (fail)
        go_cut [48] (fun x wx=>x=.bool (gone && decide (r.keep<(N0:Int)))∧wx=w3)
        case first =>
          cases gone
          · go_wp2_with (fail)
            go_meet
            exact ⟨rfl,rfl⟩
          · go_wp2_with (fail)
            go_meet
            exact ⟨by simp,rfl⟩
        case rest =>
          obtain ⟨rfl,hw⟩:=hcut
          obtain rfl:=hw.symm
          go_upto_if 48 with (fail)
          go_cut [10] (fun x wx=>x=.int .i64 (M3)∧wx=w3)
          case first =>
            by_cases hc:(gone && decide (r.keep<(N0:Int)))=true
            · have HMIN:Hid (M3=r.keep):=hid (by rw [HM3'.out];simp at hc;obtain ⟨h1,h2⟩:=hc;rw [h1];simp;omega)
              rw [hc]
              clear hc
              go_wp2_with (fail)
              go_meet
              exact ⟨by first | (rw [HMIN.out];done) | (rw [HMIN.out];rfl),rfl⟩
            · have hc:(gone && decide (r.keep<(N0:Int)))=false:=by simpa using hc
              have HMIN:Hid (M3=(N0:Int)):=hid (by rw [HM3'.out];cases gone <;> simp at hc ⊢;omega)
              rw [hc]
              clear hc
              go_wp2_with (fail)
              go_meet
              exact ⟨by first | (rw [HMIN.out];done) | (rw [HMIN.out];rfl),rfl⟩
          case rest =>
            obtain ⟨rfl,hw⟩:=hcut
            obtain rfl:=hw.symm
            go_upto_if 54 with (fail)
            go_cut [10] (fun x wx=>x=.int .i64 ((N1:Nat))∧wx=w3)
            case first =>
              by_cases hc:(decide (M3<0))=true
              · have HMIN:Hid ((N1:Nat)=0):=hid (by have:=HM3.out;simp at hc;omega)
                rw [hc]
                clear hc
                go_wp2_with (fail)
                go_meet
                exact ⟨by first | (rw [HMIN.out];done) | (rw [HMIN.out];rfl),rfl⟩
              · have hc:(decide (M3<0))=false:=by simpa using hc
                have HMIN:Hid ((N1:Nat)=M3):=hid (by have:=HM3.out;simp at hc;omega)
                rw [hc]
                clear hc
                go_wp2_with (fail)
                go_meet
                exact ⟨by first | (rw [HMIN.out];done) | (rw [HMIN.out];rfl),rfl⟩
            case rest =>
              obtain ⟨rfl,hw⟩:=hcut
              obtain rfl:=hw.symm
              clear c4
              go_wp2_with (fail)
              refine (rkFind H3.out nm (by have:=HLEN.out;have:=HL.out;omega)).mono ?_
              have hfx:fidx L1 nm=(A0.length:Int):=by rw [HL1.out];exact fidx_at HNO.out
              rw [hfx]
              clear hfx
              rintro e w4 ⟨rfl,hw4⟩
              obtain rfl:=hw4
              obtain ⟨i,hi⟩:∃ i,i=A0.length:=⟨_,rfl⟩
              have HI:=hid hi
              rw [← hi]
              clear hi
              obtain rfl:=HL1.out
              obtain ⟨Av,cv,rfl,hcv1,hcv2⟩:=H3.out.form
              obtain ⟨g,rfl,_,hxx⟩:=H3.out.at_ (by simp only [List.length_append,List.length_cons];omega)
              obtain ⟨Pa,d,Pb,rfl,hpa⟩:=p_split H3.out.len
              have HPA:=hid hpa
              obtain ⟨n1,hn1⟩:∃ n1,n1=(A0++(nm,f) :: Q0).length:=⟨_,rfl⟩
              have HN1':=hid hn1
              have hei:(A0++(nm,f) :: Q0)[i]?=some (nm,f):=by rw [HI.out,List.getElem?_append_right (Nat.le_refl _),Nat.sub_self];rfl
              have hdi:(Pa++d :: Pb)[i]?=some d:=by rw [HI.out,← hpa,List.getElem?_append_right (Nat.le_refl _),Nat.sub_self];rfl
              obtain ⟨d',hd',_,x1,_⟩:=hxx i _ hei
              rw [hdi] at hd'
              injection hd' with hd'
              subst hd'
              obtain ⟨A7,m7,c7,rfl,hB7,_⟩:=H3.out.dat i _ _ hei hdi
              have HB7:=hid hB7
              have HCX:Hid (∀ W,Below w3.heap.size w3 W→W.cell? ⟨G,0,none⟩=some (.slice (some ⟨g,0,none⟩) n1 cv)∧W.cell? ⟨g,i*3+1,none⟩=some (.slice A7 m7 c7)∧W.frozen? ⟨g,i*3+1,none⟩=false):=hid (fun W hW=>by
                have hK:=H3.out.below hW
                refine ⟨by have:=hK.cell 0;rw [← HN1'.out] at this;exact this,(hW.cell (p:=⟨g,i*3+1,none⟩) (World.block_lt_of_cell? w3 _ x1)).trans x1,hK.own.frozenAt _⟩)
              have hin:(i:Int)<(n1:Int):=by rw [hn1];simp only [List.length_append,List.length_cons];have:=HI.out;omega
              rw [← hn1] at hcv1
              have hnc:(n1:Int)≤(cv:Int):=by omega
              have HLB:Hid (Bs w3 A m c l∧∀ a,A=some a→m=0∨¬ RF G v a.block):=hid (by
                obtain ⟨A',m',c',e',hB,hx⟩:=HLD.out
                injection e' with e1 e2 e3
                subst e1 e2 e3
                have:=DvX.ch ⟨A,m,c,rfl,hB,hx⟩ HC3.out (fun _ _ h=>h)
                obtain ⟨A',m',c',e',hB',_⟩:=this
                injection e' with e1 e2 e3
                subst e1 e2 e3
                exact ⟨hB',hx⟩)
              have hmc:m≤c:=HLB.out.1.2.1
              have sl1:∀ W,(Instr.sliceAt 40 (.slice A m c) none (some (.int .i64 ((N1:Nat):Int))) none).run Tryz.prog W=.ok (.slice A N1 c) W:=fun W=>slice_fr A m c N1 (by have:=HNM1.out;omega) W
              have HB4:Hid (Below w3.heap.size w3 (w3.alloc (.cells #[] 5)).drew):=hid ((Below.refl _ _).alloc (Nat.le_refl _) _).drew
              have HB4':Hid (Below w3.heap.size w3 (w3.alloc (.cells #[] 5))):=hid ((Below.refl _ _).alloc (Nat.le_refl _) _)
              obtain ⟨c0,y1,_⟩:=HCX.out w3 (Below.refl _ _)
              obtain ⟨c0',y1',_⟩:=HCX.out _ HB4'.out
              have HLIT:Hid (Own 5 (w3.alloc (.cells #[] 5)).drew w3.heap.size (.slice (some ⟨w3.heap.size,0,none⟩) 0 0) []):=hid ((Own.lit 5 w3 [] (Nat.le_refl _) (by simp [maxLen])).below ((Below.refl _ _).drew))
              have HML7:Hid (m7≤1099511627776):=hid (by
                have h1:=hB7.len
                have h2:=HSU.out
                rw [← HSUM.out] at h2
                have h3:f.bs.length≤sumB (A0++(nm,f) :: Q0):=by simp [sumB];omega
                have h4:f.bs.length=m7:=h1
                omega)
              have tok1:Hid True:=hid trivial
              have tok2:Hid True:=hid trivial
              clear hxx hei hdi hB7 hpa x1 hn1
              go_upto_region 16 with (fail)
              obtain ⟨vv,hvv⟩:∃ vv:Value,vv=.slice (some ⟨g,0,none⟩) n1 cv:=⟨_,rfl⟩
              go_cut [] (fun wx=>∃ P',RkAt wx B G E r.begin (A0++(nm,⟨f.bs++l.take N1,f.safe⟩) :: Q0) (.slice (some ⟨g,0,none⟩) n1 cv) P'∧Ch (RF G v) w wx)
              case first =>
               go_region_law (first
                 | (have _t:=tok1;refine step_app rfl (.tmp 63) (.tmp 71) rfl w3.heap.size _ [] rfl HLIT.out A7 m7 c7 f.bs rfl (HB7.out.below HB4.out) (by have:=HML7.out;simp;omega) (by simp) ?_;intro v5 w5 ho5 hb5 hg5;have HO5:=hid ho5;have HB5:Hid (Below w3.heap.size w3 w5):=hid (HB4.out.trans hb5);obtain ⟨s0,s1,_⟩:=HCX.out w5 HB5.out;clear tok1 _t ho5 hb5 hg5)
                 | (have _t:=tok2;refine step_app rfl (.tmp 72) (.tmp 75) rfl w3.heap.size v5 ([]++f.bs) rfl HO5.out A N1 c (l.take N1) rfl ((HLB.out.1.below HB5.out).front HNM1.out) (by have:=HML7.out;have:=HB7.out.len;have:=HN1B.out;have:=HNM1.out;simp;omega) HB5.out.size ?_;intro v6 w6 ho6 hb6 hg6;obtain ⟨A6,c6,rfl⟩:=own_form ho6;have HO6:=hid ho6;have HB6:Hid (Below w3.heap.size w3 w6):=hid (HB5.out.trans hb6);obtain ⟨t0,t1,u1⟩:=HCX.out w6 HB6.out;clear tok2 _t ho6 hb6 hg6))
               all_goals
                have HPL:=hid hvv
                have HN6:Hid (f.bs.length+min N1 l.length=(f.bs++l.take N1).length):=hid (by simp)
                have HRK:Hid (RkAt w6 B G E r.begin (A0++(nm,f) :: Q0) (.slice (some ⟨g,0,none⟩) n1 cv) (Pa++.slice A7 m7 c7 :: Pb)):=hid (by have:=H3.out.below HB6.out;rw [← HN1'.out] at this;exact this)
                have HDN:Hid (DvX (fun k=>RF G (.slice (some ⟨g,0,none⟩) n1 cv) k∨E k) w6 (.slice A6 (f.bs.length+min N1 l.length) c6) (f.bs++l.take N1)):=hid (by
                  obtain ⟨A9,c9,e9,hB9,hx9⟩:=HO6.out.bs
                  simp only [List.nil_append,List.length_append,List.length_take] at e9
                  injection e9 with e1 e2 e3
                  subst e1 e3
                  refine ⟨A6,_,c6,rfl,by simpa using hB9,fun a ha=>.inr ?_⟩
                  have h1:=hx9 a ha
                  rintro (h|h)
                  · have h2:=(H3.out.foot_lt (k:=a.block) (by rw [← HN1'.out];exact h)).2;omega
                  · have h2:=HE.out _ h;have h3:=HC3.out.size;omega)
                have HFN:Hid (∃ P',RkAt (w6.setCell ⟨g,i*3+1,none⟩ (.slice A6 (f.bs.length+min N1 l.length) c6)) B G E r.begin (A0++(nm,⟨f.bs++l.take N1,f.safe⟩) :: Q0) (.slice (some ⟨g,0,none⟩) n1 cv) P'∧Ch (RF G v) w (w6.setCell ⟨g,i*3+1,none⟩ (.slice A6 (f.bs.length+min N1 l.length) c6))):=hid (by
                  have h1:=HRK.out.setD HPA.out (.slice A6 (f.bs.length+min N1 l.length) c6) (f.bs++l.take N1) HDN.out
                  rw [← HI.out] at h1
                  refine ⟨_,h1,?_⟩
                  have h2:Ch (fun k=>RF G v k∨w.heap.size≤k) w w6:=(HC3.out.wide (fun k hk=>.inl hk)).trans (Ch.of_below (S:=fun _=>False) HB6.out) (fun _ _ h=>h.elim)
                  exact (h2.set (a:=⟨g,i*3+1,none⟩) ((HV2.out g (by rfl)).imp .inr id) _).trim)
                clear c0 y1 c0' y1' s0 s1 t0 t1 u1 sl1
                go_wp2_with (fail)
                go_meet
                exact HFN.out
              case rest =>
               clear c0 y1 c0' y1' sl1
               obtain ⟨P',hk,hcc⟩:=hcut
               have HAPP:Hid (appR r (sumB L) l.length=N1):=hid (by rw [HN1.out,HU.out,HML.out])
               have HOUT:Hid (∃ L' v' P',AppTo r L nm l L'∧RkAt wc B G E r.begin L' v' P'∧Ch (RF G v) w wc∧(∀ k,v'.ownBlock=some k→v.ownBlock=some k∨w.heap.size≤k)):=hid ⟨_,_,P',⟨_,A0,f,Q0,HWHY.out,rfl,HNO.out,by rw [HAPP.out]⟩,hk,hcc,HV2.out⟩
               clear hk hcc hvv
               cases gone
               · have HF:Hid (¬ r.armed=1):=hid (HGF.out rfl)
                 by_cases hnm:N1<m
                 · have d1:decide (((N1:Nat):Int)<(m:Int))=true:=by rw [decide_eq_true_iff];omega
                   have d2:decide (N1<m)=true:=decide_eq_true hnm
                   have HE4:Hid ((if r.armed=1 then ret3 0 0 true else ret3 ((appR r (sumB L) l.length:Nat):Int) (if appR r (sumB L) l.length<l.length then 4 else 0) false)=ret3 ((N1:Nat):Int) 4 false):=hid (by rw [if_neg HF.out,HAPP.out,HML.out,if_pos hnm])
                   clear hnm
                   go_wp2_with (fail)
                   refine bodyPost_ret (v:=.tuple #[.int .i64 ((N1:Nat):Int),.int .i64 4,.bool false]) (results_tmp3 Tryz.results89 _ _ _) rfl ?_
                   obtain ⟨L',v',P',q1,q2,q3,q4⟩:=HOUT.out
                   exact ⟨L',v',P',q1,HE4.out.symm,q2,q3,q4⟩
                 · have d1:decide (((N1:Nat):Int)<(m:Int))=false:=by rw [decide_eq_false_iff_not];omega
                   have d2:decide (N1<m)=false:=decide_eq_false hnm
                   have HE4:Hid ((if r.armed=1 then ret3 0 0 true else ret3 ((appR r (sumB L) l.length:Nat):Int) (if appR r (sumB L) l.length<l.length then 4 else 0) false)=ret3 ((N1:Nat):Int) 0 false):=hid (by rw [if_neg HF.out,HAPP.out,HML.out,if_neg hnm])
                   clear hnm
                   go_wp2_with (fail)
                   refine bodyPost_ret (v:=.tuple #[.int .i64 ((N1:Nat):Int),.int .i64 0,.bool false]) (results_tmp3 Tryz.results89 _ _ _) rfl ?_
                   obtain ⟨L',v',P',q1,q2,q3,q4⟩:=HOUT.out
                   exact ⟨L',v',P',q1,HE4.out.symm,q2,q3,q4⟩
               · have HE4:Hid ((if r.armed=1 then ret3 0 0 true else ret3 ((appR r (sumB L) l.length:Nat):Int) (if appR r (sumB L) l.length<l.length then 4 else 0) false)=ret3 0 0 true):=hid (if_pos (HGT.out rfl))
                 go_wp2_with (fail)
                 refine bodyPost_ret (v:=.tuple #[.int .i64 0,.int .i64 0,.bool true]) (results_tmp3 Tryz.results89 _ _ _) rfl ?_
                 obtain ⟨L',v',P',q1,q2,q3,q4⟩:=HOUT.out
                 exact ⟨L',v',P',q1,HE4.out.symm,q2,q3,q4⟩
end
section
open Go.RowKit Go.MapKept
section
variable {w:World} {B G:Nat} {E:Nat→Prop} {r:Rk} {A0 Q0:Fs} {nm:ByteArray} {f:Fl} {v:Value} {P:List Value}
theorem RkAt.mid (h:RkAt w B G E r (A0++(nm,f) :: Q0) v P):∃ g n1 cv Pa A7 m7 c7 Pb,v=.slice (some ⟨g,0,none⟩) n1 cv∧n1=(A0++(nm,f) :: Q0).length∧n1≤cv∧cv≤9223372036854775807∧P=Pa++.slice A7 m7 c7 :: Pb∧Pa.length=A0.length∧Bs w A7 m7 c7 f.bs∧DvX (fun k=>RF G v k∨E k) w (.slice A7 m7 c7) f.bs∧w.cell? ⟨G,0,none⟩=some v∧w.cell? ⟨g,A0.length*3+1,none⟩=some (.slice A7 m7 c7)∧w.cell? ⟨g,A0.length*3+2,none⟩=some (.int .i64 (f.safe:Int))∧(∀ j,w.frozen? ⟨g,j,none⟩=false):=by
  obtain ⟨Av,cv,rfl,hcv1,hcv2⟩:=h.form
  obtain ⟨g,rfl,_,hxx⟩:=h.at_ (by simp only [List.length_append,List.length_cons];omega)
  obtain ⟨Pa,d,Pb,rfl,hpa⟩:=p_split h.len
  have hei:(A0++(nm,f) :: Q0)[A0.length]?=some (nm,f):=by rw [List.getElem?_append_right (Nat.le_refl _),Nat.sub_self];rfl
  have hdi:(Pa++d :: Pb)[A0.length]?=some d:=by rw [← hpa,List.getElem?_append_right (Nat.le_refl _),Nat.sub_self];rfl
  obtain ⟨d',hd',_,x1,x2⟩:=hxx _ _ hei
  rw [hdi] at hd'
  injection hd' with hd'
  subst hd'
  obtain ⟨A7,m7,c7,rfl,hB7,hx7⟩:=h.dat _ _ _ hei hdi
  exact ⟨g,_,cv,Pa,A7,m7,c7,Pb,rfl,rfl,hcv1,hcv2,rfl,hpa,hB7,⟨A7,m7,c7,rfl,hB7,hx7⟩,h.cell 0,x1,x2,fun j=>h.own.frozenAt j⟩
end
abbrev ret2 (e:Int) (g:Bool):Ending:=.returned (.tuple #[.int .i64 e,.bool g])
theorem results_two {fn:Func} {t u:Tmp} (h:fn.results=#[.tmp t,.tmp u]) (tmps:Array Value) (P:Program) (w:World) :
    (results fn tmps).run P w=.ok (.tuple #[tmps.getD t undef,tmps.getD u undef]) w:=by
  simp [results,h]
def rOdd (r:Rk):Bool:=r.keep.tmod 2 != 0
def rDo (r:Rk):Bool:=!(r.armed == 1) || rOdd r
def cutL (r:Rk) (A0:Fs) (nm:ByteArray) (f:Fl) (Q0:Fs) (n:Nat):Fs:=if rDo r=true then A0++(nm,⟨f.bs.take n,min f.safe n⟩) :: Q0 else A0++(nm,f) :: Q0
def Ret2 (w:World) (B G:Nat) (E:Nat→Prop) (r':Rk) (L':Fs) (v:Value) (e:Int) (g:Bool) (x:Ending) (w':World):Prop :=
  ∃ v' P',x=ret2 e g∧RkAt w' B G E r' L' v' P'∧Ch (RF G v) w w'∧(∀ k,v'.ownBlock=some k→v.ownBlock=some k∨w.heap.size≤k)
theorem Ret2.same {w w':World} {B G:Nat} {E:Nat→Prop} {r':Rk} {L':Fs} {v:Value} {P:List Value} (e:Int) (g:Bool) (h:RkAt w' B G E r' L' v P) (c:Ch (RF G v) w w'):Ret2 w B G E r' L' v e g (ret2 e g) w':=⟨v,P,rfl,h,c,fun _ hk=>.inl hk⟩
section
variable {w:World} {B G:Nat} {E:Nat→Prop} {r:Rk} {L:Fs} {v:Value} {P:List Value}
set_option maxHeartbeats 8000000 in
set_option maxRecDepth 100000 in
theorem rkTrunc_none (h:RkAt w B G E r L v P) (nm:ByteArray) (hL:L.length≤100000) (n:Int) (hg:fget L nm=none) :
    Calls Tryz.prog 46 #[pR G,.string nm,.int .i64 n] w (Ret2 w B G E r L v 6 false):=by
  have H:=hid h
  have HL:=hid hL
  have HI:Hid (fidx L nm=-1):=hid (by rcases fs_split L nm with ⟨_,_,hi⟩ | ⟨_,_,_,_,_,hg',_⟩;exact hi;rw [hg] at hg';cases hg')
  clear h hL hg
  go_enter Tryz.func46,Tryz.ntmps46
  go_wp2_with (fail)
  refine (rkFind H.out nm (by have:=HL.out;omega)).mono ?_
  rw [HI.out]
  rintro e w1 ⟨rfl,rfl⟩
  go_wp2_with (fail)
  refine bodyPost_ret (v:=.tuple #[.int .i64 6,.bool false]) (results_two Tryz.results46 _ _ _) rfl ?_
  exact Ret2.same 6 false H.out (Ch.refl _ _)
set_option maxHeartbeats 8000000 in
set_option maxRecDepth 100000 in
theorem rkTrunc_bad {A0 Q0:Fs} {nm:ByteArray} {f:Fl} (h:RkAt w B G E r (A0++(nm,f) :: Q0) v P) (hno:∀ e ∈ A0,e.1≠nm) (hL:(A0++(nm,f) :: Q0).length≤100000) (n:Int) (hn:n<0∨(f.bs.length:Int)<n) :
    Calls Tryz.prog 46 #[pR G,.string nm,.int .i64 n] w (Ret2 w B G E r (A0++(nm,f) :: Q0) v 3 false):=by
  have H:=hid h
  have HL:=hid hL
  have HI:Hid (fidx (A0++(nm,f) :: Q0) nm=(A0.length:Int)):=hid (fidx_at hno)
  obtain ⟨g,n1,cv,Pa,A7,m7,c7,Pb,rfl,hn1,hnc,hcm,rfl,hpa,hB7,hdv,c0,x1,x2,fz⟩:=h.mid
  have hin:(A0.length:Int)<(n1:Int):=by rw [hn1];simp only [List.length_append,List.length_cons];omega
  have hnc':(n1:Int)≤(cv:Int):=by omega
  have hm7:f.bs.length=m7:=hB7.len
  rw [hm7] at hn
  obtain ⟨i,hi⟩:∃ i,i=A0.length:=⟨_,rfl⟩
  rw [← hi] at HI x1 x2 hin
  have hge:¬ ((i:Int)<0):=by omega
  have HNN:=hid hn
  clear h hL hn hdv hB7 hpa hn1 fz hm7 hno x2 hi
  go_enter Tryz.func46,Tryz.ntmps46
  go_wp2_with (fail)
  refine (rkFind H.out nm (by have:=HL.out;omega)).mono ?_
  rw [HI.out]
  rintro e w1 ⟨rfl,rfl⟩
  by_cases h0:n<0
  · have d0:decide (n<0)=true:=decide_eq_true h0
    clear h0
    go_wp2_with (fail)
    refine bodyPost_ret (v:=.tuple #[.int .i64 3,.bool false]) (results_two Tryz.results46 _ _ _) rfl ?_
    exact Ret2.same 3 false H.out (Ch.refl _ _)
  · have d0:decide (n<0)=false:=decide_eq_false h0
    have d1:decide ((m7:Int)<n)=true:=decide_eq_true (HNN.out.resolve_left h0)
    clear h0
    go_wp2_with (fail)
    refine bodyPost_ret (v:=.tuple #[.int .i64 3,.bool false]) (results_two Tryz.results46 _ _ _) rfl ?_
    exact Ret2.same 3 false H.out (Ch.refl _ _)
set_option maxHeartbeats 16000000 in
set_option maxRecDepth 100000 in
theorem rkTrunc_do {A0 Q0:Fs} {nm:ByteArray} {f:Fl} (h:RkAt w B G E r (A0++(nm,f) :: Q0) v P) (ok:r.Ok) (hno:∀ e ∈ A0,e.1≠nm) (hL:(A0++(nm,f) :: Q0).length≤100000) (hE:∀ k,E k→k<w.heap.size) (n:Nat) (hn:n≤f.bs.length) :
    Calls Tryz.prog 46 #[pR G,.string nm,.int .i64 (n:Int)] w (Ret2 w B G E r.begin (cutL r A0 nm f Q0 n) v 0 (r.armed == 1)):=by
  have H:=hid h
  have HL:=hid hL
  have HOK:=hid ok
  have HE:=hid hE
  have HI:Hid (fidx (A0++(nm,f) :: Q0) nm=(A0.length:Int)):=hid (fidx_at hno)
  obtain ⟨g,n1,cv,Pa,A7,m7,c7,Pb,rfl,hn1,hnc,hcm,rfl,hpa,hB7,hdv,c0,x1,x2,fz⟩:=h.mid
  have HN1:=hid hn1
  have HPA:=hid hpa
  have HB7:=hid hB7
  have HDV:=hid hdv
  have hin:(A0.length:Int)<(n1:Int):=by rw [hn1];simp only [List.length_append,List.length_cons];omega
  have hnc':(n1:Int)≤(cv:Int):=by omega
  have hm7:f.bs.length=m7:=hB7.len
  have hc7:m7≤c7:=hB7.2.1
  rw [hm7] at hn
  have HM7:=hid hm7
  have HNM:=hid hn
  obtain ⟨i,hi⟩:∃ i,i=A0.length:=⟨_,rfl⟩
  have HII:=hid hi
  rw [← hi] at HI x1 x2 hin
  have hge:¬ ((i:Int)<0):=by omega
  have d0:decide ((n:Int)<0)=false:=by rw [decide_eq_false_iff_not];omega
  have d1:decide ((m7:Int)<(n:Int))=false:=by rw [decide_eq_false_iff_not];omega
  have d1':decide (m7<n)=false:=by rw [decide_eq_false_iff_not];omega
  have d2:¬ (m7<n):=by omega
  have HC7:=hid hc7
  clear h hL hdv hB7 hpa hn1 fz hm7 hno hi hE ok
  go_enter Tryz.func46,Tryz.ntmps46
  go_wp2_with (fail)
  refine (rkFind H.out nm (by have:=HL.out;omega)).mono ?_
  rw [HI.out]
  rintro e w1 ⟨rfl,rfl⟩
  go_wp2_with (fail)
  refine (rkBegin H.out HOK.out.count HOK.out.armed).mono ?_
  rintro e w1 ⟨rfl,h1,hc1⟩
  have H1:=hid h1
  have HC1:=hid hc1
  clear h1 hc1 c0 x1 x2 d0 d1 d1' d2 hge hn hc7
  obtain ⟨gone,hgone⟩:∃ g,g=(r.armed == 1):=⟨_,rfl⟩
  have HGONE:=hid hgone
  have HRD:Hid (rDo r=(!gone || rOdd r)):=hid (by unfold rDo;rw [hgone])
  rw [← hgone]
  clear hgone
  have c4:w1.cell? ⟨G,4,none⟩=some (.int .i64 r.keep):=H1.out.cell 4
  go_upto_region 7 with (fail)
  go_cut [41] (fun x wx=>x=.bool (!gone || rOdd r)∧wx=w1)
  case first =>
    cases gone
    · go_wp2_with (fail)
      go_meet
      exact ⟨rfl,rfl⟩
    · go_wp2_with (fail)
      go_meet
      exact ⟨by first | rfl | (unfold rOdd;rfl) | (unfold rOdd;simp),rfl⟩
  case rest =>
    obtain ⟨rfl,hw⟩:=hcut
    obtain rfl:=hw.symm
    rw [← HRD.out]
    clear c4
    obtain ⟨dd,hdd⟩:∃ dd,dd=rDo r:=⟨_,rfl⟩
    rw [← hdd] at HRD ⊢
    have HDD:=hid hdd
    clear hdd
    cases dd
    · have HCL:Hid (cutL r A0 nm f Q0 n=A0++(nm,f) :: Q0):=hid (by unfold cutL;rw [← HDD.out];rfl)
      go_wp2_with (fail)
      refine bodyPost_ret (v:=.tuple #[.int .i64 0,.bool gone]) (results_two Tryz.results46 _ _ _) rfl ?_
      rw [HCL.out,← HGONE.out]
      exact Ret2.same 0 gone H1.out (HC1.out.wide (fun k hk=>.inl hk))
    · have HCL:Hid (cutL r A0 nm f Q0 n=A0++(nm,⟨f.bs.take n,min f.safe n⟩) :: Q0):=hid (by unfold cutL;rw [← HDD.out];rfl)
      have HCX:Hid (w1.cell? ⟨G,0,none⟩=some (.slice (some ⟨g,0,none⟩) n1 cv)∧w1.cell? ⟨g,i*3+1,none⟩=some (.slice A7 m7 c7)∧w1.cell? ⟨g,i*3+2,none⟩=some (.int .i64 (f.safe:Int))∧(∀ j,w1.frozen? ⟨g,j,none⟩=false)):=hid (by
        have ho:=H1.out.own
        refine ⟨H1.out.cell 0,?_,?_,fun j=>by rw [← HN1.out] at ho;exact ho.frozenAt j⟩
        · rw [rfsC_mid HPA.out] at ho
          rw [HN1.out] at ho
          rw [ho.cellAt (i*3+1) (by simp only [List.length_append,List.length_cons];have:=HII.out;omega),List.getElem?_append_right (by rw [rfsC_len HPA.out];have:=HII.out;omega),rfsC_len HPA.out,HII.out,Nat.add_sub_cancel_left]
          rfl
        · rw [rfsC_mid HPA.out] at ho
          rw [HN1.out] at ho
          rw [ho.cellAt (i*3+2) (by simp only [List.length_append,List.length_cons];have:=HII.out;omega),List.getElem?_append_right (by rw [rfsC_len HPA.out];have:=HII.out;omega),rfsC_len HPA.out,HII.out,Nat.add_sub_cancel_left]
          rfl)
      obtain ⟨c0,x1,x2,fz⟩:=HCX.out
      have f1:=fz (i*3+1)
      have sl1:∀ W,(Instr.sliceAt 40 (.slice A7 m7 c7) none (some (.int .i64 ((n:Nat):Int))) none).run Tryz.prog W=.ok (.slice A7 n c7) W:=fun W=>slice_fr A7 m7 c7 n (by have:=HC7.out;have:=HNM.out;omega) W
      have HK2:Hid (RkAt (w1.setCell ⟨g,i*3+1,none⟩ (.slice A7 n c7)) B G E r.begin (A0++(nm,⟨f.bs.take n,f.safe⟩) :: Q0) (.slice (some ⟨g,0,none⟩) n1 cv) (Pa++.slice A7 n c7 :: Pb)):=hid (by
        obtain ⟨A8,m8,c8,e8,hB8,hx8⟩:=H1.out.dat A0.length (nm,f) (.slice A7 m7 c7) (by rw [List.getElem?_append_right (Nat.le_refl _),Nat.sub_self];rfl) (by rw [List.getElem?_append_right (by have:=HPA.out;omega),HPA.out,Nat.sub_self];rfl)
        cases e8
        have:=H1.out.setD HPA.out (.slice A7 n c7) (f.bs.take n) ⟨A7,n,c7,rfl,hB8.front HNM.out,fun a ha=>(hx8 a ha).imp (fun h0=>by have:=HNM.out;omega) id⟩
        rw [← HII.out] at this
        exact this)
      have HY2:Hid ((w1.setCell ⟨g,i*3+1,none⟩ (.slice A7 n c7)).drew.cell? ⟨g,i*3+2,none⟩=some (.int .i64 (f.safe:Int))∧(w1.setCell ⟨g,i*3+1,none⟩ (.slice A7 n c7)).drew.frozen? ⟨g,i*3+2,none⟩=false):=hid (by
        have ho:=(HK2.out.below (Below.drew (Below.refl _ _))).own
        have hln:(A0++(nm,(⟨f.bs.take n,f.safe⟩:Fl)) :: Q0).length=n1:=by rw [HN1.out];simp
        refine ⟨?_,by rw [hln] at ho;exact ho.frozenAt _⟩
        rw [rfsC_mid HPA.out] at ho
        rw [← hln] at ho
        rw [ho.cellAt (i*3+2) (by simp only [List.length_append,List.length_cons];have:=HII.out;omega),List.getElem?_append_right (by rw [rfsC_len HPA.out];have:=HII.out;omega),rfsC_len HPA.out,HII.out,Nat.add_sub_cancel_left]
        rfl)
      have HC2:Hid (Ch (RF G (.slice (some ⟨g,0,none⟩) n1 cv)) w (w1.setCell ⟨g,i*3+1,none⟩ (.slice A7 n c7)).drew):=hid (((HC1.out.wide (fun k hk=>.inl hk)).trans ((Ch.refl _ _).set1 _ _) (fun k _ hk=>.inr (by rw [hk];rfl))).trans (Ch.of_below (S:=fun _=>False) (Below.drew (Below.refl _ _))) (fun _ _ h=>h.elim))
      have y2:=HY2.out.1
      have yf:=HY2.out.2
      clear x2 fz
      go_wp2_with (fail)
      go_region
      all_goals
        clear c0 x1 f1 sl1
        have c0:=(HK2.out.below (Below.drew (Below.refl _ _))).cell 0
        by_cases hs:(n:Int)<(f.safe:Int)
        · have d3:decide ((n:Int)<(f.safe:Int))=true:=decide_eq_true hs
          have HS:Hid (min f.safe n=n):=hid (by omega)
          have d4:n<f.safe:=by omega
          have d5:decide (n<f.safe)=true:=decide_eq_true d4
          clear hs
          go_wp2_with (fail)
          refine bodyPost_ret (v:=.tuple #[.int .i64 0,.bool gone]) (results_two Tryz.results46 _ _ _) rfl ?_
          rw [HCL.out,HS.out,← HGONE.out]
          have h5:=HK2.out.setS HPA.out n
          rw [← HII.out] at h5
          have hc5:Ch (RF G (.slice (some ⟨g,0,none⟩) n1 cv)) w ((w1.setCell ⟨g,i*3+1,none⟩ (.slice A7 n c7)).setCell ⟨g,i*3+2,none⟩ (.int .i64 (n:Int))):=((HC1.out.wide (fun k hk=>.inl hk)).trans ((Ch.refl _ w1).set1 (i*3+1) (.slice A7 n c7)) (fun k _ hk=>.inr (by rw [hk];rfl))).trans ((Ch.refl _ _).set1 (i*3+2) (.int .i64 (n:Int))) (fun k _ hk=>.inr (by rw [hk];rfl))
          exact Ret2.same 0 gone (h5.below (Below.drew (Below.refl _ _))) (hc5.trans (Ch.of_below (S:=fun _=>False) (Below.drew (Below.refl _ _))) (fun _ _ h=>h.elim))
        · have d3:decide ((n:Int)<(f.safe:Int))=false:=decide_eq_false hs
          have HS:Hid (min f.safe n=f.safe):=hid (by omega)
          have d4:¬ n<f.safe:=by omega
          have d5:decide (n<f.safe)=false:=decide_eq_false d4
          clear hs
          go_wp2_with (fail)
          refine bodyPost_ret (v:=.tuple #[.int .i64 0,.bool gone]) (results_two Tryz.results46 _ _ _) rfl ?_
          rw [HCL.out,HS.out,← HGONE.out]
          exact Ret2.same 0 gone (HK2.out.below (Below.drew (Below.refl _ _))) HC2.out
end
end
section
open Go.RowKit Go.MapKept
def synL (r:Rk) (A0:Fs) (nm:ByteArray) (f:Fl) (Q0:Fs):Fs:=if (r.fail == 1)=false∧rDo r=true then A0++(nm,⟨f.bs,f.bs.length⟩) :: Q0 else A0++(nm,f) :: Q0
def synE (r:Rk):Int:=if (r.fail == 1)=true∧(r.armed == 1)=false then 5 else 0
def Rk.fall (r:Rk):Rk:={ r with fail:=if 0<r.fail then r.fail-1 else r.fail }
section
variable {w:World} {B G:Nat} {E:Nat→Prop} {r:Rk} {L:Fs} {v:Value} {P:List Value}
set_option maxHeartbeats 8000000 in
set_option maxRecDepth 100000 in
theorem rkSync_none (h:RkAt w B G E r L v P) (nm:ByteArray) (hL:L.length≤100000) (hg:fget L nm=none) :
    Calls Tryz.prog 47 #[pR G,.string nm] w (Ret2 w B G E r L v 6 false):=by
  have H:=hid h
  have HL:=hid hL
  have HI:Hid (fidx L nm=-1):=hid (by rcases fs_split L nm with ⟨_,_,hi⟩ | ⟨_,_,_,_,_,hg',_⟩;exact hi;rw [hg] at hg';cases hg')
  clear h hL hg
  go_enter Tryz.func47,Tryz.ntmps47
  go_wp2_with (fail)
  refine (rkFind H.out nm (by have:=HL.out;omega)).mono ?_
  rw [HI.out]
  rintro e w1 ⟨rfl,rfl⟩
  go_wp2_with (fail)
  refine bodyPost_ret (v:=.tuple #[.int .i64 6,.bool false]) (results_two Tryz.results47 _ _ _) rfl ?_
  exact Ret2.same 6 false H.out (Ch.refl _ _)
set_option maxHeartbeats 16000000 in
set_option maxRecDepth 100000 in
theorem rkSync_do {A0 Q0:Fs} {nm:ByteArray} {f:Fl} (h:RkAt w B G E r (A0++(nm,f) :: Q0) v P) (ok:r.Ok) (hno:∀ e ∈ A0,e.1≠nm) (hL:(A0++(nm,f) :: Q0).length≤100000) :
    Calls Tryz.prog 47 #[pR G,.string nm] w (Ret2 w B G E r.begin.fall (synL r A0 nm f Q0) v (synE r) (r.armed == 1)):=by
  have H:=hid h
  have HL:=hid hL
  have HOK:=hid ok
  have HI:Hid (fidx (A0++(nm,f) :: Q0) nm=(A0.length:Int)):=hid (fidx_at hno)
  obtain ⟨g,n1,cv,Pa,A7,m7,c7,Pb,rfl,hn1,hnc,hcm,rfl,hpa,hB7,hdv,c0,x1,x2,fz⟩:=h.mid
  have HN1:=hid hn1
  have HPA:=hid hpa
  have hin:(A0.length:Int)<(n1:Int):=by rw [hn1];simp only [List.length_append,List.length_cons];omega
  have hnc':(n1:Int)≤(cv:Int):=by omega
  have hm7:f.bs.length=m7:=hB7.len
  have HM7:=hid hm7
  obtain ⟨i,hi⟩:∃ i,i=A0.length:=⟨_,rfl⟩
  have HII:=hid hi
  rw [← hi] at HI hin
  have hge:¬ ((i:Int)<0):=by omega
  have d0:decide ((i:Int)<0)=false:=by rw [decide_eq_false_iff_not];omega
  clear h hL hdv hB7 hpa hn1 fz hm7 hno hi ok c0 x1 x2
  go_enter Tryz.func47,Tryz.ntmps47
  go_wp2_with (fail)
  refine (rkFind H.out nm (by have:=HL.out;omega)).mono ?_
  rw [HI.out]
  rintro e w1 ⟨rfl,rfl⟩
  go_wp2_with (fail)
  refine (rkBegin H.out HOK.out.count HOK.out.armed).mono ?_
  rintro e w1 ⟨rfl,h1,hc1⟩
  have H1:=hid h1
  have HC1:=hid hc1
  clear h1 hc1 d0
  obtain ⟨gone,hgone⟩:∃ g,g=(r.armed == 1):=⟨_,rfl⟩
  have HGONE:=hid hgone
  have HRD:Hid (rDo r=(!gone || rOdd r)):=hid (by unfold rDo;rw [hgone])
  rw [← hgone]
  clear hgone
  have c5:w1.cell? ⟨G,5,none⟩=some (.int .i64 r.fail):=H1.out.cell 5
  have f5:=H1.out.frozen 5
  go_upto_if 25 with (fail)
  go_cut [] (fun wx=>RkAt wx B G E r.begin.fall (A0++(nm,f) :: Q0) (.slice (some ⟨g,0,none⟩) n1 cv) (Pa++.slice A7 m7 c7 :: Pb)∧Ch (At1 G) w wx)
  case first =>
    have hw5:IntKind.i64.wrap (r.fail-1)=r.fail-1:=IntWalk.i64_in _ (by have:=HOK.out.fail;omega)
    by_cases h0:0<r.fail
    · have d0:decide (0<r.fail)=true:=decide_eq_true h0
      have HR1:Hid ((w1.setCell ⟨G,5,none⟩ (.int .i64 (r.fail-1))).heap[G]?=some (rkObj (.slice (some ⟨g,0,none⟩) n1 cv) r.begin.fall)):=hid (by
        have hf:r.begin.fall={ r.begin with fail:=r.fail-1 }:=by
          unfold Rk.fall
          rw [if_pos (show 0<r.begin.fail from h0)]
          rfl
        rw [hf]
        exact heap_set_row H1.out.row _)
      have HX:Hid (RkAt (w1.setCell ⟨G,5,none⟩ (.int .i64 (r.fail-1))) B G E r.begin.fall (A0++(nm,f) :: Q0) (.slice (some ⟨g,0,none⟩) n1 cv) (Pa++.slice A7 m7 c7 :: Pb)∧Ch (At1 G) w (w1.setCell ⟨G,5,none⟩ (.int .i64 (r.fail-1)))):=hid ⟨H1.out.nums ((Ch.refl _ _).set1 5 _) HR1.out,HC1.out.set1 5 _⟩
      go_wp2_with (fail)
      go_meet
      exact HX.out
    · have d0:decide (0<r.fail)=false:=decide_eq_false h0
      have HX:Hid (RkAt w1 B G E r.begin.fall (A0++(nm,f) :: Q0) (.slice (some ⟨g,0,none⟩) n1 cv) (Pa++.slice A7 m7 c7 :: Pb)∧Ch (At1 G) w w1):=hid (by
        refine ⟨?_,HC1.out⟩
        have:r.begin.fall=r.begin:=by
          unfold Rk.fall
          rw [if_neg (show ¬ 0<r.begin.fail from h0)]
        rw [this]
        exact H1.out)
      go_wp2_with (fail)
      go_meet
      exact HX.out
  case rest =>
    obtain ⟨h3,hc3⟩:=hcut
    have H3:=hid h3
    have HC3:=hid hc3
    clear h3 hc3 c5 f5 H1 HC1
    obtain ⟨fb,hfb⟩:∃ g,g=(r.fail == 1):=⟨_,rfl⟩
    have HFB:=hid hfb
    rw [← hfb]
    clear hfb
    cases fb
    · have HSE:Hid (synE r=0):=hid (by unfold synE;rw [← HFB.out];rfl)
      have c4:wc.cell? ⟨G,4,none⟩=some (.int .i64 r.keep):=H3.out.cell 4
      go_upto_region 8 with (fail)
      go_cut [46] (fun x wx=>x=.bool (!gone || rOdd r)∧wx=wc)
      case first =>
        cases gone
        · go_wp2_with (fail)
          go_meet
          exact ⟨rfl,rfl⟩
        · go_wp2_with (fail)
          go_meet
          exact ⟨by first | rfl | (unfold rOdd;rfl) | (unfold rOdd;simp),rfl⟩
      case rest =>
        obtain ⟨rfl,hw⟩:=hcut
        obtain rfl:=hw.symm
        rw [← HRD.out]
        clear c4
        obtain ⟨dd,hdd⟩:∃ dd,dd=rDo r:=⟨_,rfl⟩
        rw [← hdd] at HRD ⊢
        have HDD:=hid hdd
        clear hdd
        cases dd
        · have HCL:Hid (synL r A0 nm f Q0=A0++(nm,f) :: Q0):=hid (by unfold synL;rw [← HDD.out];simp)
          go_wp2_with (fail)
          refine bodyPost_ret (v:=.tuple #[.int .i64 0,.bool gone]) (results_two Tryz.results47 _ _ _) rfl ?_
          rw [HCL.out,← HGONE.out,HSE.out]
          exact Ret2.same 0 gone H3.out (HC3.out.wide (fun k hk=>.inl hk))
        · have HCL:Hid (synL r A0 nm f Q0=A0++(nm,⟨f.bs,m7⟩) :: Q0):=hid (by unfold synL;rw [← HDD.out,← HFB.out,HM7.out];simp)
          have HK2:Hid (RkAt (wc.setCell ⟨g,i*3+2,none⟩ (.int .i64 (m7:Int))) B G E r.begin.fall (A0++(nm,⟨f.bs,m7⟩) :: Q0) (.slice (some ⟨g,0,none⟩) n1 cv) (Pa++.slice A7 m7 c7 :: Pb)):=hid (by
            have:=H3.out.setS HPA.out m7
            rw [← HII.out] at this
            exact this)
          have HC2:Hid (Ch (RF G (.slice (some ⟨g,0,none⟩) n1 cv)) w (wc.setCell ⟨g,i*3+2,none⟩ (.int .i64 (m7:Int)))):=hid ((HC3.out.wide (fun k hk=>.inl hk)).trans ((Ch.refl _ wc).set1 (i*3+2) _) (fun k _ hk=>.inr (by rw [hk];rfl)))
          have HCX:Hid (wc.cell? ⟨G,0,none⟩=some (.slice (some ⟨g,0,none⟩) n1 cv)∧wc.cell? ⟨g,i*3+1,none⟩=some (.slice A7 m7 c7)∧wc.cell? ⟨g,i*3+2,none⟩=some (.int .i64 (f.safe:Int))∧(∀ j,wc.frozen? ⟨g,j,none⟩=false)):=hid (by
            have ho:=H3.out.own
            refine ⟨H3.out.cell 0,?_,?_,fun j=>by rw [← HN1.out] at ho;exact ho.frozenAt j⟩
            · rw [rfsC_mid HPA.out] at ho
              rw [HN1.out] at ho
              rw [ho.cellAt (i*3+1) (by simp only [List.length_append,List.length_cons];have:=HII.out;omega),List.getElem?_append_right (by rw [rfsC_len HPA.out];have:=HII.out;omega),rfsC_len HPA.out,HII.out,Nat.add_sub_cancel_left]
              rfl
            · rw [rfsC_mid HPA.out] at ho
              rw [HN1.out] at ho
              rw [ho.cellAt (i*3+2) (by simp only [List.length_append,List.length_cons];have:=HII.out;omega),List.getElem?_append_right (by rw [rfsC_len HPA.out];have:=HII.out;omega),rfsC_len HPA.out,HII.out,Nat.add_sub_cancel_left]
              rfl)
          obtain ⟨c0,x1,x2,fz⟩:=HCX.out
          have f2:=fz (i*3+2)
          clear fz
          go_wp2_with (fail)
          go_region
          all_goals
            clear c0 x1 x2 f2
            go_wp2_with (fail)
            refine bodyPost_ret (v:=.tuple #[.int .i64 0,.bool gone]) (results_two Tryz.results47 _ _ _) rfl ?_
            rw [HCL.out,← HGONE.out,HSE.out]
            exact Ret2.same 0 gone (HK2.out.below (Below.drew (Below.refl _ _))) (HC2.out.trans (Ch.of_below (S:=fun _=>False) (Below.drew (Below.refl _ _))) (fun _ _ h=>h.elim))
    · have HCL:Hid (synL r A0 nm f Q0=A0++(nm,f) :: Q0):=hid (by unfold synL;rw [← HFB.out];simp)
      cases gone
      · have HSE:Hid (synE r=5):=hid (by unfold synE;rw [← HFB.out,← HGONE.out];rfl)
        go_wp2_with (fail)
        refine bodyPost_ret (v:=.tuple #[.int .i64 5,.bool false]) (results_two Tryz.results47 _ _ _) rfl ?_
        rw [HCL.out,← HGONE.out,HSE.out]
        exact Ret2.same 5 false H3.out (HC3.out.wide (fun k hk=>.inl hk))
      · have HSE:Hid (synE r=0):=hid (by unfold synE;rw [← HFB.out,← HGONE.out];rfl)
        go_wp2_with (fail)
        refine bodyPost_ret (v:=.tuple #[.int .i64 0,.bool true]) (results_two Tryz.results47 _ _ _) rfl ?_
        rw [HCL.out,← HGONE.out,HSE.out]
        exact Ret2.same 0 true H3.out (HC3.out.wide (fun k hk=>.inl hk))
end
end
section
open Go.RowKit Go.MapKept
theorem bl_iff {a b:ByteArray}:bl a b=true ↔ a.data.toList<b.data.toList:=by
  unfold bl
  rw [bytesLess_eq,Lib.toList_data,Lib.toList_data,decide_eq_true_iff]
theorem bl_trans {a b c:ByteArray} (h1:bl a b=true) (h2:bl b c=true):bl a c=true:=by
  rw [bl_iff] at *
  exact List.lt_trans h1 h2
theorem bl_tot {a b:ByteArray} (h:bl a b=false) (hne:a≠b):bl b a=true:=by
  have h1:¬ a.data.toList<b.data.toList:=fun h2=>by rw [bl_iff.2 h2] at h;cases h
  rw [bl_iff]
  rcases Std.le_total (a:=a.data.toList) (b:=b.data.toList) with h2|h2
  · exact absurd (Std.lt_of_le_of_ne h2 (fun e=>hne (ByteArray.ext (Array.toList_inj.1 e)))) h1
  · exact Std.lt_of_le_of_ne h2 (fun e=>hne (ByteArray.ext (Array.toList_inj.1 e.symm)))
abbrev Srt (L:Fs):Prop:=L.Pairwise (fun a b=>bl a.1 b.1=true)
theorem fgetL_mid {A Q:Fs} {n:ByteArray} {f:Fl} (h:∀ e ∈ A,e.1≠n):fget (A++(n,f) :: Q) n=some f:=by
  induction A with
  | nil=>simp [fget]
  | cons x A ih =>
    obtain ⟨m,g⟩:=x
    simp only [List.cons_append,fget]
    rw [if_neg (fun e=>h (m,g) (by simp) e.symm)]
    exact ih (fun e he=>h e (by simp [he]))
theorem fput_mid {A Q:Fs} {n:ByteArray} {f f':Fl} (h:∀ e ∈ A,e.1≠n):fput (A++(n,f) :: Q) n f'=A++(n,f') :: Q:=by
  induction A with
  | nil=>simp [fput]
  | cons x A ih =>
    obtain ⟨m,g⟩:=x
    simp only [List.cons_append,fput]
    rw [if_neg (fun e=>h (m,g) (by simp) e.symm),ih (fun e he=>h e (by simp [he]))]
theorem perm_cut {A0 Q0 A1 Q1:Fs} {x:ByteArray × Fl} (h:(A0++x :: Q0).Perm (A1++x :: Q1)):(A0++Q0).Perm (A1++Q1) :=
  ((List.perm_middle.symm.trans h).trans List.perm_middle).cons_inv
theorem perm_mid {A0 Q0 A1 Q1:Fs} (x:ByteArray × Fl) (h:(A0++Q0).Perm (A1++Q1)):(A0++x :: Q0).Perm (A1++x :: Q1) :=
  (List.perm_middle.trans (h.cons x)).trans List.perm_middle.symm
theorem fget_in {L:Fs} {n:ByteArray} {f:Fl} (h:fget L n=some f):(n,f) ∈ L:=by
  rcases fs_split L n with ⟨h1,_,_⟩|⟨A,f',Q,rfl,_,h2,_⟩
  · rw [h1] at h;cases h
  · rw [h2] at h;cases h;simp
theorem in_fget {L:Fs} {n:ByteArray} {f:Fl} (hn:(L.map (·.1)).Nodup) (h:(n,f) ∈ L):fget L n=some f:=by
  obtain ⟨A,Q,rfl⟩:=List.append_of_mem h
  refine fgetL_mid (fun e he e1=>?_)
  rw [List.map_append,List.nodup_append] at hn
  exact hn.2.2 e.1 (List.mem_map.2 ⟨e,he,rfl⟩) n (by simp) e1
theorem fget_perm {L fs:Fs} (h:L.Perm fs) (hn:(fs.map (·.1)).Nodup) (n:ByteArray):fget L n=fget fs n:=by
  have hn':(L.map (·.1)).Nodup:=(h.map _).nodup_iff.2 hn
  cases h1:fget fs n with
  | some f=>exact in_fget hn' (h.mem_iff.2 (fget_in h1))
  | none =>
    cases h2:fget L n with
    | none=>rfl
    | some f=>rw [in_fget hn (h.mem_iff.1 (fget_in h2))] at h1;cases h1
theorem fget_not {L:Fs} {n:ByteArray} (h:fget L n=none):∀ e ∈ L,e.1≠n:=by
  rcases fs_split L n with ⟨_,h2,_⟩|⟨_,f,_,_,_,h2,_⟩
  · exact h2
  · rw [h2] at h;cases h
theorem both_split {L fs:Fs} {A0 Q0:Fs} {n:ByteArray} {f:Fl} (h:L.Perm fs) (hn:(fs.map (·.1)).Nodup) (hL:L=A0++(n,f) :: Q0) (hno:∀ e ∈ A0,e.1≠n) :
    ∃ A1 Q1,fs=A1++(n,f) :: Q1∧(∀ e ∈ A1,e.1≠n)∧fget fs n=some f∧(A0++Q0).Perm (A1++Q1):=by
  have hg:fget fs n=some f:=by rw [← fget_perm h hn,hL];exact fgetL_mid hno
  rcases fs_split fs n with ⟨h1,_,_⟩|⟨A1,f',Q1,e,h2,h3,_⟩
  · rw [h1] at hg;cases hg
  · rw [h3] at hg
    cases hg
    refine ⟨A1,Q1,e,h2,h3,perm_cut (x:=(n,f)) ?_⟩
    rw [← hL,← e]
    exact h
theorem srt_put {L L':Fs} {e:ByteArray × Fl} (hs:Srt L) (hno:∀ x ∈ L,x.1≠e.1) (hp:PutsTo L e L'):Srt L'∧L'.Perm (e :: L):=by
  obtain ⟨Pl,Ql,rfl,rfl,h1,h2⟩:=hp
  refine ⟨?_,List.perm_middle⟩
  unfold Srt at *
  rw [List.pairwise_append] at hs ⊢
  obtain ⟨hs1,hs2,hs3⟩:=hs
  refine ⟨hs1,List.pairwise_cons.2 ⟨h1,hs2⟩,fun a ha b hb=>?_⟩
  have hae:bl a.1 e.1=true:=by
    have hne:Pl≠[]:=fun h=>by rw [h] at ha;cases ha
    have hl:=List.getLast?_eq_some_getLast hne
    have hy:=bl_tot (h2 _ hl) (fun h=>hno _ (List.mem_append_left _ (List.getLast_mem hne)) h.symm)
    have hsp:Pl=Pl.dropLast++[Pl.getLast hne]:=(List.dropLast_concat_getLast hne).symm
    rw [hsp] at ha hs1
    rcases List.mem_append.1 ha with h|h
    · exact bl_trans ((List.pairwise_append.1 hs1).2.2 a h _ (by simp)) hy
    · rw [List.mem_singleton.1 h];exact hy
  rcases List.mem_cons.1 hb with rfl|hb
  · exact hae
  · exact hs3 a ha b hb
theorem srt_sub {A Q:Fs} {n:ByteArray} {f f':Fl} (h:Srt (A++(n,f) :: Q)):Srt (A++(n,f') :: Q):=by
  unfold Srt at *
  rw [List.pairwise_append] at h ⊢
  obtain ⟨h1,h2,h3⟩:=h
  rw [List.pairwise_cons] at h2
  refine ⟨h1,List.pairwise_cons.2 ⟨fun x hx=>h2.1 x hx,h2.2⟩,fun a ha b hb=>?_⟩
  rcases List.mem_cons.1 hb with rfl|hb
  · exact h3 a ha (n,f) (by simp)
  · exact h3 a ha b (by simp [hb])
theorem sumB_perm {L fs:Fs} (h:L.Perm fs):sumB L=ftotal fs:=(h.map _).sum_nat
structure Sim (d:Dk) (fs:Fs) (r:Rk) (L:Fs):Prop where
  size:r.size=d.room
  count:r.count=d.ops
  armed:r.armed=d.armedIn
  keep:r.keep=d.armKeep
  fail:r.fail=d.failIn
  perm:L.Perm fs
  srt:Srt L
theorem Sim.odd {d:Dk} {fs:Fs} {r:Rk} {L:Fs} (h:Sim d fs r L):rOdd r=dOdd d:=by unfold rOdd dOdd;rw [h.keep]
theorem Sim.ok {d:Dk} {fs:Fs} {r:Rk} {L:Fs} (h:Sim d fs r L) (hk:FsOk d fs):r.Ok:=by
  have:=hk.ok
  exact ⟨by rw [h.size];have:=hk.ok.room;omega,by rw [h.count];exact hk.ok.ops,by rw [h.armed];exact hk.ok.armedIn,by rw [h.keep];exact hk.ok.armKeep,by rw [h.fail];exact hk.ok.failIn⟩
theorem Sim.begin {d:Dk} {fs:Fs} {r:Rk} {L:Fs} (h:Sim d fs r L) {fs' L':Fs} (hp:L'.Perm fs') (hs:Srt L') (u:Int):Sim { d.begin with used:=u } fs' r.begin L' :=
  ⟨h.size,by show r.count+1=d.ops+1;rw [h.count],by show (if r.armed=0 then 0 else r.armed-1)=(if d.armedIn=0 then 0 else d.armedIn-1);rw [h.armed],h.keep,h.fail,hp,hs⟩
theorem Sim.begin0 {d:Dk} {fs:Fs} {r:Rk} {L:Fs} (h:Sim d fs r L) {fs' L':Fs} (hp:L'.Perm fs') (hs:Srt L'):Sim d.begin fs' r.begin L':=h.begin hp hs d.begin.used
end
end Go.Proofs.YtodjilljcjkacaaGreatDoor
