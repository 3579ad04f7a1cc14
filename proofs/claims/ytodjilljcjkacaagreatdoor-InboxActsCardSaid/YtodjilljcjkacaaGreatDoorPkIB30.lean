/- Laid together: Acc2, Comm, In2, In3. -/
import Derived.Test.YtodjilljcjkacaaGreatDoorPkIB29
import Derived.Conc.LoneCalls

namespace Go.Proofs.YtodjilljcjkacaaGreatDoor
open Lib (hid)
section
open Go.RowKit
theorem code_eq0 (cd:ByteArray):(cd.toList == [65,65])=decide (cd=cB 0):=by
  rw [show ([65,65]:List UInt8)=(cB 0).toList from by decide +kernel]
  exact strEq cd (cB 0)
theorem code_isEmpty (e:Int):(codeOf e).toList.isEmpty=false:=by
  unfold codeOf
  split
  · decide +kernel
  · split <;> decide +kernel
set_option maxRecDepth 100000 in
set_option maxHeartbeats 2000000 in
theorem stored_ (A:Option Addr) (n c:Nat) (l:List UInt8) (w:World) (hv:Vers w) (hB:Bs w A n c l) (hn:n≤1000000) :
    Calls Tryz.prog 82 #[.slice A n c] w fun e w'=>e=.returned (.bool (decide ((verdictD l).2.1=cB 0)))∧Below w.heap.size w w':=by
  go_enter Tryz.func82,Tryz.ntmps82
  go_wp2_with (fail)
  refine (verdict_ A n c l w hv hB hn).mono ?_
  rintro e w1 ⟨rfl,hb1⟩
  have HB1:=hid hb1
  clear hb1 hv hB hn
  obtain ⟨g,hg⟩:∃ g,g=(verdictD l).1:=⟨_,rfl⟩
  obtain ⟨cd,hcd⟩:∃ cd,cd=(verdictD l).2.1:=⟨_,rfl⟩
  obtain ⟨K,hK⟩:∃ K,K=(verdictD l).2.2:=⟨_,rfl⟩
  have HCE:=hid hcd
  rw [← hg,← hcd,← hK]
  clear hg hcd hK
  have HB2:Hid (Below w.heap.size w (w1.alloc (.cells g.cells TH))):=hid (HB1.out.alloc HB1.out.size _)
  have hd:=code_eq0 cd
  cases hdd:decide (cd=cB 0)
  · have HE:Hid (decide ((verdictD l).2.1=cB 0)=false):=hid (by rw [← HCE.out];exact hdd)
    rw [hdd] at hd
    clear hdd
    go_wp2_with (fail)
    go_ret
    exact ⟨by rw [HE.out];rfl,HB2.out⟩
  · have HE:Hid (decide ((verdictD l).2.1=cB 0)=true):=hid (by rw [← HCE.out];exact hdd)
    rw [hdd] at hd
    clear hdd
    go_wp2_with (fail)
    go_ret
    exact ⟨by rw [HE.out];rfl,HB2.out⟩
def RetBN (w:World) (r:List UInt8 × Bool) (e:Ending) (w':World):Prop :=
  ∃ A m c,e=.returned (.tuple #[.slice A m c,.bool r.2])∧Bs w' A m c r.1∧(∀ b,A=some b→w.heap.size≤b.block)∧Below w.heap.size w w'
theorem RetBN.none_ {w w':World} {r:List UInt8 × Bool} (h:r=([],false)) (hb:Below w.heap.size w w'):RetBN w r (.returned (.tuple #[.slice none 0 0,.bool false])) w':=by
  subst h
  exact ⟨none,0,0,rfl,Bs.none_ _,(fun b h=>by cases h),hb⟩
set_option maxRecDepth 100000 in
set_option maxHeartbeats 4000000 in
theorem reply_n (A:Option Addr) (n c:Nat) (l:List UInt8) (kept:Bool) (w:World) (hv:Vers w) (hs:Signs w) (hc:Cds w) (hB:Bs w A n c l) (hn:n≤29000) :
    Calls Tryz.prog 54 #[.slice A n c,.bool kept] w (RetBN w (replyD l kept)):=by
  have HN:=hid hn
  have HL:=hid hB.len
  have HS:=hid (fun W (hb:Below w.heap.size w W)=>hs.below hb)
  have HC:=hid (fun W (hb:Below w.heap.size w W)=>hc.below hb)
  have HBS:=hid hB
  go_enter Tryz.func54,Tryz.ntmps54
  go_wp2_with (fail)
  refine (verdict_ A n c l w hv hB (by omega)).mono ?_
  rintro e w1 ⟨rfl,hb1⟩
  have HB1:=hid hb1
  have HBS1:=hid (HBS.out.below hb1)
  clear hb1 hv hB hn hs hc HBS
  by_cases hcode:(verdictD l).2.1=⟨#[]⟩
  · as_aux_lemma =>
    have HR:Hid (replyD l kept=([],false)):=hid (if_pos (.inl hcode))
    rw [hcode]
    obtain ⟨g,hg⟩:∃ g,g=(verdictD l).1:=⟨_,rfl⟩
    obtain ⟨K,hK⟩:∃ K,K=(verdictD l).2.2:=⟨_,rfl⟩
    rw [← hg,← hK]
    clear hg hK hcode
    have HB2:Hid (Below w.heap.size w (w1.alloc (.cells g.cells TH))):=hid (HB1.out.alloc HB1.out.size _)
    go_wp2_with (fail)
    go_ret2
    exact RetBN.none_ HR.out HB2.out
  · obtain ⟨g,hr,h28,hvd⟩:=verdict_some hcode
    have HRP:Hid (replyD l kept=if (verdictD l).2.1=⟨#[]⟩∨good l=false then ([],false) else (11 :: ((buildD (verdictD l).1 (if (verdictD l).2.1=cB 0∧kept=false then cB 1 else (verdictD l).2.1)).1++[28,13]),true)):=hid rfl
    rw [hvd] at HRP ⊢
    obtain ⟨cne,ccd,csz⟩:=codeOf_ne (checkD g)
    have ce:=code_isEmpty (checkD g)
    obtain ⟨K,hK⟩:∃ K,K=checkD g:=⟨_,rfl⟩
    rw [← hK] at HRP cne ccd csz ce ⊢
    obtain ⟨cd,hcd⟩:∃ cd,cd=codeOf K:=⟨_,rfl⟩
    rw [← hcd] at HRP cne ccd csz ce ⊢
    have HCD:=hid (And.intro ccd csz)
    have HSU:Hid (g.sum≤290000):=hid (by
      have t:=(sum_le_of (read_stands hr).2.2).2.2
      rw [← Hd.sum_eq,HL.out] at t
      have:=HN.out
      omega)
    have HAG:=hid (fun (hl:good l=true) (c':ByteArray) (hc':codeD c'=true)=>answer_good hr h28 hl hc')
    have HX2:Hid (BoxH g w1.heap.size (w1.alloc (.cells g.cells TH))):=hid (BoxH.new g w1)
    have HB2:Hid (Below w.heap.size w (w1.alloc (.cells g.cells TH))):=hid (HB1.out.alloc HB1.out.size _)
    have HBS2:Hid (Bs (w1.alloc (.cells g.cells TH)) A n c l):=hid (HBS1.out.alloc _)
    have HCN:=hid cne
    clear hK hcd ccd csz hr h28 hvd hcode cne
    go_wp2_with (fail)
    obtain ⟨G,hG⟩:∃ G,G=w1.heap.size:=⟨_,rfl⟩
    rw [← hG] at HX2 ⊢
    clear hG HB1 HBS1
    generalize w1.alloc (.cells #[u8 g.d.a,u8 g.d.b,u8 g.d.c,u8 g.d.d,u8 g.d.e,.string g.a0,.string g.a1,.string g.a2,.string g.a3,.string g.a4,.string g.a5,.string g.a6,.string g.a7,.string g.a8,.string g.a9] TH)=w2 at *
    refine (frameGood_b A n c l w2 (HS.out _ HB2.out) HBS2.out (good l) rfl).mono ?_
    rintro e w3 ⟨rfl,hb3⟩
    have HX3:=hid (HX2.out.below hb3)
    have HB3:=hid (HB2.out.trans (hb3.mono HB2.out.size))
    clear hb3 HX2 HB2 HBS2 ce
    cases hgl:good l
    · as_aux_lemma =>
      have HR:Hid (replyD l kept=([],false)):=hid (by rw [HRP.out,if_pos (.inr hgl)])
      clear hgl
      go_wp2_with (fail)
      go_ret2
      exact RetBN.none_ HR.out HB3.out
    · have HA2:=hid (HAG.out hgl)
      have HR:Hid (replyD l kept=(11 :: ((buildD g (if cd=cB 0∧kept=false then cB 1 else cd)).1++[28,13]),true)):=hid (by
        rw [HRP.out,if_neg]
        rintro (h|h)
        · exact HCN.out h
        · rw [hgl] at h;cases h)
      clear HAG HRP hgl
      have hd:=code_eq0 cd
      cases hdd:decide (cd=cB 0)
      · as_aux_lemma =>
        rw [hdd] at hd
        have hnc:cd≠cB 0:=of_decide_eq_false hdd
        have HNC:=hid hnc
        clear hdd hnc
        have HR2:Hid (replyD l kept=(11 :: ((buildD g cd).1++[28,13]),true)):=hid (by rw [HR.out,if_neg (fun h=>HNC.out h.1)])
        obtain ⟨hbu,hgd⟩:=HA2.out cd HCD.out.1
        have HGD:=hid hgd
        have HBU2:Hid ((buildD g cd).2=0):=hid (by rw [hbu])
        have HBL:=hid (buildD_len g cd)
        clear hbu hgd
        go_wp2_with (with_reducible refine wpList_loadHG G g (by kernel_rfl) (by kernel_rfl) HX3.out ?_)
        refine (ackBuild g cd w3 (HC.out _ HB3.out) (by have:=HSU.out;omega) (by rw [HCD.out.2];decide)).mono ?_
        rintro e w4 ⟨A4,c4,rfl,hB4,hb4⟩
        have HB4:=hid (HB3.out.trans (hb4.mono HB3.out.size))
        have HX4:=hid hB4
        clear hb4 hB4 HX3 HB3
        rw [HBU2.out]
        obtain ⟨X,hX⟩:∃ X,X=(buildD g cd).1:=⟨_,rfl⟩
        rw [← hX] at HR2 HGD HX4 HBL ⊢
        clear hX
        obtain ⟨N,hN⟩:∃ N,N=X.length:=⟨_,rfl⟩
        have HNN:Hid (N≤1000000):=hid (by rw [hN];have:=HBL.out;have:=HSU.out;have h2:=HCD.out.2;have h3:(cB 1).size=2:=rfl;omega)
        rw [← hN] at HX4 ⊢
        clear hN HBL
        go_wp2_with (fail)
        refine (frameWrap_new A4 N c4 X w4 (HS.out _ HB4.out) HX4.out HGD.out (by have:=HNN.out;omega)).mono ?_
        rintro e w5 ⟨A5,c5,rfl,hB5,hf5,hb5⟩
        rw [show ((11:UInt8) :: (X++[28,13])).length=X.length+2+1 from by simp] at hB5 ⊢
        obtain ⟨N5,hN5⟩:∃ N5,N5=X.length+2+1:=⟨_,rfl⟩
        rw [← hN5] at hB5 ⊢
        clear hN5
        have HB5:=hid (HB4.out.trans (hb5.mono HB4.out.size))
        have HX5:=hid hB5
        have HF5:=hid (fun b h=>Nat.le_trans HB4.out.size (hf5 b h))
        clear hb5 hB5 hf5
        go_wp2_with (fail)
        go_ret2
        exact ⟨A5,N5,c5,by rw [HR2.out];rfl,by rw [HR2.out];exact HX5.out,HF5.out,HB5.out⟩
      · have HYC:=hid (of_decide_eq_true hdd)
        rw [hdd] at hd
        clear hdd
        cases kept
        · as_aux_lemma =>
          have HR2:Hid (replyD l false=(11 :: ((buildD g (cB 1)).1++[28,13]),true)):=hid (by rw [HR.out,if_pos ⟨HYC.out,by trivial⟩])
          obtain ⟨hbu,hgd⟩:=HA2.out (cB 1) (by decide +kernel)
          have HGD:=hid hgd
          have HBU2:Hid ((buildD g (cB 1)).2=0):=hid (by rw [hbu])
          have HBL:=hid (buildD_len g (cB 1))
          clear hbu hgd
          go_wp2_with (with_reducible refine wpList_loadHG G g (by kernel_rfl) (by kernel_rfl) HX3.out ?_)
          refine (ackBuild g (cB 1) w3 (HC.out _ HB3.out) (by have:=HSU.out;omega) (by decide)).mono ?_
          rintro e w4 ⟨A4,c4,rfl,hB4,hb4⟩
          have HB4:=hid (HB3.out.trans (hb4.mono HB3.out.size))
          have HX4:=hid hB4
          clear hb4 hB4 HX3 HB3
          rw [HBU2.out]
          obtain ⟨X,hX⟩:∃ X,X=(buildD g (cB 1)).1:=⟨_,rfl⟩
          rw [← hX] at HR2 HGD HX4 HBL ⊢
          clear hX
          obtain ⟨N,hN⟩:∃ N,N=X.length:=⟨_,rfl⟩
          have HNN:Hid (N≤1000000):=hid (by rw [hN];have:=HBL.out;have:=HSU.out;have h2:=HCD.out.2;have h3:(cB 1).size=2:=rfl;omega)
          rw [← hN] at HX4 ⊢
          clear hN HBL
          go_wp2_with (fail)
          refine (frameWrap_new A4 N c4 X w4 (HS.out _ HB4.out) HX4.out HGD.out (by have:=HNN.out;omega)).mono ?_
          rintro e w5 ⟨A5,c5,rfl,hB5,hf5,hb5⟩
          rw [show ((11:UInt8) :: (X++[28,13])).length=X.length+2+1 from by simp] at hB5 ⊢
          obtain ⟨N5,hN5⟩:∃ N5,N5=X.length+2+1:=⟨_,rfl⟩
          rw [← hN5] at hB5 ⊢
          clear hN5
          have HB5:=hid (HB4.out.trans (hb5.mono HB4.out.size))
          have HX5:=hid hB5
          have HF5:=hid (fun b h=>Nat.le_trans HB4.out.size (hf5 b h))
          clear hb5 hB5 hf5
          go_wp2_with (fail)
          go_ret2
          exact ⟨A5,N5,c5,by rw [HR2.out];rfl,by rw [HR2.out];exact HX5.out,HF5.out,HB5.out⟩
        · as_aux_lemma =>
          have HR2:Hid (replyD l true=(11 :: ((buildD g cd).1++[28,13]),true)):=hid (by rw [HR.out,if_neg (fun h=>by simp at h)])
          obtain ⟨hbu,hgd⟩:=HA2.out cd HCD.out.1
          have HGD:=hid hgd
          have HBU2:Hid ((buildD g cd).2=0):=hid (by rw [hbu])
          have HBL:=hid (buildD_len g cd)
          clear hbu hgd
          go_wp2_with (with_reducible refine wpList_loadHG G g (by kernel_rfl) (by kernel_rfl) HX3.out ?_)
          refine (ackBuild g cd w3 (HC.out _ HB3.out) (by have:=HSU.out;omega) (by rw [HCD.out.2];decide)).mono ?_
          rintro e w4 ⟨A4,c4,rfl,hB4,hb4⟩
          have HB4:=hid (HB3.out.trans (hb4.mono HB3.out.size))
          have HX4:=hid hB4
          clear hb4 hB4 HX3 HB3
          rw [HBU2.out]
          obtain ⟨X,hX⟩:∃ X,X=(buildD g cd).1:=⟨_,rfl⟩
          rw [← hX] at HR2 HGD HX4 HBL ⊢
          clear hX
          obtain ⟨N,hN⟩:∃ N,N=X.length:=⟨_,rfl⟩
          have HNN:Hid (N≤1000000):=hid (by rw [hN];have:=HBL.out;have:=HSU.out;have h2:=HCD.out.2;have h3:(cB 1).size=2:=rfl;omega)
          rw [← hN] at HX4 ⊢
          clear hN HBL
          go_wp2_with (fail)
          refine (frameWrap_new A4 N c4 X w4 (HS.out _ HB4.out) HX4.out HGD.out (by have:=HNN.out;omega)).mono ?_
          rintro e w5 ⟨A5,c5,rfl,hB5,hf5,hb5⟩
          rw [show ((11:UInt8) :: (X++[28,13])).length=X.length+2+1 from by simp] at hB5 ⊢
          obtain ⟨N5,hN5⟩:∃ N5,N5=X.length+2+1:=⟨_,rfl⟩
          rw [← hN5] at hB5 ⊢
          clear hN5
          have HB5:=hid (HB4.out.trans (hb5.mono HB4.out.size))
          have HX5:=hid hB5
          have HF5:=hid (fun b h=>Nat.le_trans HB4.out.size (hf5 b h))
          clear hb5 hB5 hf5
          go_wp2_with (fail)
          go_ret2
          exact ⟨A5,N5,c5,by rw [HR2.out];rfl,by rw [HR2.out];exact HX5.out,HF5.out,HB5.out⟩
end
section
open Go.RowKit Go.Conc
def wpN (P:Program) (c:Code) (Q:Exit→Act→World→Prop) (a:Act) (w:World):Prop :=
  ∀ (b:Frame) (k:List Item) (cs:List Frame),b.kind≠.early→∃ e a' w',Q e a' w'∧Arrives P (lone (b.at a (.code c :: k)) cs w) b k cs e a' w'
def opsN (P:Program) (ops:Array Oper) (Q:Exit→Act→World→Prop) (l:List Nat) (a:Act) (w:World):Prop :=
  ∀ (b:Frame) (k:List Item) (cs:List Frame),b.kind≠.early→∃ e a' w',Q e a' w'∧Arrives P (lone (b.at a (.inRegion ops l :: k)) cs w) b k cs e a' w'
section
variable {P:Program} {Q:Exit→Act→World→Prop} {a:Act} {w w':World}
theorem wpN_of {c:Code} (h:c.wp P Q a w):wpN P c Q a w:=fun b k cs _=>h b k cs
theorem wpN_past {x:Item} {b:Frame} {k:List Item} {cs:List Frame} {e:Exit} {a':Act} {w':World} {m:Machine} (hx:x.plain=true) (he:e≠.normal) (hq:Q e a' w') (h:Arrives P m b (x :: k) cs e a' w') :
    ∃ e a' w',Q e a' w'∧Arrives P m b k cs e a' w':=⟨e,a',w',hq,.pass hx (fun _ _=>.inl he) h⟩
theorem wpN_seqN {x y:Code} (h:wpN P x (Exit.then (fun a w=>wpN P y Q a w) Q) a w):wpN P (.seq x y) Q a w:=by
  intro b k cs hb
  obtain ⟨e,a1,w1,hq,harr⟩:=h b (.code y :: k) cs hb
  have hs:Steps P (lone (b.at a (.code (.seq x y) :: k)) cs w) (lone (b.at a (.code x :: .code y :: k)) cs w):=.one step_seq
  by_cases hn:e=.normal
  · subst hn
    obtain ⟨e2,a2,w2,hq2,harr2⟩:=hq b k cs hb
    exact ⟨e2,a2,w2,hq2,.of_steps (hs.trans harr) harr2⟩
  · have hq':Q e a1 w1:=by cases e <;> first | exact hq | exact absurd rfl hn
    exact wpN_past (x:=.code y) rfl hn hq' (.of_steps hs harr)
theorem wpN_seq {x y:Code} (h:x.wp P (Exit.then (fun a w=>wpN P y Q a w) Q) a w):wpN P (.seq x y) Q a w:=wpN_seqN (wpN_of h)
theorem wpN_cond {c:Operand} {x y:Code} {t:Bool} (hc:a.eval c=.bool t) (h:wpN P (if t then x else y) Q a w):wpN P (.cond c x y) Q a w :=
  fun b k cs hb=>let ⟨e,a',w',q,r⟩:=h b k cs hb;⟨e,a',w',q,.of_steps (.one (step_cond hc)) r⟩
theorem wpN_block {id:Nat} {c:Code} (h:wpN P c (Exit.inBlock id Q) a w):wpN P (.block id c) Q a w:=by
  intro b k cs hb
  obtain ⟨e,a1,w1,hq,harr⟩:=h b (.inBlock id :: k) cs hb
  have hs:Steps P (lone (b.at a (.code (.block id c) :: k)) cs w) (lone (b.at a (.code c :: .inBlock id :: k)) cs w):=.one step_block
  cases e with
  | normal=>exact ⟨.normal,a1,w1,hq,hs.trans (Steps.trans harr (.one step_inBlock))⟩
  | exit i =>
    by_cases hid:i=id
    · simp only [Exit.inBlock,hid,if_true] at hq
      exact ⟨.normal,a1,w1,hq,hs.trans (harr k (by simp [exitTo,hid]))⟩
    · simp only [Exit.inBlock,hid,if_false] at hq
      have hne:(id == i)=false:=by simpa using fun h=>hid h.symm
      exact ⟨.exit i,a1,w1,hq,fun k' hk=>hs.trans (harr k' (by simp [exitTo,hne,hk]))⟩
  | goto l=>exact ⟨.goto l,a1,w1,hq,fun k' hk=>hs.trans (harr k' (by simp [gotoIn,hk]))⟩
  | ret=>exact ⟨.ret,a1,w1,hq,.of_steps hs harr⟩
  | panic ch=>exact ⟨.panic ch,a1,w1,hq,.of_steps hs harr⟩
  | outgrown=>exact ⟨.outgrown,a1,w1,hq,.of_steps (b:=b) (k:=k) (cs:=cs) (e:=.outgrown) hs harr⟩
theorem wpN_loop {c:Code} (I:Act→World→Prop) (μ:Act→World→Nat) (h0:I a w) (round:∀ a w,I a w→wpN P c (Exit.then (fun a' w'=>I a' w'∧μ a' w'<μ a w) Q) a w):wpN P (.loop c) Q a w:=by
  intro b k cs hb
  have key:∀ n a w,μ a w≤n→I a w→∃ e a' w',Q e a' w'∧Arrives P (lone (b.at a (.code c :: .inLoop c :: k)) cs w) b k cs e a' w':=by
    intro n
    induction n with
    | zero =>
      intro a w hn hI
      obtain ⟨e,a1,w1,hq,harr⟩:=round a w hI b (.inLoop c :: k) cs hb
      by_cases hne:e=.normal
      · subst hne;have:=hq.2;omega
      · have hq':Q e a1 w1:=by cases e <;> first | exact hq | exact absurd rfl hne
        exact wpN_past (x:=.inLoop c) rfl hne hq' harr
    | succ n ih =>
      intro a w hn hI
      obtain ⟨e,a1,w1,hq,harr⟩:=round a w hI b (.inLoop c :: k) cs hb
      by_cases hne:e=.normal
      · subst hne
        obtain ⟨hI1,hlt⟩:=hq
        obtain ⟨e2,a2,w2,hq2,harr2⟩:=ih a1 w1 (by omega) hI1
        exact ⟨e2,a2,w2,hq2,.of_steps (Steps.trans harr (.one step_inLoop)) harr2⟩
      · have hq':Q e a1 w1:=by cases e <;> first | exact hq | exact absurd rfl hne
        exact wpN_past (x:=.inLoop c) rfl hne hq' harr
  obtain ⟨e,a',w',hq,harr⟩:=key _ a w (Nat.le_refl _) h0
  exact ⟨e,a',w',hq,.of_steps (.one step_loop) harr⟩
theorem wpN_region {id:Nat} {ops:Array Oper} (h:opsN P ops Q (List.range ops.size) a w):wpN P (.region id ops false) Q a w :=
  fun b k cs hb=>let ⟨e,a',w',q,r⟩:=h b k cs hb;⟨e,a',w',q,.of_steps (.one step_region) r⟩
theorem opsN_value {ops:Array Oper} {i:Nat} {l:List Nat} {o:Oper} {v:Value} (ho:ops[i]?=some o) (hw:Region.wanted o (yielded ops a.tmps)=true) (hr:(execOp a.eval o).run P w=.ok (.value v) w') (h:opsN P ops Q l (a.put o.dst v) w'):opsN P ops Q (i :: l) a w:=by
  intro b k cs hb
  obtain ⟨e,a',w2,hq,harr⟩:=h b k cs hb
  refine ⟨e,a',w2,hq,.of_steps (.one (step_lone_go ?_)) harr⟩
  rw [stepG_op (P:=P) (b:=b) (k:=k) (cs:=cs) (w:=w) (rest:=l) ho hw]
  have hf:(b.at a (.inRegion ops (i :: l) :: k)).finish v=b.at (a.put o.dst v) (.inRegion ops l :: k):=by rw [Frame.finish_at,ho];rfl
  rw [← hf]
  simp [stepG.apply,hr]
theorem opsN_nil {ops:Array Oper} (h:Q .normal a w):opsN P ops Q [] a w:=fun _ _ _ _=>⟨.normal,a,w,h,.one step_region_end⟩
theorem opsN_comm {ops:Array Oper} {i:Nat} {l:List Nat} {o:Oper} {v:Value} {cases:Array CommCase} {shape:CommShape} {w1 w2:World} (ho:ops[i]?=some o) (hw:Region.wanted o (yielded ops a.tmps)=true) (hr:(execOp a.eval o).run P w=.ok (.comm cases true shape) w1)
    (hs:∀ fr cs es,stepG P true (G fr cs) w=.comm (G fr cs) cases true shape w1 es→step P (solo (G fr cs) w)=.next (solo (G (fr.finish v) cs) w2)) (h:opsN P ops Q l (a.put o.dst v) w2):opsN P ops Q (i :: l) a w:=by
  intro b k cs hb
  obtain ⟨e,a',w3,hq,harr⟩:=h b k cs hb
  refine ⟨e,a',w3,hq,.of_steps (.one ?_) harr⟩
  have hf:(b.at a (.inRegion ops (i :: l) :: k)).finish v=b.at (a.put o.dst v) (.inRegion ops l :: k):=by rw [Frame.finish_at,ho];rfl
  have:=hs _ cs _ (stepG_comm (P:=P) (main:=true) (b:=b) (k:=k) (cs:=cs) (rest:=l) ho hw hb hr)
  rw [hf] at this
  exact this
theorem bodyN {f:FuncId} {fn:Func} {c:Code} {args:Array Value} {R:Ending→World→Prop} (kd:CallKind) (hk:kd≠.early) (hf:P.funcs[f]?=some fn) (hc:fn.body=some c) (h:wpN P c (bodyPost P fn R) { tmps:=args++Array.replicate (fn.ntmps-args.size) undef,defers:=[] } w) (cs:List Frame) :
    ∃ e w' fr,R e w'∧Comes P (lone (Frame.enter P f args kd) cs w) (lone fr cs w') e∧fr.fn=f∧fr.kind=kd∧fr.going P w' e:=by
  let b:Frame:={ (default:Frame) with fn:=f,kind:=kd }
  have henter:Frame.enter P f args kd=b.at { tmps:=args++Array.replicate (fn.ntmps-args.size) undef,defers:=[] } [.code c]:=by
    simp [Frame.enter,Frame.at,hf,hc,b]
  obtain ⟨e,a',w',hq,harr⟩:=h b [] cs hk
  rw [← henter] at harr
  cases e with
  | normal =>
    obtain ⟨hd,v,hr,hR⟩:=hq
    exact ⟨.returned v,w',_,hR,Steps.trans harr (.one step_end),rfl,rfl,rfl,hd,fn,hf,hr⟩
  | ret =>
    obtain ⟨hd,v,hr,hR⟩:=hq
    obtain ⟨todo,hs⟩:=harr
    exact ⟨.returned v,w',_,hR,hs,rfl,rfl,rfl,hd,fn,hf,hr⟩
  | panic chain =>
    obtain ⟨hd,hR⟩:=hq
    obtain ⟨todo,hs⟩:=harr
    exact ⟨.panicked chain,w',_,hR,hs,rfl,rfl,rfl,hd,fn,hf⟩
  | exit id=>exact hq.elim
  | goto l=>exact hq.elim
  | outgrown=>exact ⟨.outgrown,w',b,hq,harr.resolve_left hk,rfl,rfl,trivial⟩
theorem callsN {f:FuncId} {fn:Func} {c:Code} {args:Array Value} {R:Ending→World→Prop} (hf:P.funcs[f]?=some fn) (hc:fn.body=some c) (h:wpN P c (bodyPost P fn R) { tmps:=args++Array.replicate (fn.ntmps-args.size) undef,defers:=[] } w):Calls P f args w R:=by
  intro cs
  obtain ⟨e,w',fr,hR,hs,hfn,hkd,hg⟩:=bodyN .normal (by decide) hf hc h cs
  refine ⟨e,w',fr,hR,hs,hfn,?_⟩
  cases e with
  | returned v=>exact ⟨hg.1,hg.2.1,hkd,hg.2.2⟩
  | panicked chain=>exact hg
  | outgrown=>trivial
theorem callsDN {f:FuncId} {fn:Func} {c:Code} {args:Array Value} {u:FrameMode} {R:Ending→World→Prop} (hf:P.funcs[f]?=some fn) (hc:fn.body=some c) (h:wpN P c (bodyPost P fn R) { tmps:=args++Array.replicate (fn.ntmps-args.size) undef,defers:=[] } w):CallsD P f args u w fun e u' w'=>u'=u∧R e w':=by
  intro c0 cs hu
  obtain ⟨e,w',fr,hR,hs,_,hkd,hg⟩:=bodyN .deferred (by decide) hf hc h (c0 :: cs)
  refine ⟨e,u,w',fr,⟨rfl,hR⟩,?_,hkd,hg⟩
  rw [show ({ c0 with mode:=u }:Frame)=c0 from by subst hu;rfl]
  exact hs
end
end
section
open Go.RowKit Go.MapKept
def keepD (d:Dk) (fs:Fs) (g:Nat) (l:List UInt8):Out:=if (verdictD l).2.1=cB 0 then addD d fs nmI g l else (.inl 1,d,fs)
def endB:Int ⊕ Int→Ending
  | .inl x=>.returned (.bool (decide (x=0)))
  | .inr op=>.panicked [{ v:=crashI op,recovered:=false }]
def KPost (Z:Nat→Prop) (B D M L Q X:Nat) (O:Option Nat) (F:List Ent) (T:List (List UInt8)) (g:Nat) (v:Value) (most:Nat) (s:St) (va:Value) (an:List (List UInt8)) (sn kp:Nat) (w:World) (l:List UInt8) (r:Out) (e:Ending) (w':World):Prop :=
  ∃ F' v',e=endB r.1∧fsOf F'=r.2.2∧IB Z w' B D M L Q X O r.2.1 F' (if r.1=.inl 0 then T++[l] else T) (if r.1=.inl 0 then g+(record l).length else g) v' most s va an sn (if r.1=.inl 0 then kp+1 else kp)∧ICh (FI L D M Q X O F v va) (FI L D M Q X O F' v' va) w w'
theorem keepD_ok {d:Dk} {fs:Fs} (ok:FsOk d fs) (ho:d.ops+8≤1152921504606846976) (g:Nat) (b:List UInt8):FsOk (keepD d fs g b).2.1 (keepD d fs g b).2.2∧(keepD d fs g b).2.1.ops≤d.ops+3:=by
  unfold keepD
  split
  · exact addD_ok ok ho nmI g b
  · exact ⟨ok,by show d.ops≤d.ops+3;omega⟩
section
variable {Z:Nat→Prop} {w:World} {B D M L Q X g sn kp most:Nat} {O:Option Nat} {d:Dk} {F:List Ent} {T:List (List UInt8)} {v va:Value} {s:St} {an:List (List UInt8)}
set_option maxRecDepth 100000 in
set_option maxHeartbeats 4000000 in
theorem mKeep (h:IB Z w B D M L Q X O d F T g v most s va an sn kp) (hv:Vers w) (ok:FsOk d (fsOf F)) (ho:d.ops+8≤1152921504606846976) (A:Option Addr) (c:Nat) (l:List UInt8) (hl:Bs w A l.length c l) (hln:l.length≤1000000)
    (hoff:0<l.length→∀ b,A=some b→¬ DFoot D M F b.block) (hg:g≤1099511000000) (hn:T.length≤1099511627770) (hBw:B≤w.heap.size) (hkp:kp≤1099511627770) :
    Calls Tryz.prog 53 #[pI X,.slice A l.length c] w (KPost Z B D M L Q X O F T g v most s va an sn kp w l (keepD d (fsOf F) g l)):=by
  have HS:=hid (stored_ A l.length c l w hv hl hln)
  have HL:=hid hl
  have H:=hid h
  have HA:Hid (∀ W,Below w.heap.size w W→Calls Tryz.prog 83 #[pL L,.slice A l.length c] W (KEnd (fun k=>Z k∨k=X∨dS Q O k∨va.ownBlock=some k) B L D M F nmI T g v W l (record l).length (addD d (fsOf F) nmI g l))):=hid (fun W hb =>
    walAdd (h.lg.below hb) (h.dk.below hb) ok ho (by decide) A c l (hl.below hb) hoff hg hn (Nat.le_trans hBw hb.size) (fun k hk=>by
      have:=hb.size
      have hf:=fun j hj=>(h.foot_lt (k:=j) hj).2
      rcases hk with hk|hk|hk|hk
      · have:=(h.zl k hk).1;omega
      · have:=hf k (.inl hk);omega
      · have:=hf k (.inr (.inl hk));omega
      · have:=hf k (.inr (.inr (.inr hk)));omega))
  have HKP:=hid hkp
  clear h hv ok ho hl hln hoff hg hn hBw hkp
  go_enter Tryz.func53,Tryz.ntmps53
  cases hst:decide ((verdictD l).2.1=cB 0)
  · have hK:keepD d (fsOf F) g l=(.inl 1,d,fsOf F):=if_neg (by simpa using hst)
    go_wp2_with (fail)
    refine HS.out.mono ?_
    rintro e w1 ⟨rfl,hb1⟩
    have HB1:=hid hb1
    have HK:=hid hK
    rw [hst]
    clear hb1 hK hst
    go_wp2_with (fail)
    go_ret
    rw [HK.out]
    exact ⟨F,v,rfl,rfl,H.out.below HB1.out,.of_below HB1.out⟩
  · have hK:keepD d (fsOf F) g l=addD d (fsOf F) nmI g l:=if_pos (by simpa using hst)
    have HK:=hid hK
    go_wp2_with (fail)
    refine HS.out.mono ?_
    rintro e w1 ⟨rfl,hb1⟩
    have HB1:=hid hb1
    rw [hst]
    have c1:=(H.out.below hb1).cell 1
    simp only [List.getElem?_toArray,List.getElem?_cons_zero,List.getElem?_cons_succ] at c1
    clear hb1 hK hst
    go_wp2_with (fail)
    refine (HA.out w1 HB1.out).mono ?_
    rintro e w2 ⟨F',v',he,h2,h3,h4,h5⟩
    have HI:Hid (IB Z w2 B D M L Q X O (addD d (fsOf F) nmI g l).2.1 F' (if (addD d (fsOf F) nmI g l).1=.inl 0 then T++[l] else T) (if (addD d (fsOf F) nmI g l).1=.inl 0 then g+(record l).length else g) v' most s va an sn kp):=hid ((H.out.below HB1.out).log h5 h2 h4)
    have HC:Hid (ICh (FI L D M Q X O F v va) (FI L D M Q X O F' v' va) w w2):=hid ((ICh.of_below HB1.out).trans (.of_wl h5))
    have H3:=hid h3
    clear h2 h3 h4 h5 c1
    generalize addD d (fsOf F) nmI g l=r at *
    obtain ⟨x|op,s2⟩:=r
    · obtain rfl:e=.returned (.int .i64 x):=he
      by_cases hx:x=0
      · subst hx
        have c4:=HI.out.cell 4
        simp only [List.getElem?_toArray,List.getElem?_cons_zero,List.getElem?_cons_succ] at c4
        have f4:=HI.out.frozen 4
        have ew:IntKind.i64.wrap ((kp:Int)+1)=((kp+1:Nat):Int):=by have:=HKP.out;rw [IntKind.wrap_i64];omega
        go_wp2_with (fail)
        go_ret
        rw [HK.out]
        have hcs:Ch (At1 X) w2 (w2.setCell ⟨X,4,none⟩ (.int .i64 ((kp+1:Nat):Int))):=(Ch.refl _ w2).set1 4 _
        refine ⟨F',v',rfl,H3.out,?_,HC.out.trans (.wide hcs (fun k hk=>.inl hk) (fun k hk=>.inl hk) (fun k hk=>.inl hk))⟩
        simp only [if_true]
        exact (by simpa using HI.out:IB _ _ _ _ _ _ _ _ _ _ _ _ _ _ _ _ _ _ _ _).setRow hcs (heap_set_row HI.out.row _)
      · have hxd:decide (x=0)=false:=by simpa using hx
        go_wp2_with (fail)
        go_ret
        rw [HK.out]
        have hxx:¬ ((.inl x:Int ⊕ Int)=.inl 0):=fun e=>hx (by injection e)
        have hi:=HI.out
        simp only [if_neg hxx] at hi
        refine ⟨F',v',by simp [endB,hxd],H3.out,?_,HC.out⟩
        simp only [if_neg hxx]
        exact hi
    · obtain rfl:e=.panicked [{ v:=crashI op,recovered:=false }]:=he
      refine ⟨rfl,?_⟩
      rw [HK.out]
      exact ⟨F',v',rfl,H3.out,HI.out,HC.out⟩
end
end
section
open Go.RowKit Go.MapKept
abbrev TPI:TypeId:=28
abbrev TCH:TypeId:=101
def ansD (l:List UInt8):Int ⊕ Int→List (List UInt8)
  | .inl x=>if (replyD l (decide (x=0))).2=true then [(replyD l (decide (x=0))).1] else []
  | .inr _=>[]
def DPost (Z:Nat→Prop) (B D M L Q X:Nat) (O:Option Nat) (F:List Ent) (T:List (List UInt8)) (g:Nat) (v:Value) (most:Nat) (s:St) (va:Value) (an:List (List UInt8)) (sn kp:Nat) (C cap:Nat) (La:List (List UInt8)) (w:World) (l:List UInt8) (r:Out) (e:Ending) (w':World):Prop :=
  ∃ F' v',e=endU r.1∧fsOf F'=r.2.2∧IB Z w' B D M L Q X O r.2.1 F' (if r.1=.inl 0 then T++[l] else T) (if r.1=.inl 0 then g+(record l).length else g) v' most s va an sn (if r.1=.inl 0 then kp+1 else kp) ∧
    ICh (fun k=>FI L D M Q X O F v va k∨k=C) (fun k=>FI L D M Q X O F' v' va k∨k=C) w w'∧CH false w' C cap (La++ansD l r.1) (FI L D M Q X O F' v' va) Z
theorem ICh.or {A A' R:Nat→Prop} {w w':World} (h:ICh A A' w w'):ICh (fun k=>A k∨R k) (fun k=>A' k∨R k) w w' :=
  .wide h.ch h.foot (fun _ hk=>.inl hk) (fun _ hk=>hk.elim .inr (fun h=>.inl (.inr h)))
section
variable {Z:Nat→Prop} {w:World} {B D M L Q X g sn kp most:Nat} {O:Option Nat} {d:Dk} {F:List Ent} {T:List (List UInt8)} {v va:Value} {s:St} {an:List (List UInt8)}
set_option maxRecDepth 100000 in
set_option maxHeartbeats 4000000 in
theorem mDone (h:IB Z w B D M L Q X O d F T g v most s va an sn kp) (C cap:Nat) (La:List (List UInt8)) (hZC:Z C) (hc:CH false w C cap La (FI L D M Q X O F v va) Z) (hroom:La.length<cap) (BX BA:Nat) (hbx:w.heap[BX]?=some (.cells #[pI X] TPI)) (hba:w.heap[BA]?=some (.cells #[.chan (some C)] TCH)) (hBA:¬ FI L D M Q X O F v va BA)
    (hG:∀ W,Below B w W→Vers W∧Signs W∧Cds W) (ok:FsOk d (fsOf F)) (ho:d.ops+8≤1152921504606846976) (A:Option Addr) (c:Nat) (l:List UInt8) (hl:Bs w A l.length c l) (hln:l.length≤29000)
    (hoff:0<l.length→∀ b,A=some b→¬ FI L D M Q X O F v va b.block) (hg:g≤1099511000000) (hn:T.length≤1099511627770) (hBw:B≤w.heap.size) (hkp:kp≤1099511627770) :
    Calls Tryz.prog 52 #[.slice A l.length c,.pointer (some ⟨BX,0,none⟩),.pointer (some ⟨BA,0,none⟩)] w (DPost Z B D M L Q X O F T g v most s va an sn kp C cap La w l (keepD d (fsOf F) g l)):=by
  have HK:=hid (mKeep h (hG w (Below.refl _ _)).1 ok ho A c l hl (by omega) (fun h0 b hb hk=>hoff h0 b hb (.inr (.inr (.inl (.inl (.inr hk)))))) hg hn hBw hkp)
  have c0:=cell_of_row w BX 0 _ _ _ hbx
  simp only [List.getElem?_toArray,List.getElem?_cons_zero] at c0
  have HF:Hid (∀ k,FI L D M Q X O F v va k→B≤k):=hid (fun k hk=>(h.foot_lt hk).1)
  have HL:=hid hl
  have HLN:=hid hln
  have HOFF:=hid hoff
  have HG:=hid hG
  have HZC:=hid hZC
  have HCH:=hid hc
  have HR:=hid hroom
  have HBA:=hid hba
  have HBAF:=hid hBA
  have HBW:=hid hBw
  clear h hZC hc hroom hbx hba hBA hG ok ho hl hln hoff hg hn hBw hkp
  obtain ⟨r,hr⟩:∃ r,r=keepD d (fsOf F) g l:=⟨_,rfl⟩
  rw [← hr] at HK ⊢
  clear hr
  refine callsN Tryz.func52 rfl ?_
  simp only [Tryz.ntmps52,List.size_toArray,List.length_cons,List.length_nil,Nat.reduceAdd,Nat.reduceSub,Array.replicate_succ,Array.replicate_zero,List.push_toArray,List.append_toArray,List.nil_append,List.cons_append]
  refine wpN_seq ?_
  go_wp2_with (fail)
  refine HK.out.mono ?_
  rintro e w1 ⟨F',v',he,hf,hi,hic⟩
  have HI:=hid hi
  have HIC:=hid hic
  have HFE:=hid hf
  have HB1:Hid (Below B w w1):=hid (hic.ch.below HF.out HBW.out)
  have HCH1:=hid (HCH.out.ich hic)
  clear hi hic hf HK c0
  obtain ⟨x|op,s2⟩:=r
  · obtain rfl:e=.returned (.bool (decide (x=0))):=he
    go_wp2_with (fail)
    refine wpN_seq ?_
    go_wp2_with (fail)
    have hg1:=HG.out w1 HB1.out
    refine (reply_n A l.length c l (decide (x=0)) w1 hg1.1 hg1.2.1 hg1.2.2 (HL.out.ch HIC.out.ch HOFF.out) HLN.out).mono ?_
    rintro e w2 ⟨A2,m2,c2_,rfl,hb2,hn2,hw2⟩
    have HI2:=hid (HI.out.below hw2)
    have HIC2:=hid (HIC.out.trans (.of_below hw2))
    have HCH2:=hid (HCH1.out.below hw2)
    have HB2:=hid hb2
    have HN2:=hid hn2
    have HBA2:Hid (w2.heap[BA]?=some (.cells #[.chan (some C)] TCH)):=hid (HIC2.out.ch.row HBA.out HBAF.out)
    obtain ⟨rd,hrd⟩:∃ rd,rd=replyD l (decide (x=0)):=⟨_,rfl⟩
    have HRD:=hid hrd
    rw [← hrd] at HB2 ⊢
    have HFL:Hid (∀ k,FI L D M Q X O F' v' va k→k<w1.heap.size):=hid (fun k hk=>(HI.out.foot_lt hk).2)
    have HZL:Hid (∀ k,Z k→k<w1.heap.size):=hid (fun k hk=>(HI.out.zl k hk).1)
    clear hb2 hn2 hw2 hg1 hrd HI HIC HCH1
    obtain ⟨ra,rk⟩:=rd
    cases rk
    · go_wp2_with (fail)
      refine wpN_seq ?_
      go_wp2_with (fail)
      refine wpN_cond rfl ?_
      refine wpN_of ?_
      go_wp2_with (fail)
      go_end0
      have ha:ansD l (.inl x)=[]:=by
        show (if (replyD l (decide (x=0))).2=true then [(replyD l (decide (x=0))).1] else [])=_
        rw [← HRD.out];rfl
      refine ⟨F',v',rfl,HFE.out,HI2.out,HIC2.out.or,?_⟩
      rw [ha,List.append_nil]
      exact HCH2.out
    · go_wp2_with (fail)
      refine wpN_seq ?_
      go_wp2_with (fail)
      refine wpN_cond rfl ?_
      refine wpN_region ?_
      show opsN _ _ _ [0,1,2] _ _
      have c2:=cell_of_row w2 BA 0 _ _ _ HBA2.out
      simp only [List.getElem?_toArray,List.getElem?_cons_zero] at c2
      refine opsN_value (o:=⟨some 17,_,_,_,_,_⟩) (v:=.chan (some C)) (w':=w2) rfl (by kernel_rfl) (by go_simp) ?_
      simp only [Act.put,List.setIfInBounds_toArray,List.set_cons_succ,List.set_cons_zero]
      refine opsN_value (o:=⟨some 18,_,_,_,_,_⟩) (v:=.slice A2 m2 c2_) (w':=w2) rfl (by kernel_rfl) (by go_simp) ?_
      simp only [Act.put,List.setIfInBounds_toArray,List.set_cons_succ,List.set_cons_zero]
      have hml:=HB2.out.len
      subst hml
      obtain ⟨vs,ss,rr,hcw,hvl,hch⟩:=HCH2.out.send HZC.out HB2.out (fun h0 b hb=>⟨fun hf=>by have:=HN2.out b hb;have:=HFL.out _ hf;omega,fun hz=>by have:=HN2.out b hb;have:=HZL.out _ hz;omega⟩)
      refine opsN_comm (o:=⟨none,_,_,_,_,_⟩) (cases:=#[Go.Conc.scase C (.slice A2 ra.length c2_) (.tuple #[])]) (shape:=.send) (w1:=w2) (w2:=w2.setChan C cap (vs.toArray.push (.slice A2 ra.length c2_)) false (ss+1) rr false) rfl (by kernel_rfl) (by go_simp;rfl) (fun fr cs es h=>Go.Conc.step_lone_send_room h hcw (by simp;have:=HR.out;omega)) ?_
      refine opsN_nil ?_
      go_end0
      have ha:ansD l (.inl x)=[ra]:=by
        show (if (replyD l (decide (x=0))).2=true then [(replyD l (decide (x=0))).1] else [])=_
        rw [← HRD.out];rfl
      have hcc:=ch_chan w2 C cap (vs.toArray.push (.slice A2 ra.length c2_)) false (ss+1) rr false
      refine ⟨F',v',rfl,HFE.out,HI2.out.zch hcc (fun k hk=>by rw [show k=C from hk];exact HZC.out),HIC2.out.or.trans (.wide hcc (R':=fun _=>False) (fun _ h=>h.elim) (fun k hk=>.inr hk) (fun k hk=>.inl hk)),?_⟩
      rw [ha]
      exact hch
  · obtain rfl:e=.panicked [{ v:=crashI op,recovered:=false }]:=he
    refine ⟨rfl,F',v',rfl,HFE.out,HI.out,HIC.out.or,?_⟩
    rw [show ansD l (.inr op)=[] from rfl,List.append_nil]
    exact HCH1.out
end
end
end Go.Proofs.YtodjilljcjkacaaGreatDoor
