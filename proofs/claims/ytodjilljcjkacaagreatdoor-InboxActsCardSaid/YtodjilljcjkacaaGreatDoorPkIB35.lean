/- Laid together: Ref11I. -/
import Derived.Test.YtodjilljcjkacaaGreatDoorPkIB34

namespace Go.Proofs.YtodjilljcjkacaaGreatDoor
open Lib (hid)
section
open Go.RowKit
theorem seg1_nil:seg1 []=[]:=by rfl
theorem seg1_cons (x:UInt8) (l:List UInt8):seg1 (x :: l)=if x=13 then [] else x :: seg1 l:=by
  split
  · rename_i h
    subst h
    exact seg1_front (m:=[]) (by simp) l
  · rename_i h
    rcases seg1_cases l with ⟨h1,h2⟩|⟨r,h1,h2⟩
    · rw [h2,seg1_none]
      intro hm
      rcases List.mem_cons.1 hm with e|e
      · exact h e.symm
      · exact h1 e
    · obtain ⟨m,hm⟩:∃ m,m=seg1 l:=⟨_,rfl⟩
      rw [← hm] at h1 h2 ⊢
      rw [h2]
      exact seg1_front (m:=x :: m) (by
        intro hm
        rcases List.mem_cons.1 hm with e|e
        · exact h e.symm
        · exact h1 e) r
theorem seg_scan (l:List UInt8):∃ j,j≤l.length∧(∀ i,i<j→∃ x,l[i]?=some x∧x≠13∧x≠28) ∧
    (((28:UInt8) ∈ seg1 l∧l[j]?=some 28)∨((28:UInt8) ∉ seg1 l∧(j=l.length∨l[j]?=some 13))):=by
  induction l with
  | nil=>exact ⟨0,Nat.le_refl _,fun i hi=>absurd hi (by omega),.inr ⟨by rw [seg1_nil];simp,.inl rfl⟩⟩
  | cons x l ih =>
    rw [seg1_cons]
    by_cases h13:x=13
    · subst h13
      exact ⟨0,by simp,fun i hi=>absurd hi (by omega),.inr ⟨by simp,.inr rfl⟩⟩
    rw [if_neg h13]
    by_cases h28:x=28
    · subst h28
      exact ⟨0,by simp,fun i hi=>absurd hi (by omega),.inl ⟨by simp,rfl⟩⟩
    obtain ⟨j,hj,hi,hr⟩:=ih
    refine ⟨j+1,by simpa using hj,fun i hlt=>?_,?_⟩
    · cases i with
      | zero=>exact ⟨x,rfl,h13,h28⟩
      | succ i=>exact hi i (by omega)
    · rcases hr with ⟨h1,h2⟩|⟨h1,h2⟩
      · exact .inl ⟨List.mem_cons_of_mem _ h1,h2⟩
      · refine .inr ⟨fun hm=>?_,?_⟩
        · rcases List.mem_cons.1 hm with e|e
          · exact h28 e.symm
          · exact h1 e
        · rcases h2 with e|e
          · exact .inl (by rw [e];rfl)
          · exact .inr e
set_option maxRecDepth 100000 in
set_option maxHeartbeats 4000000 in
theorem refVerdict11 (A:Option Addr) (n c:Nat) (l:List UInt8) (w:World) (hB:Bs w A n c l) (hn:n≤1000000) :
    Calls Tryz.prog 56 #[.slice A n c] w fun e w'=>e=.returned (.tuple #[(verdictD l).1.v,.string (verdictD l).2.1,.int .i64 (verdictD l).2.2])∧Below w.heap.size w w':=by
  have HN:=hid hn
  have HL:=hid hB.len
  have HZ0:Hid (BoxH Hd.zero w.heap.size (w.alloc (.cells Hd.zero.cells TH))):=hid (BoxH.new _ w)
  have HB0:Hid (Below w.heap.size w (w.alloc (.cells Hd.zero.cells TH))):=hid (boxHd_below _ w)
  have HBS:=hid (hB.below (boxHd_below Hd.zero w))
  clear hB hn
  go_enter Tryz.func56,Tryz.ntmps56
  go_wp2_with (fail)
  generalize hw0:w.alloc (.cells #[.int .u8 0,.int .u8 0,.int .u8 0,.int .u8 0,.int .u8 0,.string ⟨#[]⟩,.string ⟨#[]⟩,.string ⟨#[]⟩,.string ⟨#[]⟩,.string ⟨#[]⟩,.string ⟨#[]⟩,.string ⟨#[]⟩,.string ⟨#[]⟩,.string ⟨#[]⟩,.string ⟨#[]⟩] TH)=w0
  rw [show w.alloc (.cells Hd.zero.cells TH)=w0 from hw0] at HZ0 HB0 HBS
  clear hw0
  refine (refRead09 A n c l w0 HBS.out HN.out).mono ?_
  rintro e w1 ⟨rfl,hb1⟩
  have HZ1:=hid (HZ0.out.below hb1)
  have HB1:=hid (HB0.out.trans (hb1.mono HB0.out.size))
  have HBS1:=hid (HBS.out.below hb1)
  clear hb1 HZ0 HBS HB0
  have HVD:Hid (verdictD l=if (readH l).2=0 then if (28:UInt8) ∈ seg1 l then (Hd.zero,⟨#[]⟩,10) else ((readH l).1,codeOf (checkD (readH l).1),checkD (readH l).1) else (Hd.zero,⟨#[]⟩,(readH l).2)):=hid rfl
  have HKS:Hid (readH l=((readH l).1,0)→(readH l).1.a8.size≤n∧(readH l).1.a9.size≤n):=hid (fun hr=>by
    have t:=sum_le_of (read_stands hr).2.2
    rw [HL.out] at t
    exact ⟨t.1,t.2.1⟩)
  obtain ⟨h,hh⟩:∃ h,h=(readH l).1:=⟨_,rfl⟩
  obtain ⟨x,hx⟩:∃ x,x=(readH l).2:=⟨_,rfl⟩
  have HPR:Hid (readH l=(h,x)):=hid (by rw [hh,hx])
  rw [← hh,← hx] at HVD ⊢
  rw [← hh] at HKS
  clear hh hx
  have HX2:Hid (BoxH h w1.heap.size (w1.alloc (.cells h.cells TH))):=hid (BoxH.new h w1)
  have HZ2:Hid (BoxH Hd.zero w.heap.size (w1.alloc (.cells h.cells TH))):=hid (HZ1.out.below (boxHd_below h w1))
  have HB2:Hid (Below w.heap.size w (w1.alloc (.cells h.cells TH))):=hid (HB1.out.alloc HB1.out.size _)
  have HBS2:Hid (Bs (w1.alloc (.cells h.cells TH)) A n c l):=hid (HBS1.out.alloc _)
  by_cases he:x=0
  · subst he
    rw [if_pos rfl] at HVD
    have HK2:=hid (HKS.out HPR.out)
    clear HKS
    go_wp2_with (fail)
    obtain ⟨G,hG⟩:∃ G,G=w1.heap.size:=⟨_,rfl⟩
    rw [← hG] at HX2 ⊢
    clear hG
    generalize w1.alloc (.cells #[u8 h.d.a,u8 h.d.b,u8 h.d.c,u8 h.d.d,u8 h.d.e,.string h.a0,.string h.a1,.string h.a2,.string h.a3,.string h.a4,.string h.a5,.string h.a6,.string h.a7,.string h.a8,.string h.a9] TH)=w2 at *
    clear HZ1 HB1 HBS1
    obtain ⟨j,hj,hbef,hat⟩:=seg_scan l
    rw [HL.out] at hj hat
    have HJ:=hid hbef
    have HAT:=hid hat
    have hn:=HN.out
    clear hbef hat
    go_loop [7] (fun i=>∃ k:Nat,k≤j∧i=.int .i64 k) (fun i=>n-(intOf i).toNat)
    case atStart=>exact ⟨0,Nat.zero_le _,rfl⟩
    case round =>
      obtain ⟨k,hk,rfl⟩:=hrel
      by_cases hlt:k<j
      · as_aux_lemma =>
        obtain ⟨x,e1,e2,e3⟩:=HJ.out k hlt
        obtain ⟨b,o,rfl,hb,hc⟩:=HBS2.out.at_ (by omega)
        have hcell:=hc k x e1
        have g1:=u8_bne (x:=x) (k:=13) 13 rfl e2
        have g2:=u8_ne (x:=x) (k:=28) 28 rfl e3
        have hkn:k<n:=by omega
        clear hc hb e1 e2 e3
        go_wp2_with (fail)
        go_round
        case rel=>exact ⟨k+1,by omega,by go_num⟩
        case measure=>simp [intOf];omega
      obtain rfl:k=j:=by omega
      clear hlt
      rcases HAT.out with ⟨h28,e28⟩|⟨h28,e13⟩
      · as_aux_lemma =>
        have HE:Hid (verdictD l=(Hd.zero,⟨#[]⟩,10)):=hid (by rw [HVD.out,if_pos h28])
        have hkn:k<n:=by have:=(List.getElem?_eq_some_iff.1 e28).1;have:=HL.out;omega
        obtain ⟨b,o,rfl,hb,hc⟩:=HBS2.out.at_ (by omega)
        have hcell:=hc k _ e28
        clear hc hb e28 h28
        go_wp2_with (with_reducible refine wpList_storeH w.heap.size Hd.zero Hd.zero (by kernel_rfl) (by kernel_rfl) HZ2.out ?_)
        have HR:=hid (HZ2.out.setRow Hd.zero)
        have HBR:=hid (below_setRow HB2.out (Nat.le_refl _) Hd.zero.cells)
        generalize w2.setRow w.heap.size Hd.zero.cells=w5 at *
        refine bodyPost_ret (v:=.tuple #[Hd.zero.v,.string ⟨#[]⟩,.int .i64 10]) ?_ rfl ⟨by rw [HE.out],HBR.out⟩
        exact resultsH3 Tryz.results56 _ _ _ _ _ _ (by kernel_rfl) (by kernel_rfl) (by kernel_rfl) HR.out
      · have HE:Hid (verdictD l=(h,codeOf (checkD h),checkD h)):=hid (by rw [HVD.out,if_neg h28])
        have HN':=hn
        rcases e13 with e13|e13
        · as_aux_lemma =>
          have hnl:¬ k<n:=by omega
          clear e13 h28
          go_wp2_with (with_reducible refine wpList_loadHG G h (by kernel_rfl) (by kernel_rfl) HX2.out ?_)
          refine (refCheck09 h w2 (by have:=HK2.out.1;have:=HN.out;omega) (by have:=HK2.out.2;have:=HN.out;omega)).mono ?_
          rintro e w5 ⟨rfl,hb5⟩
          have HX5:=hid (HX2.out.below hb5)
          have HZ5:=hid (HZ2.out.below hb5)
          have HB5:=hid (HB2.out.trans (hb5.mono HB2.out.size))
          have HCC:=hid (checkD_cases h)
          clear hb5
          obtain ⟨K,hK⟩:∃ K,K=checkD h:=⟨_,rfl⟩
          rw [← hK] at HE HCC ⊢
          clear hK
          rcases HCC.out with rfl|rfl|rfl|rfl
          · as_aux_lemma =>
            go_wp2_with (first | (with_reducible refine wpList_loadHG G h (by kernel_rfl) (by kernel_rfl) HX5.out ?_) | (with_reducible refine wpList_storeH w.heap.size h Hd.zero (by kernel_rfl) (by kernel_rfl) HZ5.out ?_))
            have HR:=hid (HZ5.out.setRow h)
            have HBR:=hid (below_setRow HB5.out (Nat.le_refl _) h.cells)
            generalize w5.setRow w.heap.size h.cells=w6 at *
            refine bodyPost_ret (v:=.tuple #[h.v,.string (cB 0),.int .i64 0]) ?_ rfl ⟨by rw [HE.out];rfl,HBR.out⟩
            exact resultsH3 Tryz.results56 _ _ _ _ _ _ (by kernel_rfl) (by kernel_rfl) (by kernel_rfl) HR.out
          · as_aux_lemma =>
            go_wp2_with (first | (with_reducible refine wpList_loadHG G h (by kernel_rfl) (by kernel_rfl) HX5.out ?_) | (with_reducible refine wpList_storeH w.heap.size h Hd.zero (by kernel_rfl) (by kernel_rfl) HZ5.out ?_))
            have HR:=hid (HZ5.out.setRow h)
            have HBR:=hid (below_setRow HB5.out (Nat.le_refl _) h.cells)
            generalize w5.setRow w.heap.size h.cells=w6 at *
            refine bodyPost_ret (v:=.tuple #[h.v,.string (cB 1),.int .i64 14]) ?_ rfl ⟨by rw [HE.out];rfl,HBR.out⟩
            exact resultsH3 Tryz.results56 _ _ _ _ _ _ (by kernel_rfl) (by kernel_rfl) (by kernel_rfl) HR.out
          · as_aux_lemma =>
            go_wp2_with (first | (with_reducible refine wpList_loadHG G h (by kernel_rfl) (by kernel_rfl) HX5.out ?_) | (with_reducible refine wpList_storeH w.heap.size h Hd.zero (by kernel_rfl) (by kernel_rfl) HZ5.out ?_))
            have HR:=hid (HZ5.out.setRow h)
            have HBR:=hid (below_setRow HB5.out (Nat.le_refl _) h.cells)
            generalize w5.setRow w.heap.size h.cells=w6 at *
            refine bodyPost_ret (v:=.tuple #[h.v,.string (cB 2),.int .i64 12]) ?_ rfl ⟨by rw [HE.out];rfl,HBR.out⟩
            exact resultsH3 Tryz.results56 _ _ _ _ _ _ (by kernel_rfl) (by kernel_rfl) (by kernel_rfl) HR.out
          · as_aux_lemma =>
            go_wp2_with (first | (with_reducible refine wpList_loadHG G h (by kernel_rfl) (by kernel_rfl) HX5.out ?_) | (with_reducible refine wpList_storeH w.heap.size h Hd.zero (by kernel_rfl) (by kernel_rfl) HZ5.out ?_))
            have HR:=hid (HZ5.out.setRow h)
            have HBR:=hid (below_setRow HB5.out (Nat.le_refl _) h.cells)
            generalize w5.setRow w.heap.size h.cells=w6 at *
            refine bodyPost_ret (v:=.tuple #[h.v,.string (cB 2),.int .i64 13]) ?_ rfl ⟨by rw [HE.out];rfl,HBR.out⟩
            exact resultsH3 Tryz.results56 _ _ _ _ _ _ (by kernel_rfl) (by kernel_rfl) (by kernel_rfl) HR.out
        · as_aux_lemma =>
          have hkn:k<n:=by have:=(List.getElem?_eq_some_iff.1 e13).1;have:=HL.out;omega
          obtain ⟨b,o,rfl,hb,hc⟩:=HBS2.out.at_ (by omega)
          have hcell:=hc k _ e13
          clear hc hb e13 h28
          go_wp2_with (with_reducible refine wpList_loadHG G h (by kernel_rfl) (by kernel_rfl) HX2.out ?_)
          refine (refCheck09 h w2 (by have:=HK2.out.1;have:=HN.out;omega) (by have:=HK2.out.2;have:=HN.out;omega)).mono ?_
          rintro e w5 ⟨rfl,hb5⟩
          have HX5:=hid (HX2.out.below hb5)
          have HZ5:=hid (HZ2.out.below hb5)
          have HB5:=hid (HB2.out.trans (hb5.mono HB2.out.size))
          have HCC:=hid (checkD_cases h)
          clear hb5
          obtain ⟨K,hK⟩:∃ K,K=checkD h:=⟨_,rfl⟩
          rw [← hK] at HE HCC ⊢
          clear hK
          rcases HCC.out with rfl|rfl|rfl|rfl
          · as_aux_lemma =>
            go_wp2_with (first | (with_reducible refine wpList_loadHG G h (by kernel_rfl) (by kernel_rfl) HX5.out ?_) | (with_reducible refine wpList_storeH w.heap.size h Hd.zero (by kernel_rfl) (by kernel_rfl) HZ5.out ?_))
            have HR:=hid (HZ5.out.setRow h)
            have HBR:=hid (below_setRow HB5.out (Nat.le_refl _) h.cells)
            generalize w5.setRow w.heap.size h.cells=w6 at *
            refine bodyPost_ret (v:=.tuple #[h.v,.string (cB 0),.int .i64 0]) ?_ rfl ⟨by rw [HE.out];rfl,HBR.out⟩
            exact resultsH3 Tryz.results56 _ _ _ _ _ _ (by kernel_rfl) (by kernel_rfl) (by kernel_rfl) HR.out
          · as_aux_lemma =>
            go_wp2_with (first | (with_reducible refine wpList_loadHG G h (by kernel_rfl) (by kernel_rfl) HX5.out ?_) | (with_reducible refine wpList_storeH w.heap.size h Hd.zero (by kernel_rfl) (by kernel_rfl) HZ5.out ?_))
            have HR:=hid (HZ5.out.setRow h)
            have HBR:=hid (below_setRow HB5.out (Nat.le_refl _) h.cells)
            generalize w5.setRow w.heap.size h.cells=w6 at *
            refine bodyPost_ret (v:=.tuple #[h.v,.string (cB 1),.int .i64 14]) ?_ rfl ⟨by rw [HE.out];rfl,HBR.out⟩
            exact resultsH3 Tryz.results56 _ _ _ _ _ _ (by kernel_rfl) (by kernel_rfl) (by kernel_rfl) HR.out
          · as_aux_lemma =>
            go_wp2_with (first | (with_reducible refine wpList_loadHG G h (by kernel_rfl) (by kernel_rfl) HX5.out ?_) | (with_reducible refine wpList_storeH w.heap.size h Hd.zero (by kernel_rfl) (by kernel_rfl) HZ5.out ?_))
            have HR:=hid (HZ5.out.setRow h)
            have HBR:=hid (below_setRow HB5.out (Nat.le_refl _) h.cells)
            generalize w5.setRow w.heap.size h.cells=w6 at *
            refine bodyPost_ret (v:=.tuple #[h.v,.string (cB 2),.int .i64 12]) ?_ rfl ⟨by rw [HE.out];rfl,HBR.out⟩
            exact resultsH3 Tryz.results56 _ _ _ _ _ _ (by kernel_rfl) (by kernel_rfl) (by kernel_rfl) HR.out
          · as_aux_lemma =>
            go_wp2_with (first | (with_reducible refine wpList_loadHG G h (by kernel_rfl) (by kernel_rfl) HX5.out ?_) | (with_reducible refine wpList_storeH w.heap.size h Hd.zero (by kernel_rfl) (by kernel_rfl) HZ5.out ?_))
            have HR:=hid (HZ5.out.setRow h)
            have HBR:=hid (below_setRow HB5.out (Nat.le_refl _) h.cells)
            generalize w5.setRow w.heap.size h.cells=w6 at *
            refine bodyPost_ret (v:=.tuple #[h.v,.string (cB 2),.int .i64 13]) ?_ rfl ⟨by rw [HE.out];rfl,HBR.out⟩
            exact resultsH3 Tryz.results56 _ _ _ _ _ _ (by kernel_rfl) (by kernel_rfl) (by kernel_rfl) HR.out
  · as_aux_lemma =>
    rw [if_neg he] at HVD
    have de2:(x != 0)=true:=by simpa using he
    clear he
    go_wp2_with (with_reducible refine wpList_storeH w.heap.size Hd.zero Hd.zero (by kernel_rfl) (by kernel_rfl) HZ2.out ?_)
    have HR:=hid (HZ2.out.setRow Hd.zero)
    have HBR:=hid (below_setRow HB2.out (Nat.le_refl _) Hd.zero.cells)
    generalize World.setRow (w1.alloc (.cells h.cells TH)) w.heap.size Hd.zero.cells=w5 at *
    refine bodyPost_ret (v:=.tuple #[Hd.zero.v,.string ⟨#[]⟩,.int .i64 x]) ?_ rfl ⟨by rw [HVD.out],HBR.out⟩
    exact resultsH3 Tryz.results56 _ _ _ _ _ _ (by kernel_rfl) (by kernel_rfl) (by kernel_rfl) HR.out
def RetBBf (w:World) (r:List UInt8 × Bool) (e:Ending) (w':World):Prop :=
  ∃ A m c,e=.returned (.tuple #[.slice A m c,.bool r.2])∧Bs w' A m c r.1∧Below w.heap.size w w'∧∀ b,A=some b→w.heap.size≤b.block
theorem RetBBf.none_ {w w':World} {r:List UInt8 × Bool} (h:r=([],false)) (hb:Below w.heap.size w w'):RetBBf w r (.returned (.tuple #[.slice none 0 0,.bool false])) w':=by
  subst h
  exact ⟨none,0,0,rfl,Bs.none_ _,hb,fun b hb=>by cases hb⟩
set_option maxRecDepth 100000 in
set_option maxHeartbeats 4000000 in
theorem refReply11 (A:Option Addr) (n c:Nat) (l:List UInt8) (kept:Bool) (w:World) (hB:Bs w A n c l) (hn:n≤29000) :
    Calls Tryz.prog 58 #[.slice A n c,.bool kept] w (RetBBf w (replyD l kept)):=by
  have HN:=hid hn
  have HL:=hid hB.len
  have HBS:=hid hB
  go_enter Tryz.func58,Tryz.ntmps58
  go_wp2_with (fail)
  refine (refVerdict11 A n c l w hB (by omega)).mono ?_
  rintro e w1 ⟨rfl,hb1⟩
  have HB1:=hid hb1
  have HBS1:=hid (HBS.out.below hb1)
  clear hb1 hB hn HBS
  by_cases hcode:(verdictD l).2.1=⟨#[]⟩
  · as_aux_lemma =>
    have HR:Hid (replyD l kept=([],false)):=hid (if_pos (.inl hcode))
    rw [hcode]
    obtain ⟨g,hg⟩:∃ g,g=(verdictD l).1:=⟨_,rfl⟩
    obtain ⟨K,hK⟩:∃ K,K=(verdictD l).2.2:=⟨_,rfl⟩
    rw [← hg,← hK]
    clear hg hK hcode
    have HB2:Hid (Below w.heap.size w (w1.alloc (.cells g.cells TH))):=hid (HB1.out.alloc HB1.out.size _)
    go_wp2_with (fail)
    go_ret2
    exact RetBBf.none_ HR.out HB2.out
  · obtain ⟨g,hr,h28,hvd⟩:=verdict_some hcode
    have HRP:Hid (replyD l kept=if (verdictD l).2.1=⟨#[]⟩∨good l=false then ([],false) else (11 :: ((buildD (verdictD l).1 (if (verdictD l).2.1=cB 0∧kept=false then cB 1 else (verdictD l).2.1)).1++[28,13]),true)):=hid rfl
    rw [hvd] at HRP ⊢
    obtain ⟨cne,ccd,csz⟩:=codeOf_ne (checkD g)
    have ce:=code_isEmpty (checkD g)
    obtain ⟨K,hK⟩:∃ K,K=checkD g:=⟨_,rfl⟩
    rw [← hK] at HRP cne ccd csz ce ⊢
    obtain ⟨cd,hcd⟩:∃ cd,cd=codeOf K:=⟨_,rfl⟩
    rw [← hcd] at HRP cne ccd csz ce ⊢
    have HCD:=hid (And.intro ccd csz)
    have HSU:Hid (g.sum≤290000):=hid (by
      have t:=(sum_le_of (read_stands hr).2.2).2.2
      rw [← Hd.sum_eq,HL.out] at t
      have:=HN.out
      omega)
    have HAG:=hid (fun (hl:good l=true) (c':ByteArray) (hc':codeD c'=true)=>answer_good hr h28 hl hc')
    have HX2:Hid (BoxH g w1.heap.size (w1.alloc (.cells g.cells TH))):=hid (BoxH.new g w1)
    have HB2:Hid (Below w.heap.size w (w1.alloc (.cells g.cells TH))):=hid (HB1.out.alloc HB1.out.size _)
    have HBS2:Hid (Bs (w1.alloc (.cells g.cells TH)) A n c l):=hid (HBS1.out.alloc _)
    have HCN:=hid cne
    clear hK hcd ccd csz hr h28 hvd hcode cne
    go_wp2_with (fail)
    obtain ⟨G,hG⟩:∃ G,G=w1.heap.size:=⟨_,rfl⟩
    rw [← hG] at HX2 ⊢
    clear hG HB1 HBS1
    generalize w1.alloc (.cells #[u8 g.d.a,u8 g.d.b,u8 g.d.c,u8 g.d.d,u8 g.d.e,.string g.a0,.string g.a1,.string g.a2,.string g.a3,.string g.a4,.string g.a5,.string g.a6,.string g.a7,.string g.a8,.string g.a9] TH)=w2 at *
    refine (refGood A n c l w2 HBS2.out (good l) rfl).mono ?_
    rintro e w3 ⟨rfl,rfl⟩
    have HX3:=hid HX2.out
    have HB3:=hid HB2.out
    clear HX2 HB2 HBS2 ce
    cases hgl:good l
    · as_aux_lemma =>
      have HR:Hid (replyD l kept=([],false)):=hid (by rw [HRP.out,if_pos (.inr hgl)])
      clear hgl
      go_wp2_with (fail)
      go_ret2
      exact RetBBf.none_ HR.out HB3.out
    · have HA2:=hid (HAG.out hgl)
      have HR:Hid (replyD l kept=(11 :: ((buildD g (if cd=cB 0∧kept=false then cB 1 else cd)).1++[28,13]),true)):=hid (by
        rw [HRP.out,if_neg]
        rintro (h|h)
        · exact HCN.out h
        · rw [hgl] at h;cases h)
      clear HAG HRP hgl
      have hd:=code_eq0 cd
      cases hdd:decide (cd=cB 0)
      · as_aux_lemma =>
        rw [hdd] at hd
        have hnc:cd≠cB 0:=of_decide_eq_false hdd
        have HNC:=hid hnc
        clear hdd hnc
        have HR2:Hid (replyD l kept=(11 :: ((buildD g cd).1++[28,13]),true)):=hid (by rw [HR.out,if_neg (fun h=>HNC.out h.1)])
        obtain ⟨hbu,hgd⟩:=HA2.out cd HCD.out.1
        have HGD:=hid hgd
        have HBU2:Hid ((buildD g cd).2=0):=hid (by rw [hbu])
        have HBL:=hid (buildD_len g cd)
        clear hbu hgd
        go_wp2_with (with_reducible refine wpList_loadHG G g (by kernel_rfl) (by kernel_rfl) HX3.out ?_)
        refine (refBuild10 g cd w2 (by have:=HSU.out;omega) (by rw [HCD.out.2];decide)).mono ?_
        rintro e w4 ⟨rfl,hb4⟩
        have HB4:=hid (HB3.out.trans (hb4.mono HB3.out.size))
        clear hb4 HX3 HB3
        rw [HBU2.out]
        obtain ⟨X,hX⟩:∃ X,X=(buildD g cd).1:=⟨_,rfl⟩
        rw [← hX] at HR2 HGD HBL ⊢
        clear hX
        obtain ⟨N,hN⟩:∃ N,N=X.length:=⟨_,rfl⟩
        have HNN:Hid (N≤1000000):=hid (by rw [hN];have:=HBL.out;have:=HSU.out;have h2:=HCD.out.2;have h3:(cB 1).size=2:=rfl;omega)
        obtain ⟨cap5,w5,hrun5,hC5,hb5⟩:=conv_list (P:=Tryz.prog) w4 9 40 5 X N Tryz.underlying9 Tryz.underlying40 Tryz.underlying5 hN.symm (Nat.le_trans HNN.out (by decide))
        have HB5:=hid (HB4.out.trans (hb5.mono HB4.out.size))
        have HC5:=hid hC5
        clear hN HBL hb5 hC5
        go_wp2_with (fail)
        refine (refWrap (some ⟨w4.heap.size,0,none⟩) N cap5 X w5 HC5.out.bs (by have:=HNN.out;omega)).mono ?_
        rintro e w6 ⟨A6,c6,rfl,hB6,hb6,hf6⟩
        rw [show ((11:UInt8) :: (X++[28,13])).length=X.length+2+1 from by simp] at hB6 ⊢
        obtain ⟨N5,hN5⟩:∃ N5,N5=X.length+2+1:=⟨_,rfl⟩
        rw [← hN5] at hB6 ⊢
        clear hN5
        have HB6:=hid (HB5.out.trans (hb6.mono HB5.out.size))
        have HX6:=hid hB6;have HF6:=hid (fun b (hb:A6=some b)=>Nat.le_trans HB5.out.size (hf6 b hb));clear hf6
        clear hb6 hB6 hrun5
        go_wp2_with (fail)
        go_ret2
        exact ⟨A6,N5,c6,by rw [HR2.out];rfl,by rw [HR2.out];exact HX6.out,HB6.out,HF6.out⟩
      · have HYC:=hid (of_decide_eq_true hdd)
        rw [hdd] at hd
        clear hdd
        cases kept
        · as_aux_lemma =>
          have HR2:Hid (replyD l false=(11 :: ((buildD g (cB 1)).1++[28,13]),true)):=hid (by rw [HR.out,if_pos ⟨HYC.out,by trivial⟩])
          obtain ⟨hbu,hgd⟩:=HA2.out (cB 1) (by decide +kernel)
          have HGD:=hid hgd
          have HBU2:Hid ((buildD g (cB 1)).2=0):=hid (by rw [hbu])
          have HBL:=hid (buildD_len g (cB 1))
          clear hbu hgd
          go_wp2_with (with_reducible refine wpList_loadHG G g (by kernel_rfl) (by kernel_rfl) HX3.out ?_)
          refine (refBuild10 g (cB 1) w2 (by have:=HSU.out;omega) (by decide)).mono ?_
          rintro e w4 ⟨rfl,hb4⟩
          have HB4:=hid (HB3.out.trans (hb4.mono HB3.out.size))
          clear hb4 HX3 HB3
          rw [HBU2.out]
          obtain ⟨X,hX⟩:∃ X,X=(buildD g (cB 1)).1:=⟨_,rfl⟩
          rw [← hX] at HR2 HGD HBL ⊢
          clear hX
          obtain ⟨N,hN⟩:∃ N,N=X.length:=⟨_,rfl⟩
          have HNN:Hid (N≤1000000):=hid (by rw [hN];have:=HBL.out;have:=HSU.out;have h2:=HCD.out.2;have h3:(cB 1).size=2:=rfl;omega)
          obtain ⟨cap5,w5,hrun5,hC5,hb5⟩:=conv_list (P:=Tryz.prog) w4 9 40 5 X N Tryz.underlying9 Tryz.underlying40 Tryz.underlying5 hN.symm (Nat.le_trans HNN.out (by decide))
          have HB5:=hid (HB4.out.trans (hb5.mono HB4.out.size))
          have HC5:=hid hC5
          clear hN HBL hb5 hC5
          go_wp2_with (fail)
          refine (refWrap (some ⟨w4.heap.size,0,none⟩) N cap5 X w5 HC5.out.bs (by have:=HNN.out;omega)).mono ?_
          rintro e w6 ⟨A6,c6,rfl,hB6,hb6,hf6⟩
          rw [show ((11:UInt8) :: (X++[28,13])).length=X.length+2+1 from by simp] at hB6 ⊢
          obtain ⟨N5,hN5⟩:∃ N5,N5=X.length+2+1:=⟨_,rfl⟩
          rw [← hN5] at hB6 ⊢
          clear hN5
          have HB6:=hid (HB5.out.trans (hb6.mono HB5.out.size))
          have HX6:=hid hB6;have HF6:=hid (fun b (hb:A6=some b)=>Nat.le_trans HB5.out.size (hf6 b hb));clear hf6
          clear hb6 hB6 hrun5
          go_wp2_with (fail)
          go_ret2
          exact ⟨A6,N5,c6,by rw [HR2.out];rfl,by rw [HR2.out];exact HX6.out,HB6.out,HF6.out⟩
        · as_aux_lemma =>
          have HR2:Hid (replyD l true=(11 :: ((buildD g cd).1++[28,13]),true)):=hid (by rw [HR.out,if_neg (fun h=>by simp at h)])
          obtain ⟨hbu,hgd⟩:=HA2.out cd HCD.out.1
          have HGD:=hid hgd
          have HBU2:Hid ((buildD g cd).2=0):=hid (by rw [hbu])
          have HBL:=hid (buildD_len g cd)
          clear hbu hgd
          go_wp2_with (with_reducible refine wpList_loadHG G g (by kernel_rfl) (by kernel_rfl) HX3.out ?_)
          refine (refBuild10 g cd w2 (by have:=HSU.out;omega) (by rw [HCD.out.2];decide)).mono ?_
          rintro e w4 ⟨rfl,hb4⟩
          have HB4:=hid (HB3.out.trans (hb4.mono HB3.out.size))
          clear hb4 HX3 HB3
          rw [HBU2.out]
          obtain ⟨X,hX⟩:∃ X,X=(buildD g cd).1:=⟨_,rfl⟩
          rw [← hX] at HR2 HGD HBL ⊢
          clear hX
          obtain ⟨N,hN⟩:∃ N,N=X.length:=⟨_,rfl⟩
          have HNN:Hid (N≤1000000):=hid (by rw [hN];have:=HBL.out;have:=HSU.out;have h2:=HCD.out.2;have h3:(cB 1).size=2:=rfl;omega)
          obtain ⟨cap5,w5,hrun5,hC5,hb5⟩:=conv_list (P:=Tryz.prog) w4 9 40 5 X N Tryz.underlying9 Tryz.underlying40 Tryz.underlying5 hN.symm (Nat.le_trans HNN.out (by decide))
          have HB5:=hid (HB4.out.trans (hb5.mono HB4.out.size))
          have HC5:=hid hC5
          clear hN HBL hb5 hC5
          go_wp2_with (fail)
          refine (refWrap (some ⟨w4.heap.size,0,none⟩) N cap5 X w5 HC5.out.bs (by have:=HNN.out;omega)).mono ?_
          rintro e w6 ⟨A6,c6,rfl,hB6,hb6,hf6⟩
          rw [show ((11:UInt8) :: (X++[28,13])).length=X.length+2+1 from by simp] at hB6 ⊢
          obtain ⟨N5,hN5⟩:∃ N5,N5=X.length+2+1:=⟨_,rfl⟩
          rw [← hN5] at hB6 ⊢
          clear hN5
          have HB6:=hid (HB5.out.trans (hb6.mono HB5.out.size))
          have HX6:=hid hB6;have HF6:=hid (fun b (hb:A6=some b)=>Nat.le_trans HB5.out.size (hf6 b hb));clear hf6
          clear hb6 hB6 hrun5
          go_wp2_with (fail)
          go_ret2
          exact ⟨A6,N5,c6,by rw [HR2.out];rfl,by rw [HR2.out];exact HX6.out,HB6.out,HF6.out⟩
end
end Go.Proofs.YtodjilljcjkacaaGreatDoor
