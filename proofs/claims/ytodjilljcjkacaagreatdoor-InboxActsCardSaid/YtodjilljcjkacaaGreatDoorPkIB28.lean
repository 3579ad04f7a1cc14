/- Laid together: AckP, MshOneM, Frame. -/
import Derived.Test.YtodjilljcjkacaaGreatDoorPkIB27
import Derived.Lib.LaidTab

namespace Go.Proofs.YtodjilljcjkacaaGreatDoor
open Lib (hid)
/- Layer 10: the codes of answers,walked. -/
section
open Go.RowKit
def cB:Nat→ByteArray
  | 0=>⟨#[65,65]⟩
  | 1=>⟨#[65,69]⟩
  | 2=>⟨#[65,82]⟩
  | _=>⟨#[]⟩
def codesL:List ByteArray:=[cB 0,cB 1,cB 2]
abbrev codesV:Array Value:=#[.string (cB 0),.string (cB 1),.string (cB 2)]
def Cds (w:World):Prop:=w.cell? ⟨1,0,none⟩=some (.string (cB 0))∧w.cell? ⟨1,1,none⟩=some (.string (cB 1))∧w.cell? ⟨1,2,none⟩=some (.string (cB 2))
theorem Cds.below {w w':World} (h:Cds w) (hb:Below w.heap.size w w'):Cds w':=by
  obtain ⟨h0,h1,h2⟩:=h
  have hl:=World.block_lt_of_cell? w _ h0
  exact ⟨(hb.cell (p:=⟨1,0,none⟩) hl).trans h0,(hb.cell (p:=⟨1,1,none⟩) hl).trans h1,(hb.cell (p:=⟨1,2,none⟩) hl).trans h2⟩
def codeD (s:ByteArray):Bool:=codesL.any fun v=>decide (v=s)
set_option maxHeartbeats 4000000 in
set_option maxRecDepth 100000 in
theorem ackKnown_ (s:ByteArray) (w:World) (hv:Cds w):Calls Tryz.prog 74 #[.string s] w fun e w'=>e=.returned (.bool (codeD s))∧w'=w:=by
  obtain ⟨v0,v1,v2⟩:=hv
  go_enter Tryz.func74,Tryz.ntmps74
  go_wp2_with (fail)
  clear v0 v1 v2
  go_loop [6,4] (fun i _=>∃ k:Nat,k≤3∧i=.int .i64 k∧∀ j,j<k→cB j≠s) (fun i _=>3-(intOf i).toNat)
  case atStart=>exact ⟨0,by omega,rfl,fun j h=>absurd h (by omega)⟩
  case round =>
    obtain ⟨k,hk,rfl,hn⟩:=hrel
    have HN:=hid hn
    clear hn
    by_cases hlt:k<3
    · match k,hlt with
      | 0,_ =>
        rw [show ((0:Nat):Int)=0 from rfl]
        have i0:∀ W,(Instr.index 179 (.agg codesV) (.int .i64 0)).run Tryz.prog W=.ok (.string (cB 0)) W:=fun _=>by kernel_rfl
        clear hlt hk
        by_cases he:cB 0=s
        · have d:=strEq_t he
          have HE:Hid (codeD s=true):=hid (by unfold codeD codesL;simp [he])
          clear he
          go_wp2_with (fail)
          go_ret
          rw [HE.out];exact ⟨rfl,rfl⟩
        · have d:=strEq_f he
          have HM:Hid (∀ j,j<1→cB j≠s):=hid (fun j hj=>by
            rcases Nat.lt_or_ge j 0 with h|h
            · exact HN.out j h
            · have:j=0:=by omega
              rw [this];exact he)
          clear he
          go_wp2_with (fail)
          exact ⟨⟨1,by omega,rfl,HM.out⟩,by simp [intOf]⟩
      | 1,_ =>
        rw [show ((1:Nat):Int)=1 from rfl]
        have i0:∀ W,(Instr.index 179 (.agg codesV) (.int .i64 1)).run Tryz.prog W=.ok (.string (cB 1)) W:=fun _=>by kernel_rfl
        clear hlt hk
        by_cases he:cB 1=s
        · have d:=strEq_t he
          have HE:Hid (codeD s=true):=hid (by unfold codeD codesL;simp [he])
          clear he
          go_wp2_with (fail)
          go_ret
          rw [HE.out];exact ⟨rfl,rfl⟩
        · have d:=strEq_f he
          have HM:Hid (∀ j,j<2→cB j≠s):=hid (fun j hj=>by
            rcases Nat.lt_or_ge j 1 with h|h
            · exact HN.out j h
            · have:j=1:=by omega
              rw [this];exact he)
          clear he
          go_wp2_with (fail)
          exact ⟨⟨2,by omega,rfl,HM.out⟩,by simp [intOf]⟩
      | 2,_ =>
        rw [show ((2:Nat):Int)=2 from rfl]
        have i0:∀ W,(Instr.index 179 (.agg codesV) (.int .i64 2)).run Tryz.prog W=.ok (.string (cB 2)) W:=fun _=>by kernel_rfl
        clear hlt hk
        by_cases he:cB 2=s
        · have d:=strEq_t he
          have HE:Hid (codeD s=true):=hid (by unfold codeD codesL;simp [he])
          clear he
          go_wp2_with (fail)
          go_ret
          rw [HE.out];exact ⟨rfl,rfl⟩
        · have d:=strEq_f he
          have HM:Hid (∀ j,j<3→cB j≠s):=hid (fun j hj=>by
            rcases Nat.lt_or_ge j 2 with h|h
            · exact HN.out j h
            · have:j=2:=by omega
              rw [this];exact he)
          clear he
          go_wp2_with (fail)
          exact ⟨⟨3,by omega,rfl,HM.out⟩,by simp [intOf]⟩
    · obtain rfl:k=3:=by omega
      have HE:Hid (codeD s=false):=hid (by
        have h:=HN.out
        unfold codeD codesL
        simp only [List.any_cons,List.any_nil,Bool.or_false,Bool.or_eq_false_iff,decide_eq_false_iff_not]
        exact ⟨h 0 (by omega),h 1 (by omega),h 2 (by omega)⟩)
      clear hlt hk
      go_wp2_with (fail)
      go_ret
      rw [HE.out];exact ⟨rfl,rfl⟩
def ansH (h:Hd):Hd:=⟨h.d,h.a2,h.a3,h.a0,h.a1,h.a4,⟨#[]⟩,⟨#[65,67,75]⟩,h.a7,h.a8,h.a9⟩
set_option maxHeartbeats 4000000 in
set_option maxRecDepth 100000 in
theorem headOf_ (h:Hd) (w:World):Calls Tryz.prog 116 #[h.v] w fun e w'=>e=.returned (ansH h).v∧Below w.heap.size w w':=by
  have HY0:Hid (BoxH (ansH h) (w.heap.size+1) ((w.alloc (.cells #[u8 h.d.a,u8 h.d.b,u8 h.d.c,u8 h.d.d,u8 h.d.e,.string h.a0,.string h.a1,.string h.a2,.string h.a3,.string h.a4,.string h.a5,.string h.a6,.string h.a7,.string h.a8,.string h.a9] TH)).alloc (.cells #[.int .u8 (h.d.a.toNat:Int),.int .u8 (h.d.b.toNat:Int),.int .u8 (h.d.c.toNat:Int),.int .u8 (h.d.d.toNat:Int),.int .u8 (h.d.e.toNat:Int),.string h.a2,.string h.a3,.string h.a0,.string h.a1,.string h.a4,.string ⟨#[]⟩,.string ⟨#[65,67,75]⟩,.string h.a7,.string h.a8,.string h.a9] TH))):=hid (by
    have t:=BoxH.new (ansH h) (w.alloc (.cells h.cells TH))
    rw [World.size_alloc] at t
    exact t)
  have HB0:Hid (Below w.heap.size w ((w.alloc (.cells #[u8 h.d.a,u8 h.d.b,u8 h.d.c,u8 h.d.d,u8 h.d.e,.string h.a0,.string h.a1,.string h.a2,.string h.a3,.string h.a4,.string h.a5,.string h.a6,.string h.a7,.string h.a8,.string h.a9] TH)).alloc (.cells #[.int .u8 (h.d.a.toNat:Int),.int .u8 (h.d.b.toNat:Int),.int .u8 (h.d.c.toNat:Int),.int .u8 (h.d.d.toNat:Int),.int .u8 (h.d.e.toNat:Int),.string h.a2,.string h.a3,.string h.a0,.string h.a1,.string h.a4,.string ⟨#[]⟩,.string ⟨#[65,67,75]⟩,.string h.a7,.string h.a8,.string h.a9] TH))):=hid ((boxHd_below h w).alloc (boxHd_below h w).size _)
  go_enter Tryz.func116,Tryz.ntmps116
  go_wp2_with (fail)
  generalize ((w.alloc (.cells #[u8 h.d.a,u8 h.d.b,u8 h.d.c,u8 h.d.d,u8 h.d.e,.string h.a0,.string h.a1,.string h.a2,.string h.a3,.string h.a4,.string h.a5,.string h.a6,.string h.a7,.string h.a8,.string h.a9] TH)).alloc (.cells #[.int .u8 (h.d.a.toNat:Int),.int .u8 (h.d.b.toNat:Int),.int .u8 (h.d.c.toNat:Int),.int .u8 (h.d.d.toNat:Int),.int .u8 (h.d.e.toNat:Int),.string h.a2,.string h.a3,.string h.a0,.string h.a1,.string h.a4,.string ⟨#[]⟩,.string ⟨#[65,67,75]⟩,.string h.a7,.string h.a8,.string h.a9] TH))=w3 at *
  obtain ⟨a,ha⟩:∃ a,a=ansH h:=⟨_,rfl⟩
  rw [← ha] at HY0 ⊢
  clear ha
  obtain ⟨c0,c1,c2,c3,c4,c5,c6,c7,c8,c9,c10,c11,c12,c13,c14⟩:=HY0.out.cells
  refine bodyPost_ret (v:=a.v) ?_ rfl ⟨rfl,HB0.out⟩
  simp [results,Tryz.results116,go_sem, *]
end
/- Layer 10: an answer that is built is read as its code and Id. -/
section
open Go.RowKit Lib
abbrev msaB:ByteArray:=⟨#[77,83,65]⟩
def buildD (h:Hd) (code:ByteArray):List UInt8 × Int :=
  if codeD code=true then if (writeH (ansH h)).2=0 then (joinD [(writeH (ansH h)).1,makeD msaB h.d.a [code.data.toList,h.a7.data.toList]],0) else ([],(writeH (ansH h)).2) else ([],17)
theorem splitD_cons (m l:List UInt8) (h:(13:UInt8) ∉ m):splitD (m++13 :: l)=m :: splitD l:=by
  unfold splitD
  rw [cutAt_front 13 m l h]
  obtain ⟨x,r,hx⟩:∃ x r,cutAt 13 l=x :: r:=by
    cases h:cutAt 13 l with
    | nil=>exact absurd h (cutAt_ne _ _)
    | cons a b=>exact ⟨a,b,rfl⟩
  rw [hx]
  have e:(m :: x :: r).getLastD []=(x :: r).getLastD []:=by cases r <;> rfl
  rw [e]
  split <;> rfl
theorem code_mem {s:ByteArray} (h:codeD s=true):s=cB 0∨s=cB 1∨s=cB 2:=by
  unfold codeD codesL at h
  simp only [List.any_cons,List.any_nil,Bool.or_false,Bool.or_eq_true,decide_eq_true_iff] at h
  rcases h with h|h|h
  · exact .inl h.symm
  · exact .inr (.inl h.symm)
  · exact .inr (.inr h.symm)
theorem sign_no_letter {x:UInt8} (h:isSign x.toNat=true) (y:UInt8) (hy:isSign y.toNat=false):x≠y:=fun e=>by
  subst e;rw [h] at hy;cases hy
theorem good_a {s:Sgn} (h:s.good=true):isSign s.a.toNat=true:=(good_signs h).1 s.a (by simp [Sgn.l])
theorem makeD_two (c:UInt8) (x y:List UInt8):makeD msaB c [x,y]=[77,83,65]++joinTail [c] [x,y]:=makeD_plain msaB c _ (by decide)
theorem ansH_l (h:Hd):(ansH h).l=[h.a2,h.a3,h.a0,h.a1,h.a4,⟨#[]⟩,⟨#[65,67,75]⟩,h.a7,h.a8,h.a9]:=rfl
theorem buildD_cases (h:Hd) (code:ByteArray):buildD h code=([],17)∨buildD h code=([],11)∨buildD h code=([],10)∨(buildD h code=(segH (ansH h)++13 :: (makeD msaB h.d.a [code.data.toList,h.a7.data.toList]++[13]),0)∧codeD code=true∧h.d.good=true∧(ansH h).l.all (standD h.d.a)=true):=by
  unfold buildD
  by_cases hk:codeD code=true
  · rw [if_pos hk]
    by_cases hg:h.d.good=true
    · by_cases hs:(ansH h).l.all (standD h.d.a)=true
      · have e:writeH (ansH h)=(segH (ansH h),0):=writeH_good (h:=ansH h) hg hs
        rw [e,if_pos rfl]
        refine .inr (.inr (.inr ⟨?_,hk,hg,hs⟩))
        simp [joinD]
      · have e:writeH (ansH h)=([],10):=by
          unfold writeH
          rw [if_pos (show (ansH h).d.good=true from hg),if_neg (show ¬ (ansH h).l.all (standD (ansH h).d.a)=true from hs)]
        rw [e,if_neg (by decide)]
        exact .inr (.inr (.inl rfl))
    · have e:writeH (ansH h)=([],11):=by
        unfold writeH
        rw [if_neg (show ¬ (ansH h).d.good=true from hg)]
      rw [e,if_neg (by decide)]
      exact .inr (.inl rfl)
  · rw [if_neg hk]
    exact .inl rfl
end
/- Layer 10: an answer built,and read,walked. -/
section
open Go.RowKit
def RetBE (w:World) (r:List UInt8 × Int) (e:Ending) (w':World):Prop :=
  ∃ A c,e=.returned (.tuple #[.slice A r.1.length c,.int .i64 r.2])∧Bs w' A r.1.length c r.1∧Below w.heap.size w w'
theorem ansH_sum (h:Hd):(ansH h).sum≤h.sum+3:=by
  unfold Hd.sum ansH
  have e1:(ByteArray.mk #[]).size=0:=rfl
  have e2:(ByteArray.mk #[65,67,75]).size=3:=rfl
  simp only [e1,e2]
  omega
theorem a7_le (h:Hd):h.a7.size≤h.sum:=by unfold Hd.sum;omega
theorem lens_two (x y:List UInt8):Lib.lens [x,y]=x.length+y.length:=by simp [Lib.lens]
theorem msa_len (c:UInt8) (x y:List UInt8):(makeD msaB c [x,y]).length=x.length+y.length+5:=by
  rw [makeD_two];simp [Lib.joinTail];omega
theorem buildD_len (h:Hd) (code:ByteArray):(buildD h code).1.length≤2*h.sum+code.size+40:=by
  rcases buildD_cases h code with e|e|e|⟨e,_,_,_⟩
  · rw [e];simp
  · rw [e];simp
  · rw [e];simp
  · rw [e]
    have h1:=segH_len (ansH h)
    have h2:=ansH_sum h
    have h3:=a7_le h
    have h4:code.data.toList.length=code.size:=by simp
    have h5:h.a7.data.toList.length=h.a7.size:=by simp
    simp only [List.length_append,List.length_cons,List.length_nil,msa_len]
    omega
set_option maxHeartbeats 8000000 in
set_option maxRecDepth 100000 in
theorem ackBuild (h:Hd) (code:ByteArray) (w:World) (hv:Cds w) (hb:h.sum≤300000) (hc:code.size≤1000):Calls Tryz.prog 85 #[h.v,.string code] w (RetBE w (buildD h code)):=by
  have HX0:=hid (BoxH.new h w)
  have HB0:=hid (boxHd_below h w)
  have HV0:=hid (hv.below (boxHd_below h w))
  have HS:=hid hb
  have HC:=hid hc
  have HAS:=hid (ansH_sum h)
  have HA7:=hid (a7_le h)
  clear hv hb hc
  go_enter Tryz.func85,Tryz.ntmps85
  go_wp2_with (fail)
  generalize w.alloc (.cells #[u8 h.d.a,u8 h.d.b,u8 h.d.c,u8 h.d.d,u8 h.d.e,.string h.a0,.string h.a1,.string h.a2,.string h.a3,.string h.a4,.string h.a5,.string h.a6,.string h.a7,.string h.a8,.string h.a9] TH)=w0 at *
  refine (ackKnown_ code w0 HV0.out).mono ?_
  rintro e w1 ⟨rfl,rfl⟩
  cases hk:codeD code
  · have HE:Hid (buildD h code=([],17)):=hid (by unfold buildD;rw [hk];rfl)
    go_wp2_with (fail)
    go_ret2
    exact ⟨none,0,by rw [HE.out];rfl,by rw [HE.out];exact Bs.none_ _,HB0.out⟩
  · obtain ⟨c0,c1,c2,c3,c4,c5,c6,c7,c8,c9,c10,c11,c12,c13,c14⟩:=HX0.out.cells
    go_wp2_with (fail)
    clear c0 c1 c2 c3 c4 c5 c6 c7 c8 c9 c10 c11 c12 c13 c14
    refine (headOf_ h w1).mono ?_
    rintro e w2 ⟨rfl,hb2⟩
    have HX2:=hid (HX0.out.below hb2)
    have HB2:=hid (HB0.out.trans (hb2.mono HB0.out.size))
    clear hb2 HX0
    go_wp2_with (fail)
    refine (write_ (ansH h) w2 (by rw [← Hd.sum_eq];have:=HAS.out;have:=HS.out;omega)).mono ?_
    rintro e w3 ⟨rfl,hb3⟩
    have HX3:=hid (HX2.out.below hb3)
    have HB3:=hid (HB2.out.trans (hb3.mono HB2.out.size))
    clear hb3 HX2
    rcases writeH_cases (ansH h) with hw|hw|⟨hw,hg,hst⟩
    · have HE:Hid (buildD h code=([],11)):=hid (by unfold buildD;rw [if_pos hk,hw];rfl)
      rw [hw]
      rw [show str (([],(11:Int)):List UInt8 × Int).1=Value.string ⟨#[]⟩ from rfl]
      clear hw hk
      go_wp2_with (fail)
      go_ret2
      exact ⟨none,0,by rw [HE.out];rfl,by rw [HE.out];exact Bs.none_ _,HB3.out⟩
    · have HE:Hid (buildD h code=([],10)):=hid (by unfold buildD;rw [if_pos hk,hw];rfl)
      rw [hw]
      rw [show str (([],(10:Int)):List UInt8 × Int).1=Value.string ⟨#[]⟩ from rfl]
      clear hw hk
      go_wp2_with (fail)
      go_ret2
      exact ⟨none,0,by rw [HE.out];rfl,by rw [HE.out];exact Bs.none_ _,HB3.out⟩
    · have HE:Hid (buildD h code=(joinD [segH (ansH h),makeD msaB h.d.a [code.data.toList,h.a7.data.toList]],0)):=hid (by unfold buildD;rw [if_pos hk,hw];rfl)
      have HSL:Hid ((segH (ansH h)).length≤300021):=hid (by have:=segH_len (ansH h);have:=HAS.out;have:=HS.out;omega)
      rw [hw]
      clear hw hk hg hst
      obtain ⟨c0,c1,c2,c3,c4,c5,c6,c7,c8,c9,c10,c11,c12,c13,c14⟩:=HX3.out.cells
      go_wp2_with (fail)
      clear c0 c1 c2 c3 c4 c5 c6 c7 c8 c9 c10 c11 c12 c13 c14
      have HO4:Hid (OwnS (w3.alloc (.cells #[.string code,.string h.a7] 9)) w3.heap.size (.slice (some ⟨w3.heap.size,0,none⟩) 2 2) [code.data.toList,h.a7.data.toList]):=hid (OwnS.twoH w3 code.data.toList h.a7.data.toList _ (Nat.le_refl _))
      have HB4:Hid (Below w.heap.size w (w3.alloc (.cells #[.string code,.string h.a7] 9))):=hid (HB3.out.alloc HB3.out.size _)
      have HT:Hid (Lib.lens [code.data.toList,h.a7.data.toList]≤302000):=hid (by rw [lens_two];have:=HC.out;have:=HA7.out;have:=HS.out;simp;omega)
      generalize w3.alloc (.cells #[.string code,.string h.a7] 9)=w4 at *
      refine (segMake h.d msaB _ 2 2 _ w4 HO4.out.ss' (by decide) (by have:=HT.out;simp only [List.length_cons,List.length_nil];omega)).mono ?_
      rintro e w5 ⟨rfl,hb5⟩
      have HB5:=hid (HB4.out.trans (hb5.mono HB4.out.size))
      have HML:Hid ((makeD msaB h.d.a [code.data.toList,h.a7.data.toList]).length≤302005):=hid (by rw [msa_len,← lens_two];have:=HT.out;omega)
      clear hb5 HO4 HB4 HT
      obtain ⟨M,hM⟩:∃ M,M=makeD msaB h.d.a [code.data.toList,h.a7.data.toList]:=⟨_,rfl⟩
      rw [← hM] at HE HML ⊢
      obtain ⟨S,hS⟩:∃ S,S=segH (ansH h):=⟨_,rfl⟩
      rw [← hS] at HE HSL ⊢
      clear hM hS
      go_wp2_with (fail)
      have HO6:Hid (OwnS (w5.alloc (.cells #[str S,str M] 9)) w5.heap.size (.slice (some ⟨w5.heap.size,0,none⟩) 2 2) [S,M]):=hid (OwnS.twoH w5 S M _ (Nat.le_refl _))
      have HB6:Hid (Below w.heap.size w (w5.alloc (.cells #[str S,str M] 9))):=hid (HB5.out.alloc HB5.out.size _)
      generalize w5.alloc (.cells #[str S,str M] 9)=w6 at *
      refine (segJoin _ 2 2 [S,M] w6 HO6.out.ss' (by rw [lens_two];have:=HSL.out;have:=HML.out;simp only [List.length_cons,List.length_nil];omega)).mono ?_
      rintro e w7 ⟨A7,c7,rfl,hB7,hb7⟩
      have HBS:=hid hB7
      have HB7:=hid (HB6.out.trans (hb7.mono HB6.out.size))
      clear hB7 hb7 HO6
      go_wp2_with (fail)
      go_ret2
      exact ⟨A7,c7,by rw [HE.out];rfl,by rw [HE.out];exact HBS.out,HB7.out⟩
end
section
open Go.RowKit Lib
theorem cut_mem {c:UInt8}:∀ {l x:List UInt8},x ∈ cutAt c l→c ∉ x∧x.length≤l.length∧∀ y ∈ x,y ∈ l
  | [],x,h=>by
    simp [cutAt] at h
    subst h
    exact ⟨by simp,by simp,fun y hy=>by cases hy⟩
  | a :: r,x,h=>by
    unfold cutAt at h
    split at h
    · rcases List.mem_cons.1 h with rfl|h
      · exact ⟨by simp,by simp,fun y hy=>by cases hy⟩
      · obtain ⟨h1,h2,h3⟩:=cut_mem h
        exact ⟨h1,by simp only [List.length_cons];omega,fun y hy=>List.mem_cons_of_mem _ (h3 y hy)⟩
    · rename_i hne
      have hm:∀ z ∈ cutAt c r,c ∉ z∧z.length≤r.length∧∀ y ∈ z,y ∈ r:=fun z hz=>cut_mem hz
      cases hc:cutAt c r with
      | nil=>exact absurd hc (cutAt_ne _ _)
      | cons p q =>
        rw [hc] at h hm
        simp only at h
        rcases List.mem_cons.1 h with rfl|h
        · obtain ⟨h1,h2,h3⟩:=hm p (by simp)
          refine ⟨fun hin=>?_,by simp only [List.length_cons];omega,fun y hy=>?_⟩
          · rcases List.mem_cons.1 hin with e|e
            · exact hne e.symm
            · exact h1 e
          · rcases List.mem_cons.1 hy with e|e
            · rw [e];simp
            · exact List.mem_cons_of_mem _ (h3 y e)
        · obtain ⟨h1,h2,h3⟩:=hm x (by simp [h])
          exact ⟨h1,by simp only [List.length_cons];omega,fun y hy=>List.mem_cons_of_mem _ (h3 y hy)⟩
theorem getD_mem_or {α:Type} (T:List α) (k:Nat) (d:α):T.getD k d ∈ T∨T.getD k d=d:=by
  rw [List.getD_eq_getElem?_getD]
  rcases Nat.lt_or_ge k T.length with h|h
  · rw [List.getElem?_eq_getElem h];exact .inl (List.getElem_mem h)
  · rw [List.getElem?_eq_none h];exact .inr rfl
theorem cut_getD {c:UInt8} (l:List UInt8) (k:Nat):c ∉ (cutAt c l).getD k []∧((cutAt c l).getD k []).length≤l.length∧∀ y ∈ (cutAt c l).getD k [],y ∈ l:=by
  rcases getD_mem_or (cutAt c l) k [] with h|h
  · exact cut_mem h
  · rw [h];exact ⟨by simp,by simp,fun y hy=>by cases hy⟩
theorem fields_mem (s:List UInt8) (c:UInt8) (k:Nat):c ∉ (fieldsD (txt s) c).getD (k+1) []∧((fieldsD (txt s) c).getD (k+1) []).length≤s.length∧∀ y ∈ (fieldsD (txt s) c).getD (k+1) [],y ∈ s:=by
  have none_:c ∉ ([]:List UInt8)∧([]:List UInt8).length≤s.length∧∀ y ∈ ([]:List UInt8),y ∈ s:=⟨by simp,by simp,fun y hy=>by cases hy⟩
  unfold fieldsD
  split
  · unfold behD
    split
    · rename_i h
      split at h
      · cases h
      · exact none_
    · rename_i r h
      split at h
      · injection h with h
        subst h
        rw [List.getD_cons_succ]
        obtain ⟨h1,h2,h3⟩:=cut_getD (c:=c) ((txt s).extract 4 (txt s).size).data.toList k
        have e:((txt s).extract 4 (txt s).size).data.toList=s.drop 4:=by
          rw [ex_list,show (txt s).data.toList=s from by simp,txt_size]
          exact List.take_of_length_le (by simp)
        rw [e] at h1 h2 h3 ⊢
        exact ⟨h1,by rw [List.length_drop] at h2;omega,fun y hy=>List.mem_of_mem_drop (h3 y hy)⟩
      · cases h
  · rw [show (txt s).data.toList=s from by simp]
    have e:(cutAt c s).tail.getD (k+1) []=(cutAt c s).getD (k+2) []:=by
      cases hc:cutAt c s with
      | nil=>exact absurd hc (cutAt_ne _ _)
      | cons a b=>rfl
    rw [e]
    exact cut_getD s (k+2)
theorem seg0_mem (l:List UInt8):(13:UInt8) ∉ (splitD l).getD 0 []∧((splitD l).getD 0 []).length≤l.length:=by
  rcases getD_mem_or (splitD l) 0 [] with h|h
  · have hm:(splitD l).getD 0 [] ∈ cutAt 13 l:=by
      unfold splitD at h ⊢
      split at h
      · rename_i hc
        rw [if_pos hc]
        exact List.dropLast_subset _ h
      · rename_i hc
        rw [if_neg hc]
        exact h
    exact ⟨(cut_mem hm).1,(cut_mem hm).2.1⟩
  · rw [h];exact ⟨by simp,by simp⟩
theorem readD_good {l:List UInt8} (h:(readD l).2=0):(readD l).1.good=true:=by
  unfold readD at h ⊢
  split at h
  · cases h
  · rename_i h1
    rw [if_neg h1]
    split at h
    · cases h
    · rename_i h2
      rw [if_neg h2]
      split at h
      · cases h
      · rename_i h3
        rw [if_neg h3]
        simp only
        cases hg:(Sgn.of l).good
        · exact absurd (.inr hg) h2
        · rfl
theorem hdTo_l (d:Sgn) (T:Nat→ByteArray):(hdTo d T 10).l=[T 0,T 1,T 2,T 3,T 4,T 5,T 6,T 7,T 8,T 9]:=rfl
theorem read_stands {l:List UInt8} {h:Hd} (hr:readH l=(h,0)):h.d.good=true∧h.l.all (standD h.d.a)=true∧∀ b ∈ h.l,b.size≤l.length:=by
  unfold readH at hr
  split at hr
  · rename_i h0
    have hg:=readD_good h0
    split at hr
    · obtain ⟨seg,hseg⟩:∃ seg,seg=(splitD l).getD 0 []:=⟨_,rfl⟩
      obtain ⟨s1,s2⟩:=seg0_mem l
      rw [← hseg] at hr s1 s2
      injection hr with hr _
      obtain ⟨d,hd⟩:∃ d,d=(readD l).1:=⟨_,rfl⟩
      rw [← hd] at hr hg
      subst hr
      have key:∀ i,standD d.a (textsD (fieldsD (txt seg) d.a) i)=true∧(textsD (fieldsD (txt seg) d.a) i).size≤l.length:=fun i=>by
        obtain ⟨h1,h2,h3⟩:=fields_mem seg d.a (i+1)
        have e:textsD (fieldsD (txt seg) d.a) i=txt ((fieldsD (txt seg) d.a).getD (i+1+1) []):=by unfold textsD;rw [show 2+i=i+1+1 by omega]
        rw [e]
        generalize (fieldsD (txt seg) d.a).getD (i+1+1) []=x at h1 h2 h3
        refine ⟨?_,by rw [txt_size];omega⟩
        unfold standD
        rw [show (txt x).data.toList=x from by simp]
        simp only [Bool.and_eq_true,Bool.not_eq_true']
        refine ⟨?_,?_⟩
        · cases hc:x.contains d.a
          · rfl
          · exact absurd (List.contains_iff_mem.1 hc) h1
        · cases hc:x.contains 13
          · rfl
          · exact absurd (h3 13 (List.contains_iff_mem.1 hc)) s1
      refine ⟨hg,?_,fun b hb=>?_⟩
      · rw [hdTo_l]
        simp only [List.all_cons,List.all_nil,Bool.and_true,Bool.and_eq_true]
        exact ⟨(key 0).1,(key 1).1,(key 2).1,(key 3).1,(key 4).1,(key 5).1,(key 6).1,(key 7).1,(key 8).1,(key 9).1⟩
      · rw [hdTo_l] at hb
        simp only [List.mem_cons,List.not_mem_nil,or_false] at hb
        rcases hb with rfl|rfl|rfl|rfl|rfl|rfl|rfl|rfl|rfl|rfl
        · exact (key 0).2
        · exact (key 1).2
        · exact (key 2).2
        · exact (key 3).2
        · exact (key 4).2
        · exact (key 5).2
        · exact (key 6).2
        · exact (key 7).2
        · exact (key 8).2
        · exact (key 9).2
    · injection hr with _ h2
      cases h2
  · rename_i h0
    injection hr with _ h2
    exact absurd h2 h0
theorem sum_le_of {h:Hd} {n:Nat} (hb:∀ b ∈ h.l,b.size≤n):h.a8.size≤n∧h.a9.size≤n∧Lib.lens (h.l.map (·.data.toList))≤10*n:=by
  have k:∀ b:ByteArray,b.data.toList.length=b.size:=fun b=>by simp
  simp only [Hd.l,List.mem_cons,List.not_mem_nil,or_false,forall_eq_or_imp,forall_eq] at hb
  obtain ⟨h0,h1,h2,h3,h4,h5,h6,h7,h8,h9⟩:=hb
  refine ⟨h8,h9,?_⟩
  simp only [Hd.l,Lib.lens,List.map_cons,List.map_nil,List.sum_cons,List.sum_nil,k]
  omega
end
section
open Go.RowKit
def Signs (w:World):Prop :=
  w.cell? ⟨0,0,none⟩=some (.int .u8 11)∧w.cell? ⟨0,1,none⟩=some (.int .u8 28)∧w.cell? ⟨0,2,none⟩=some (.int .u8 13)
theorem Signs.below {w w':World} (h:Signs w) (hb:Below w.heap.size w w'):Signs w' :=
  ⟨(hb.cell (World.block_lt_of_cell? w _ h.1)).trans h.1,(hb.cell (World.block_lt_of_cell? w _ h.2.1)).trans h.2.1,(hb.cell (World.block_lt_of_cell? w _ h.2.2)).trans h.2.2⟩
def Good (l:List UInt8):Prop:=11 ∉ l∧∀ i,i<l.length→l[i]?=some 28→∃ d,l[i+1]?=some d∧d≠13
def badAt (l:List UInt8) (i:Nat):Bool:=l[i]? == some 28 && (decide (i+1=l.length) || l[i+1]? == some 13)
def good (l:List UInt8):Bool:=!l.contains 11 && (List.range l.length).all fun i=>!badAt l i
theorem u8_ne {x:UInt8} {k:Int} (y:UInt8) (hk:k=(y.toNat:Int)) (h:x≠y):((x.toNat:Int) == k)=false:=by
  rw [beq_eq_false_iff_ne]
  intro e
  apply h
  apply UInt8.toNat_inj.1
  omega
theorem u8_bne {x:UInt8} {k:Int} (y:UInt8) (hk:k=(y.toNat:Int)) (h:x≠y):((x.toNat:Int) != k)=true:=by
  rw [bne,u8_ne y hk h]
  rfl
theorem good_no_start {l:List UInt8} (h:good l=true):11 ∉ l:=by
  unfold good at h
  simp at h
  exact h.1
theorem good_at {l:List UInt8} (h:good l=true) {i:Nat} (hi:i<l.length):badAt l i=false:=by
  unfold good at h
  simp only [Bool.and_eq_true,List.all_eq_true,Bool.not_eq_true'] at h
  exact h.2 i (List.mem_range.2 hi)
theorem good_of {l:List UInt8} (h1:11 ∉ l) (h2:∀ i,i<l.length→badAt l i=false):good l=true:=by
  unfold good
  simp only [Bool.and_eq_true,List.all_eq_true,Bool.not_eq_true']
  exact ⟨by simpa using h1,fun i hi=>h2 i (List.mem_range.1 hi)⟩
theorem indexByte_neg {l:List UInt8} {c:UInt8} (h:c ∉ l):Lib.indexByte l c=-1:=by
  induction l with
  | nil=>rfl
  | cons b l ih =>
    simp only [List.mem_cons,not_or] at h
    unfold Lib.indexByte
    rw [if_neg (by simpa using fun e=>h.1 e.symm),ih h.2]
    rfl
theorem indexByte_pos {l:List UInt8} {c:UInt8} (h:c ∈ l):0≤Lib.indexByte l c:=by
  induction l with
  | nil=>cases h
  | cons b l ih =>
    unfold Lib.indexByte
    by_cases e:b=c
    · rw [if_pos (by simpa using e)];omega
    · rw [if_neg (by simpa using e)]
      have:=ih ((List.mem_cons.1 h).resolve_left fun h'=>e h'.symm)
      rw [if_neg (by simp;omega)]
      omega
set_option maxRecDepth 100000 in
theorem indexByte_any (A:Option Addr) (n c:Nat) (l:List UInt8) (cv:UInt8) (k:Int) (hk:k=(cv.toNat:Int)) (w:World) (hB:Bs w A n c l) :
    Calls Tryz.prog 101 #[.slice A n c,.int .u8 k] w fun e w'=>e=.returned (.int .i64 (Lib.indexByte l cv))∧w=w':=by
  have hcv:k.toNat.toUInt8=cv:=by subst hk;simp
  have hrun:(Extern.BytealgIndexByte.indexByte #[.slice A n c,.int .u8 k]).run Tryz.prog w=.ok (.int .i64 (Lib.indexByte l cv)) w:=by
    rcases Nat.eq_zero_or_pos n with h0|h0
    · subst h0
      obtain rfl:=hB.empty
      rcases A with _|a
      · have h0:∀ (kk:Int) (cc:Nat) (w:World),(Extern.BytealgIndexByte.indexByte #[.slice none 0 cc,.int .u8 kk]).run Tryz.prog w=.ok (.int .i64 (-1)) w:=fun _ _ _=>by kernel_rfl
        exact h0 k c w
      · have:=Lib.run_indexByteAt (P:=Tryz.prog) w a 0 c [] rfl (fun i hi=>by omega) k
        rw [this];rfl
    · obtain ⟨b,o,rfl,hc⟩:=hB.cells h0
      have:=Lib.run_indexByteAt (P:=Tryz.prog) w ⟨b,o,none⟩ n c (nums l) (by rw [nums_length,hB.1]) (fun i hi=>by rw [Addr.add_lit];exact hc i hi) k
      rw [this,bytesOf_nums,hcv]
  have Hrun:=hid hrun
  clear hrun hcv hk
  go_enter Tryz.func101,Tryz.ntmps101
  go_wp2
  rw [run_callFunc_extern Tryz.func139 (by kernel_rfl) (by kernel_rfl) (by kernel_rfl) (e:=Extern.BytealgIndexByte.indexByte) (by kernel_rfl),Hrun.out]
  simp only [Result.andThen]
  rw [Oper.upon_value]
  go_wp2
  go_ret
  exact ⟨rfl,rfl⟩
set_option maxRecDepth 100000 in
theorem frameGood_yes (A:Option Addr) (n c:Nat) (l:List UInt8) (w:World) (hS:Signs w) (hB:Bs w A n c l) (hg:good l=true) :
    Calls Tryz.prog 68 #[.slice A n c] w fun e w'=>e=.returned (.bool true)∧∃ q,w'=w.drewN q:=by
  obtain ⟨s0,s1,s2⟩:=hS
  have hn:=hB.nmax
  have hib:=indexByte_any A n c l 11 11 rfl w hB
  rw [indexByte_neg (good_no_start hg)] at hib
  have Hib:=hid hib;clear hib
  have HG:=hid hg;clear hg
  have HB:=hid hB;clear hB
  go_enter Tryz.func68,Tryz.ntmps68
  go_wp2_with (go_at_call 101;refine (Hib.out).mono ?_;rintro e w' ⟨rfl,rfl⟩)
  go_loopw [12,3,4] (fun i x y wr=>∃ k:Nat,k≤n∧i=.int .i64 k∧∃ q,wr=w.drewN q) (fun i _ _ _=>n-(intOf i).toNat)
  case atStart=>exact ⟨0,Nat.zero_le _,rfl,0,rfl⟩
  case round =>
    obtain ⟨k,hk,rfl,q,rfl⟩:=hrel
    by_cases hlt:k<n
    · obtain ⟨b,o,rfl,hb,hc⟩:=HB.out.at_ (by omega)
      have hkl:k<l.length:=by have:=HB.out.len;omega
      have hbad:=good_at HG.out hkl
      have hcell:=hc k _ (List.getElem?_eq_getElem hkl)
      unfold badAt at hbad
      rw [List.getElem?_eq_getElem hkl] at hbad
      generalize l[k]=x at hcell hbad
      by_cases h28:x=28
      · subst h28
        have hkn:k+1≠l.length:=by intro e;simp [e] at hbad
        have hk1:k+1<l.length:=by omega
        have hcell1:=hc (k+1) _ (List.getElem?_eq_getElem hk1)
        rw [List.getElem?_eq_getElem hk1] at hbad
        generalize l[k+1]=y at hcell1 hbad
        have hne:=u8_ne (x:=y) (k:=13) 13 rfl (by intro e;subst e;simp at hbad)
        have hk2:((k:Int)+1 == n)=false:=by rw [beq_eq_false_iff_ne];have:=HB.out.len;omega
        have hk3:k+1<n:=by have:=HB.out.len;omega
        have hw1:IntKind.i64.wrap ((k:Int)+1)=(k:Int)+1:=IntWalk.i64_in _ (by omega)
        have hw2:((k:Int)+1).toNat=k+1:=by omega
        have hw3:(0:Int)≤(k:Int)+1:=by omega
        have hw4:(k:Int)+1<(n:Int):=by omega
        clear hbad hkn hc
        go_wp2
        go_quiet (fail)
        clear hw1 hw2 hw3 hw4
        go_wp2
        go_roundw
        case rel=>exact ⟨k+1,by omega,by go_num,_,rfl⟩
        case measure=>simp [intOf];omega
      · have hx':=u8_ne (x:=x) (k:=28) 28 rfl h28
        clear hbad hc
        go_wp2
        go_quiet (fail)
        go_wp2
        go_roundw
        case rel=>exact ⟨k+1,by omega,by go_num,_,rfl⟩
        case measure=>simp [intOf];omega
    · go_wp2
      go_ret
      exact ⟨rfl,_,rfl⟩
set_option maxRecDepth 100000 in
theorem frameGood_no (A:Option Addr) (n c:Nat) (l:List UInt8) (w:World) (hS:Signs w) (hB:Bs w A n c l) (hg:good l=false) :
    Calls Tryz.prog 68 #[.slice A n c] w fun e w'=>e=.returned (.bool false)∧∃ q,w'=w.drewN q:=by
  obtain ⟨s0,s1,s2⟩:=hS
  have hn:=hB.nmax
  have hib:=indexByte_any A n c l 11 11 rfl w hB
  by_cases h11:11 ∈ l
  · have hp:=indexByte_pos h11
    generalize Lib.indexByte l 11=r at hib hp
    have Hib:=hid hib;clear hib
    go_enter Tryz.func68,Tryz.ntmps68
    go_wp2_with (go_at_call 101;refine (Hib.out).mono ?_;rintro e w' ⟨rfl,rfl⟩)
    go_ret
    exact ⟨rfl,0,rfl⟩
  · rw [indexByte_neg h11] at hib
    have Hib:=hid hib;clear hib
    have hex:∃ i,i<l.length∧badAt l i=true:=by
      apply Classical.byContradiction
      intro hne
      rw [good_of h11 (fun i hi=>by
        cases hb:badAt l i with
        | false=>rfl
        | true=>exact absurd ⟨i,hi,hb⟩ hne)] at hg
      cases hg
    obtain ⟨j,hj,hjb⟩:=hex
    have hjn:j<n:=by have:=hB.len;omega
    have HJ:=hid hjb;clear hjb hg
    have HB:=hid hB;clear hB
    go_enter Tryz.func68,Tryz.ntmps68
    go_wp2_with (go_at_call 101;refine (Hib.out).mono ?_;rintro e w' ⟨rfl,rfl⟩)
    go_loopw [12,3,4] (fun i x y wr=>∃ k:Nat,k≤j∧i=.int .i64 k∧∃ q,wr=w.drewN q) (fun i _ _ _=>n-(intOf i).toNat)
    case atStart=>exact ⟨0,Nat.zero_le _,rfl,0,rfl⟩
    case round =>
      obtain ⟨k,hk,rfl,q,rfl⟩:=hrel
      have hlt:k<n:=by omega
      obtain ⟨b,o,rfl,hb,hc⟩:=HB.out.at_ (by omega)
      have hkl:k<l.length:=by have:=HB.out.len;omega
      have hcell:=hc k _ (List.getElem?_eq_getElem hkl)
      cases hbad:badAt l k with
      | false =>
        have hkj:k<j:=by
          rcases Nat.lt_or_ge k j with h|h
          · exact h
          · obtain rfl:k=j:=by omega
            rw [HJ.out] at hbad;cases hbad
        unfold badAt at hbad
        rw [List.getElem?_eq_getElem hkl] at hbad
        generalize l[k]=x at hcell hbad
        by_cases h28:x=28
        · subst h28
          have hkn:k+1≠l.length:=by intro e;simp [e] at hbad
          have hk1:k+1<l.length:=by omega
          have hcell1:=hc (k+1) _ (List.getElem?_eq_getElem hk1)
          rw [List.getElem?_eq_getElem hk1] at hbad
          generalize l[k+1]=y at hcell1 hbad
          have hne:=u8_ne (x:=y) (k:=13) 13 rfl (by intro e;subst e;simp at hbad)
          have hk2:((k:Int)+1 == n)=false:=by rw [beq_eq_false_iff_ne];have:=HB.out.len;omega
          have hk3:k+1<n:=by have:=HB.out.len;omega
          have hw1:IntKind.i64.wrap ((k:Int)+1)=(k:Int)+1:=IntWalk.i64_in _ (by omega)
          have hw2:((k:Int)+1).toNat=k+1:=by omega
          have hw3:(0:Int)≤(k:Int)+1:=by omega
          have hw4:(k:Int)+1<(n:Int):=by omega
          clear hbad hkn hc
          go_wp2
          go_quiet (fail)
          clear hw1 hw2 hw3 hw4
          go_wp2
          go_roundw
          case rel=>exact ⟨k+1,by omega,by go_num,_,rfl⟩
          case measure=>simp [intOf];omega
        · have hx':=u8_ne (x:=x) (k:=28) 28 rfl h28
          clear hbad hc
          go_wp2
          go_quiet (fail)
          go_wp2
          go_roundw
          case rel=>exact ⟨k+1,by omega,by go_num,_,rfl⟩
          case measure=>simp [intOf];omega
      | true =>
        unfold badAt at hbad
        rw [List.getElem?_eq_getElem hkl] at hbad
        simp only [Bool.and_eq_true,beq_iff_eq,Option.some.injEq,Bool.or_eq_true,decide_eq_true_eq] at hbad
        obtain ⟨h28,hend⟩:=hbad
        rw [h28] at hcell
        have hw1:IntKind.i64.wrap ((k:Int)+1)=(k:Int)+1:=IntWalk.i64_in _ (by omega)
        have hw2:((k:Int)+1).toNat=k+1:=by omega
        have hw3:(0:Int)≤(k:Int)+1:=by omega
        by_cases he:k+1=l.length
        · have hk2:((k:Int)+1 == n)=true:=by rw [beq_iff_eq];have:=HB.out.len;omega
          clear hend he hc h28
          go_wp2
          go_quiet (fail)
          clear hw1 hw2 hw3
          go_wp2
          go_ret
          exact ⟨rfl,q+nq,by rw [World.drewN_drewN]⟩
        · have h13:=hend.resolve_left he
          have hcell1:=hc (k+1) _ h13
          have hk1:k+1<l.length:=by omega
          have hk2:((k:Int)+1 == n)=false:=by rw [beq_eq_false_iff_ne];have:=HB.out.len;omega
          have hk3:k+1<n:=by have:=HB.out.len;omega
          have hw4:(k:Int)+1<(n:Int):=by omega
          clear hend hc h28 he h13
          go_wp2
          go_quiet (fail)
          clear hw1 hw2 hw3 hw4
          go_wp2
          go_ret
          exact ⟨rfl,q+nq,by rw [World.drewN_drewN]⟩
end
end Go.Proofs.YtodjilljcjkacaaGreatDoor
