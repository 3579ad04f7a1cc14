/- Laid together: RowsG, Ref13, Maps, Maps2. -/
import Derived.Test.YtodjilljcjkacaaGreatDoorPkIB2
import Derived.RegionTactic
import Derived.BigRegion
import Derived.Laws.EntriesVeiled
import Derived.LoopTactic
import Derived.Deep.QuietTactic
import Derived.Deep.RegionLaw
import Derived.MapKept
import Derived.Maps.RangeRun
import Derived.Maps.OwnOps
import Derived.Maps.RangeWalk

namespace Go.Proofs.YtodjilljcjkacaaGreatDoor
open Lib (hid)
section
open Go.RowKit
theorem rowsInfo:(Tryz.prog.info? 40).map (fun i=>(i.zero,i.size,i.bytes))=some (some (.slice none 0 0),1,24):=by kernel_rfl
def Rd (w:World) (A:Option Addr) (n c:Nat) (L:List (List UInt8)):Prop :=
  L.length=n∧n≤c∧c≤maxLen∧(0<n→∃ b o,A=some ⟨b,o,none⟩∧b<w.heap.size∧∀ (i:Nat) (x:List UInt8),L[i]?=some x→∃ Ai ci,w.cell? ⟨b,o+i,none⟩=some (.slice Ai x.length ci)∧Bs w Ai x.length ci x)
theorem Rd.nmax {w:World} {A:Option Addr} {n c:Nat} {L:List (List UInt8)} (h:Rd w A n c L):n≤9223372036854775807:=by
  have:=h.2.1
  have:=h.2.2.1
  simp only [maxLen] at this
  omega
theorem Rd.below {w w':World} {A:Option Addr} {n c:Nat} {L:List (List UInt8)} (h:Rd w A n c L) (hb:Below w.heap.size w w'):Rd w' A n c L :=
  ⟨h.1,h.2.1,h.2.2.1,fun hn=>by
    obtain ⟨b,o,e,hlt,hc⟩:=h.2.2.2 hn
    exact ⟨b,o,e,Nat.lt_of_lt_of_le hlt hb.size,fun i x hx=>by
      obtain ⟨Ai,ci,h1,h2⟩:=hc i x hx
      exact ⟨Ai,ci,(hb.cell (p:=⟨b,o+i,none⟩) hlt).trans h1,h2.below hb⟩⟩⟩
theorem Rd.read {w:World} {A:Option Addr} {n c:Nat} {L:List (List UInt8)} (h:Rd w A n c L) {i:Nat} (hi:i<n):∃ b o Ai ci,A=some ⟨b,o,none⟩∧b<w.heap.size∧w.cell? ⟨b,o+i,none⟩=some (.slice Ai (L.getD i []).length ci)∧Bs w Ai (L.getD i []).length ci (L.getD i []):=by
  obtain ⟨b,o,e,hlt,hc⟩:=h.2.2.2 (by omega)
  obtain ⟨Ai,ci,h1,h2⟩:=hc i (L.getD i []) (by rw [List.getD_eq_getElem?_getD,List.getElem?_eq_getElem (by rw [h.1];exact hi)];rfl)
  exact ⟨b,o,Ai,ci,e,hlt,h1,h2⟩
theorem step_appRow {ops:Array Oper} {o:Oper} {a:Act} {w:World} {K:Act→World→Prop} {Q:Exit→Act→World→Prop} {E:Prop} (hgd:o.guard=none) (s x:Operand)
    (ho:o.op=.call { callee:=.builtin .append,args:=#[s,x],argTypes:=#[41,41] }) (base:Nat)
    (v:Value) (n:Nat) (xs:List Value) (hs:a.eval s=v) (hown:w.ownsRow base 40 1 v n xs) (g:Nat) (u:Value) (hu1:u.oneCell'=true) (hx:a.eval x=.slice (some ⟨g,0,none⟩) 1 1) (hg:w.heap[g]?=some (.cells #[u] 40)) (hn:n≤1099511627770) (hbase:base≤w.heap.size)
    (h:∀ v' w',w'.ownsRow base 40 1 v' (n+1) (xs++[u])→w.grownBy w' v.ownBlock→(v'.ownBlock=v.ownBlock∨v'.ownBlock=some w.heap.size)→K (a.put o.dst v') w') :
    if Region.wanted o (yielded ops a.tmps)=true then Oper.wp Tryz.prog o a w K Q else E:=by
  have hw:Region.wanted o (yielded ops a.tmps)=true:=by simp [Region.wanted,hgd]
  rw [if_pos hw]
  obtain ⟨i,hi,hzz⟩:=Option.map_eq_some_iff.1 rowsInfo
  simp only [Prod.mk.injEq] at hzz
  obtain ⟨v',w',hrun,h2,h3,_,h5⟩:=run_append_own_at (P:=Tryz.prog) w base 41 o.type 40 i (.slice none 0 0) 1 24 Tryz.underlying41 hi hzz.1 hzz.2.1 hzz.2.2 rfl (by decide) v n xs hown ⟨g,0,none⟩ 1 1 [u] rfl
    (fun j z hz=>by
      have hj:j=0:=by
        rcases Nat.lt_or_ge j 1 with h|h
        · omega
        · rw [List.getElem?_eq_none (by simpa using h)] at hz;cases hz
      subst hj
      rw [Addr.add_lit,Nat.zero_add,cell_of_row w g 0 _ _ _ hg]
      exact hz) (fun z hz=>by simp at hz;subst hz;exact hu1) (by simp only [maxLen];omega) (by omega) hbase
  unfold Oper.wp
  simp [execOp,ho,resolve,invoke,builtin,hs,hx,hrun,Result.andThen]
  exact h v' w' h2 h3 h5
end
section
open Go.RowKit
set_option maxRecDepth 100000 in
set_option maxHeartbeats 2000000 in
theorem refPut13 (A:Option Addr) (n c:Nat) (l:List UInt8) (w:World) (hB:Bs w A n c l) (hn:n≤1000000000) :
    Calls Tryz.prog 88 #[.slice A n c] w (RetS (record l) w):=by
  have HB:=hid hB
  have HL:l.length=n:=hB.len
  have hx:n<4294967296:=by omega
  have hw32:IntKind.u32.wrap (n:Int)=(n:Int):=by rw [IntKind.wrap_u32];omega
  have hs:=Crc.sum_lt (s:=0) (be4 n++l) (by omega)
  have HLH:=hid HL
  clear hB HL
  go_enter Tryz.func88,Tryz.ntmps88
  go_wp2_with (fail)
  refine (refFour n w hx).mono ?_
  rintro e w' ⟨p,q,r,s,hbe,rfl,rfl⟩
  have HBE:=hid hbe
  have HB1:Hid (Below w.heap.size w (w.alloc (.cells #[.int .u8 (p.toNat:Int),.int .u8 (q.toNat:Int),.int .u8 (r.toNat:Int),.int .u8 (s.toNat:Int)] 5))):=hid ((Below.refl _ _).alloc (Nat.le_refl _) _)
  have HF1:=hid (Bs.lit w [p,q,r,s] 5 #[.int .u8 (p.toNat:Int),.int .u8 (q.toNat:Int),.int .u8 (r.toNat:Int),.int .u8 (s.toNat:Int)] w.heap.size rfl rfl rfl (by simp [maxLen]))
  rw [show ([p,q,r,s]:List UInt8).length=4 from rfl] at HF1
  clear hbe
  have HBL:=hid (HB.out.below HB1.out)
  obtain ⟨g0,hg0⟩:∃ g0,w.heap.size=g0:=⟨_,rfl⟩
  rw [hg0] at HF1 HB1 ⊢
  have HG0:=hid hg0
  have HZ1:Hid (g0≤(w.alloc (.cells #[.int .u8 (p.toNat:Int),.int .u8 (q.toNat:Int),.int .u8 (r.toNat:Int),.int .u8 (s.toNat:Int)] 5)).heap.size):=hid (by have:=HB1.out.size;rw [hg0] at this;exact this)
  clear hg0
  generalize (w.alloc (.cells #[.int .u8 (p.toNat:Int),.int .u8 (q.toNat:Int),.int .u8 (r.toNat:Int),.int .u8 (s.toNat:Int)] 5))=w1 at *
  have tok1:True:=trivial
  have tok2:True:=trivial
  go_wp2_with (first
    | (at_builtin;have _t:=tok1;go_loud ((refine wpList_app rfl (.tmp 9) (.tmp 10) 40 rfl w1.heap.size 5 Tryz.underlying40 byteInfo _ [] rfl (Own.lit 5 w1 [] (Nat.le_refl _) (by simp [maxLen])) _ 4 4 [p,q,r,s] rfl (HF1.out.alloc _) (by simp) (by simp) ?_;intro v2 w2 hown2 hb2 hg2;have b2:=(((Below.refl _ w1).alloc (Nat.le_refl _) _)).trans hb2;clear tok1 hb2 hg2 _t)))
    | (at_builtin;have _t:=tok2;go_loud ((refine wpList_app rfl (.tmp 11) (.tmp 12) 40 rfl w1.heap.size 5 Tryz.underlying40 byteInfo _ ([]++[p,q,r,s]) rfl hown2 _ n c l rfl (HBL.out.below b2) (by simp;omega) b2.size ?_;intro v3 w3 hown3 hb3 hg3;have b3:=b2.trans hb3;clear tok2 hb3 hg3 _t))))
  have hE:([]++[p,q,r,s]++l:List UInt8)=be4 n++l:=by rw [HBE.out];rfl
  rw [hE] at hown3
  obtain ⟨A3,c3,rfl,hB3,_⟩:=hown3.bs
  have hEL:(be4 n++l).length=n+4:=by simp [be4,HLH.out];try omega
  rw [hEL] at hB3 ⊢
  have HB3:=hid (HB1.out.trans (b3.mono HZ1.out))
  have HF3:=hid (HF1.out.below b3)
  have HZ3:=hid b3.size
  have HBL3:=hid (HBL.out.below b3)
  have HX3:=hid hB3
  have HSL:=hid hEL
  clear hB3 hown3 b3 b2 hown2 hE hEL
  refine (refSum A3 (n+4) c3 (be4 n++l) w3 HX3.out).mono ?_
  rintro e w' ⟨rfl,rfl⟩
  have HREC:Hid (record l=[]++[p,q,r,s]++be4 (Crc.sum 0 (be4 n++l))++l):=hid (by unfold record;rw [HLH.out,HBE.out];rfl)
  generalize Crc.sum 0 (be4 n++l)=x at *
  have tok3:True:=trivial
  have tok4:True:=trivial
  have tok5:True:=trivial
  go_wp2_with (at_builtin;have _t:=tok3;go_loud ((refine wpList_app rfl (.tmp 15) (.tmp 16) 40 rfl w3.heap.size 5 Tryz.underlying40 byteInfo _ [] rfl (Own.lit 5 w3 [] (Nat.le_refl _) (by simp [maxLen])) _ 4 4 [p,q,r,s] rfl (HF3.out.alloc _) (by simp) (by simp) ?_;intro v4 w4 hown4 hb4 hg4;have b4:=(((Below.refl _ w3).alloc (Nat.le_refl _) _)).trans hb4;clear tok3 hb4 hg4 _t)))
  refine (refFour x w4 hs).mono ?_
  rintro e w' ⟨p2,q2,r2,s2,hbe2,rfl,rfl⟩
  have HBE2:=hid hbe2
  have HO5:=hid (hown4.alloc (.cells #[.int .u8 (p2.toNat:Int),.int .u8 (q2.toNat:Int),.int .u8 (r2.toNat:Int),.int .u8 (s2.toNat:Int)] 5))
  have HB4:=hid b4
  have hz4:=b4.size
  clear hbe2 hown4 b4
  go_wp2_with (first
    | (at_builtin;have _t:=tok4;go_loud ((refine wpList_app rfl (.tmp 17) (.tmp 19) 40 rfl w3.heap.size 5 Tryz.underlying40 byteInfo _ ([]++[p,q,r,s]) rfl HO5.out _ 4 4 [p2,q2,r2,s2] rfl (Bs.lit w4 [p2,q2,r2,s2] _ _ _ rfl rfl rfl (by simp [maxLen])) (by simp) (by simp;omega) ?_;intro v5 w5 hown5 hb5 hg5;have b5:=(HB4.out.alloc HB4.out.size _).trans hb5;clear tok4 hb5 hg5 _t)))
    | (at_builtin;have _t:=tok5;go_loud ((refine wpList_app rfl (.tmp 20) (.tmp 21) 40 rfl w3.heap.size 5 Tryz.underlying40 byteInfo _ ([]++[p,q,r,s]++[p2,q2,r2,s2]) rfl hown5 _ n c l rfl (HBL3.out.below b5) (by simp;omega) b5.size ?_;intro v6 w6 hown6 hb6 hg6;have b6:=b5.trans hb6;clear tok5 hb6 hg6 _t))))
  go_ret
  have e:[]++[p,q,r,s]++[p2,q2,r2,s2]++l=record l:=by rw [HREC.out,HBE2.out]
  rw [e] at hown6
  obtain ⟨A7,c7,rfl,hB7,_⟩:=hown6.bs
  have h0:=HB3.out.trans (b6.mono (Nat.le_trans HZ1.out HZ3.out))
  exact ⟨A7,c7,rfl,hB7,by rw [HG0.out];exact h0⟩
theorem beNum_four (p q r s:UInt8):(beNum [p,q,r,s]:Int)=(p.toNat:Int)*16777216+q.toNat*65536+r.toNat*256+s.toNat:=by
  simp only [beNum,List.foldl_cons,List.foldl_nil]
  omega
theorem record_take {l:List UInt8} (h8:8≤l.length) (_hok:okLen (beNum (l.take 4))=true) (hk:beNum (l.take 4)≤l.length-8) :
    record ((l.drop 8).take (beNum (l.take 4)))=l.take (8+beNum (l.take 4)) ↔ Crc.sum 0 (l.take 4++(l.drop 8).take (beNum (l.take 4)))=beNum ((l.drop 4).take 4):=by
  have h4:(l.take 4).length=4:=by rw [List.length_take];omega
  have h5:((l.drop 4).take 4).length=4:=by rw [List.length_take,List.length_drop];omega
  have hl:((l.drop 8).take (beNum (l.take 4))).length=beNum (l.take 4):=by rw [List.length_take,List.length_drop];omega
  have hb:=be4_beNum h4
  have hs:=Crc.sum_lt (s:=0) (l.take 4++(l.drop 8).take (beNum (l.take 4))) (by omega)
  have hsplit:l.take (8+beNum (l.take 4))=l.take 4++(l.drop 4).take 4++(l.drop 8).take (beNum (l.take 4)):=by
    have e1:l.take (8+beNum (l.take 4))=l.take 8++(l.drop 8).take (beNum (l.take 4)):=List.take_add
    have e2:l.take (4+4)=l.take 4++(l.drop 4).take 4:=List.take_add
    rw [e1,show 8=4+4 from rfl,e2]
  have e:record ((l.drop 8).take (beNum (l.take 4)))=l.take 4++be4 (Crc.sum 0 (l.take 4++(l.drop 8).take (beNum (l.take 4))))++(l.drop 8).take (beNum (l.take 4)):=by
    unfold record
    rw [hl,hb]
  rw [hsplit,e]
  constructor
  · intro h
    have h1:=List.append_inj_left (List.append_cancel_right h) rfl
    have h2:be4 (Crc.sum 0 (l.take 4++(l.drop 8).take (beNum (l.take 4))))=(l.drop 4).take 4:=List.append_cancel_left (List.append_cancel_right h)
    rw [← h2,beNum_be4 hs]
  · intro h
    rw [h,be4_beNum h5]
set_option maxRecDepth 100000 in
set_option maxHeartbeats 4000000 in
theorem refGet13 (A:Option Addr) (n c:Nat) (l:List UInt8) (w:World) (hB:Bs w A n c l) (hn:n≤2000000000) :
    Calls Tryz.prog 76 #[.slice A n c] w (RetGN (getGet l) (getLen l) (getErr l) w):=by
  have hlen:=hB.len
  have hcm:=hB.max
  have hle:=hB.le
  by_cases h8:n<8
  · have e:getErr l=7:=by unfold getErr;rw [if_pos (by omega)]
    rw [(get_err e (by omega)).1,(get_err e (by omega)).2,e]
    clear e hlen hB
    go_enter Tryz.func76,Tryz.ntmps76
    go_wp2
    go_ret3
    exact RetGN.none (Below.refl _ _)
  obtain ⟨b,o,rfl,hb,_⟩:=hB.at_ (by omega)
  have H4:=hid (hB.take (j:=4) (by omega))
  have h6:=hB.drop (i:=8) (by omega)
  rw [Option.map_some,Addr.add_lit] at h6
  obtain ⟨k,hk⟩:∃ k,n=k+8:=⟨n-8,by omega⟩
  subst hk
  rw [show k+8-8=k from by omega] at h6
  obtain ⟨R,hR⟩:∃ R,(if c=8 then some (⟨b,o,none⟩:Addr) else some ⟨b,o+8,none⟩)=R:=⟨_,rfl⟩
  rw [hR] at h6
  have H6:=hid h6
  have HB:=hid hB
  obtain ⟨p,q,r,s,h4⟩:=four H4.out.len
  have HH4:Hid (l.take 4=[p,q,r,s]):=hid h4
  have hnum:=beNum_four p q r s
  rw [← h4] at hnum
  have HNUM:=hid hnum
  have HE:Hid (getErr l=if okLen (beNum (l.take 4))=false then 9 else if k<beNum (l.take 4) then 7 else if Crc.sum 0 (l.take 4++(l.drop 8).take (beNum (l.take 4)))=beNum ((l.drop 4).take 4) then 0 else 8):=by
    show getErr l=_
    unfold getErr
    rw [if_neg (by omega),hlen,show k+8-8=k from by omega]
  have HG:Hid (getErr l=0→getGet l=(l.drop 8).take (beNum (l.take 4))∧getLen l=8+beNum (l.take 4)):=fun h=>⟨by unfold getGet;rw [if_pos h],by unfold getLen;rw [if_pos h]⟩
  have HRT:Hid (okLen (beNum (l.take 4))=true→beNum (l.take 4)≤k→(record ((l.drop 8).take (beNum (l.take 4)))=l.take (8+beNum (l.take 4)) ↔ Crc.sum 0 (l.take 4++(l.drop 8).take (beNum (l.take 4)))=beNum ((l.drop 4).take 4))):=hid (fun h1 h2=>record_take (by omega) h1 (by omega))
  have HN4:=hid (fun (W:World) (h:Bs W (some ⟨b,o,none⟩) 4 c (l.take 4))=>refNumber (some ⟨b,o,none⟩) c p q r s W (by rw [← h4];exact h))
  rw [← hnum] at HN4
  generalize beNum (l.take 4)=x at *
  generalize beNum ((l.drop 4).take 4)=y at *
  clear hB h6 h4 hnum hlen
  by_cases hx:okLen x=false
  · have e:=HE.out
    rw [if_pos hx] at e
    rw [(get_err e (by omega)).1,(get_err e (by omega)).2,e]
    have HX:=okLen_no hx
    clear e hx
    by_cases hx1:x<1
    · have hx0:x=0:=by omega
      subst hx0
      clear HX hx1
      go_enter Tryz.func76,Tryz.ntmps76
      go_wp2_with (fail)
      refine (HN4.out w H4.out).mono ?_
      rintro e w' ⟨rfl,m,rfl⟩
      go_wp2_with (fail)
      go_ret3
      exact RetGN.none (drawN_below (Below.refl _ _) _)
    · have hx2:65536<x:=by omega
      clear HX
      go_enter Tryz.func76,Tryz.ntmps76
      go_wp2_with (fail)
      refine (HN4.out w H4.out).mono ?_
      rintro e w' ⟨rfl,m,rfl⟩
      go_wp2_with (fail)
      go_ret3
      exact RetGN.none (drawN_below (Below.refl _ _) _)
  have hok:okLen x=true:=by cases h:okLen x with
    | true=>rfl
    | false=>exact absurd h hx
  have hx2:=okLen_yes hok
  have e:=HE.out
  rw [if_neg hx] at e
  have hx1:=hx2.1
  have hx3:=hx2.2
  clear hx hx2
  by_cases hk:k<x
  · rw [if_pos hk] at e
    rw [(get_err e (by omega)).1,(get_err e (by omega)).2,e]
    clear e
    go_enter Tryz.func76,Tryz.ntmps76
    go_wp2_with (fail)
    refine (HN4.out w H4.out).mono ?_
    rintro e w' ⟨rfl,m,rfl⟩
    go_wp2_with (fail)
    go_ret3
    exact RetGN.none (drawN_below (Below.refl _ _) _)
  rw [if_neg hk] at e
  have hRT:=HRT.out hok (by omega)
  have HOK:=hid hok
  obtain ⟨j,hj⟩:∃ j,j=8+x:=⟨_,rfl⟩
  have HX6:=hid (H6.out.take (j:=x) (by omega))
  have HT:=hid (HB.out.take (j:=j) (by omega))
  rw [← hj] at hRT
  have hji:(8:Int)+(x:Int)=(j:Int):=by omega
  have hjx:j-8=x:=by omega
  have hj8:8≤j:=by omega
  have hjc:j≤c:=by omega
  have hjci:(j:Int)≤(c:Int):=by omega
  have hkx:¬ (k:Int)<(x:Int):=by omega
  have hwj:IntKind.i64.wrap (j:Int)=(j:Int):=IntWalk.i64_in _ (by omega)
  have hj80:(8:Int)≤(j:Int):=by omega
  have HJ:Hid (j=8+x):=hid hj
  have HKX:Hid (¬ k<x):=hid hk
  clear hj hk HRT hok
  generalize hX:(l.drop 8).take x=X at *
  generalize hT:l.take j=tk at *
  have HXX:=hid hX
  have HTT:=hid hT
  have HRT:=hid hRT
  have HEE:=hid e
  clear hX hT hRT e
  have HOKK:=HOK
  by_cases hs:Crc.sum 0 (l.take 4++X)=y
  · have hrec:=HRT.out.2 hs
    have e:=HEE.out
    rw [if_pos hs] at e
    have HEE:=hid e
    have hg:=HG.out e
    have HG1:=hid hg
    clear hs e hg
    go_enter Tryz.func76,Tryz.ntmps76
    go_wp2_with (fail)
    refine (HN4.out w H4.out).mono ?_
    rintro e w' ⟨rfl,m,rfl⟩
    have HBD:Hid (Below w.heap.size w (w.drewN m)):=hid (drawN_below (Below.refl _ _) m)
    generalize w.drewN m=w1 at *
    have HZ1:=hid HBD.out.size
    go_wp2_with (fail)
    refine wp_region_held_drew (S:=fun w'=>(convert 40 9 (.slice (some ⟨b,o,none⟩) j c)).run Tryz.prog w'=.ok (.string (txt tk)) w') (by kernel_rfl) ?_ (fun hHeld=>?_)
    · exact ((HT.out.below HBD.out).drew).str (P:=Tryz.prog) 40 5 9 Tryz.underlying40 Tryz.underlying5 Tryz.underlying9
    refine wpAnyH_take (i:=0) (oi:=_) (v:=?v1) rfl (by kernel_rfl) (by kernel_rfl) (by kernel_rfl) (fun _ _ _ h=>h) (Or.inl ⟨by rfl,?hy1⟩) hHeld ?rest1
    case hy1 =>
      intro w hSw
      (try dsimp only at hSw)
      go_simp
      (try with_reducible rfl)
    (try simp only [Act.put])
    refine wpAnyH_take (i:=1) (oi:=_) (v:=?v2) rfl (by kernel_rfl) (by kernel_rfl) (by kernel_rfl) (fun _ _ _ h=>h) (Or.inl ⟨by rfl,?hy2⟩) hHeld ?rest2
    case hy2 =>
      intro w hSw
      (try dsimp only at hSw)
      go_simp
      (try with_reducible rfl)
    (try simp only [Act.put])
    refine wpAnyH_take (i:=2) (oi:=_) (v:=?v3) rfl (by kernel_rfl) (by kernel_rfl) (by kernel_rfl) (fun _ _ _ h=>h) (Or.inl ⟨by rfl,?hy3⟩) hHeld ?rest3
    case hy3 =>
      intro w hSw
      (try dsimp only at hSw)
      go_simp
      (try with_reducible rfl)
    (try simp only [Act.put])
    refine wpAnyH_take (i:=3) (oi:=_) (v:=?v4) rfl (by kernel_rfl) (by kernel_rfl) (by kernel_rfl) (fun _ _ _ h=>h) (Or.inl ⟨by rfl,?hy4⟩) hHeld ?rest4
    case hy4 =>
      intro w hSw
      (try dsimp only at hSw)
      go_simp
      (try with_reducible rfl)
    (try simp only [Act.put])
    refine wpAnyH_take (i:=6) (oi:=_) (v:=?v5) rfl (by kernel_rfl) (by kernel_rfl) (by kernel_rfl) (fun _ _ _ h=>h) (Or.inl ⟨by rfl,?hy5⟩) hHeld ?rest5
    case hy5 =>
      intro w hSw
      (try dsimp only at hSw)
      go_simp
      (try with_reducible rfl)
    (try simp only [Act.put])
    refine wpAnyH_take (i:=7) (oi:=_) (v:=?v6) rfl (by kernel_rfl) (by kernel_rfl) (by kernel_rfl) (fun _ _ _ h=>h) (Or.inl ⟨by rfl,?hy6⟩) hHeld ?rest6
    case hy6 =>
      intro w hSw
      (try dsimp only at hSw)
      go_simp
      (try with_reducible rfl)
    (try simp only [Act.put])
    refine wpAnyH_take (i:=8) (oi:=_) (v:=?v7) rfl (by kernel_rfl) (by kernel_rfl) (by kernel_rfl) (fun _ _ _ h=>h) (Or.inl ⟨by rfl,?hy7⟩) hHeld ?rest7
    case hy7 =>
      intro w hSw
      (try dsimp only at hSw)
      go_simp
      (try with_reducible rfl)
    (try simp only [Act.put])
    refine wpAnyH_take (i:=9) (oi:=_) (v:=?v8) rfl (by kernel_rfl) (by kernel_rfl) (by kernel_rfl) (fun _ _ _ h=>h) (Or.inl ⟨by rfl,?hy8⟩) hHeld ?rest8
    case hy8 =>
      intro w hSw
      (try dsimp only at hSw)
      go_simp
      (try with_reducible rfl)
    (try simp only [Act.put])
    refine wpAnyH_take (i:=10) (oi:=_) (v:=?v9) rfl (by kernel_rfl) (by kernel_rfl) (by kernel_rfl) (fun _ _ _ h=>h) (Or.inl ⟨by rfl,?hy9⟩) hHeld ?rest9
    case hy9 =>
      intro w hSw
      (try dsimp only at hSw)
      go_simp
      (try with_reducible rfl)
    (try simp only [Act.put])
    refine wpAnyH_ready (rs:=[4]) (by kernel_rfl) (by simp) (AllReadyH.cons (o:=_) rfl (fun K hK=>?_) AllReadyH.nil)
    go_simp
    refine (refPut13 R x (c-8) X _ ((HX6.out.below HBD.out).drew) (by omega)).mono ?_
    rintro e w2 ⟨A2,c2,rfl,hB2,hb2⟩
    rw [hrec] at hB2 ⊢
    have HB2:Hid (Below w.heap.size w w2):=hid ((HBD.out.drew).trans (hb2.mono HZ1.out))
    dsimp only
    refine hK.out _ _ ?_ (fun hHeld=>?_)
    · exact (HT.out.below HB2.out).str (P:=Tryz.prog) 40 5 9 Tryz.underlying40 Tryz.underlying5 Tryz.underlying9
    clear hK K
    have hHeld:(convert 40 9 (.slice (some ⟨b,o,none⟩) j c)).run Tryz.prog w2=.ok (.string (txt tk)) w2∧(convert 40 9 (.slice A2 tk.length c2)).run Tryz.prog w2=.ok (.string (txt tk)) w2:=⟨hHeld,hB2.str (P:=Tryz.prog) 40 5 9 Tryz.underlying40 Tryz.underlying5 Tryz.underlying9⟩
    refine wpAnyH_imp (S':=fun w'=>(convert 40 9 (.slice (some ⟨b,o,none⟩) j c)).run Tryz.prog w'=.ok (.string (txt tk)) w'∧(convert 40 9 (.slice A2 tk.length c2)).run Tryz.prog w'=.ok (.string (txt tk)) w') (fun _ h=>h.1) _ _ _ _ ?_
    refine wpAnyH_take (i:=5) (oi:=_) (v:=?v10) rfl (by kernel_rfl) (by kernel_rfl) (by kernel_rfl) (fun _ _ _ h=>h) (Or.inl ⟨by rfl,?hy10⟩) hHeld ?rest10
    case hy10 =>
      intro w hSw
      (try dsimp only at hSw)
      go_simp
      (try with_reducible rfl)
    (try simp only [Act.put])
    refine wpAnyH_take (i:=11) (oi:=_) (v:=?v11) rfl (by kernel_rfl) (by kernel_rfl) (by kernel_rfl) (fun _ _ _ h=>h) (Or.inl ⟨by rfl,?hy11⟩) hHeld ?rest11
    case hy11 =>
      intro w hSw
      (try dsimp only at hSw)
      go_simp
      (try with_reducible rfl)
    (try simp only [Act.put])
    refine wpAnyH_done (by kernel_rfl) ?_ _
    have tok1:True:=trivial
    have hRR:R=some ⟨b,o+8,none⟩:=by rw [← hR,if_neg (by omega)]
    have HXB:=hid (HX6.out.below HB2.out)
    rw [hRR] at HXB
    clear hRR
    go_wp2_with (at_builtin;have _t:=tok1;go_loud ((refine wpList_app rfl (.tmp 35) (.tmp 39) 40 rfl w2.heap.size 5 Tryz.underlying40 byteInfo _ [] rfl (Own.lit 5 w2 [] (Nat.le_refl _) (by simp [maxLen])) (some ⟨b,o+8,none⟩) x (c-8) X rfl (HXB.out.alloc _) (by simp;omega) (by simp) ?_;intro v4 w4 hown4 hb4 hg4;have b4:=(((Below.refl _ w2).alloc (Nat.le_refl _) _)).trans hb4;rw [List.nil_append] at hown4;obtain ⟨A4,c4,rfl,hB4,hlo4⟩:=hown4.bs;clear tok1 hb4 hg4 _t)))
    go_ret3
    rw [HG1.out.1,HG1.out.2,HEE.out]
    exact ⟨A4,c4,by rw [show ((8+x:Nat):Int)=(j:Int) from by omega];rfl,hB4,fun b hb=>Nat.le_trans HB2.out.size (hlo4 b hb),HB2.out.trans (b4.mono HB2.out.size)⟩
  · have hrec:(record X == tk)=false:=by rw [beq_eq_false_iff_ne];exact fun h=>hs (HRT.out.1 h)
    have e:=HEE.out
    rw [if_neg hs] at e
    rw [(get_err e (by omega)).1,(get_err e (by omega)).2,e]
    clear hs e
    go_enter Tryz.func76,Tryz.ntmps76
    go_wp2_with (fail)
    refine (HN4.out w H4.out).mono ?_
    rintro e w' ⟨rfl,m,rfl⟩
    have HBD:Hid (Below w.heap.size w (w.drewN m)):=hid (drawN_below (Below.refl _ _) m)
    generalize w.drewN m=w1 at *
    have HZ1:=hid HBD.out.size
    go_wp2_with (fail)
    refine wp_region_held_drew (S:=fun w'=>(convert 40 9 (.slice (some ⟨b,o,none⟩) j c)).run Tryz.prog w'=.ok (.string (txt tk)) w') (by kernel_rfl) ?_ (fun hHeld=>?_)
    · exact ((HT.out.below HBD.out).drew).str (P:=Tryz.prog) 40 5 9 Tryz.underlying40 Tryz.underlying5 Tryz.underlying9
    refine wpAnyH_take (i:=0) (oi:=_) (v:=?v12) rfl (by kernel_rfl) (by kernel_rfl) (by kernel_rfl) (fun _ _ _ h=>h) (Or.inl ⟨by rfl,?hy12⟩) hHeld ?rest12
    case hy12 =>
      intro w hSw
      (try dsimp only at hSw)
      go_simp
      (try with_reducible rfl)
    (try simp only [Act.put])
    refine wpAnyH_take (i:=1) (oi:=_) (v:=?v13) rfl (by kernel_rfl) (by kernel_rfl) (by kernel_rfl) (fun _ _ _ h=>h) (Or.inl ⟨by rfl,?hy13⟩) hHeld ?rest13
    case hy13 =>
      intro w hSw
      (try dsimp only at hSw)
      go_simp
      (try with_reducible rfl)
    (try simp only [Act.put])
    refine wpAnyH_take (i:=2) (oi:=_) (v:=?v14) rfl (by kernel_rfl) (by kernel_rfl) (by kernel_rfl) (fun _ _ _ h=>h) (Or.inl ⟨by rfl,?hy14⟩) hHeld ?rest14
    case hy14 =>
      intro w hSw
      (try dsimp only at hSw)
      go_simp
      (try with_reducible rfl)
    (try simp only [Act.put])
    refine wpAnyH_take (i:=3) (oi:=_) (v:=?v15) rfl (by kernel_rfl) (by kernel_rfl) (by kernel_rfl) (fun _ _ _ h=>h) (Or.inl ⟨by rfl,?hy15⟩) hHeld ?rest15
    case hy15 =>
      intro w hSw
      (try dsimp only at hSw)
      go_simp
      (try with_reducible rfl)
    (try simp only [Act.put])
    refine wpAnyH_take (i:=6) (oi:=_) (v:=?v16) rfl (by kernel_rfl) (by kernel_rfl) (by kernel_rfl) (fun _ _ _ h=>h) (Or.inl ⟨by rfl,?hy16⟩) hHeld ?rest16
    case hy16 =>
      intro w hSw
      (try dsimp only at hSw)
      go_simp
      (try with_reducible rfl)
    (try simp only [Act.put])
    refine wpAnyH_take (i:=7) (oi:=_) (v:=?v17) rfl (by kernel_rfl) (by kernel_rfl) (by kernel_rfl) (fun _ _ _ h=>h) (Or.inl ⟨by rfl,?hy17⟩) hHeld ?rest17
    case hy17 =>
      intro w hSw
      (try dsimp only at hSw)
      go_simp
      (try with_reducible rfl)
    (try simp only [Act.put])
    refine wpAnyH_take (i:=8) (oi:=_) (v:=?v18) rfl (by kernel_rfl) (by kernel_rfl) (by kernel_rfl) (fun _ _ _ h=>h) (Or.inl ⟨by rfl,?hy18⟩) hHeld ?rest18
    case hy18 =>
      intro w hSw
      (try dsimp only at hSw)
      go_simp
      (try with_reducible rfl)
    (try simp only [Act.put])
    refine wpAnyH_take (i:=9) (oi:=_) (v:=?v19) rfl (by kernel_rfl) (by kernel_rfl) (by kernel_rfl) (fun _ _ _ h=>h) (Or.inl ⟨by rfl,?hy19⟩) hHeld ?rest19
    case hy19 =>
      intro w hSw
      (try dsimp only at hSw)
      go_simp
      (try with_reducible rfl)
    (try simp only [Act.put])
    refine wpAnyH_take (i:=10) (oi:=_) (v:=?v20) rfl (by kernel_rfl) (by kernel_rfl) (by kernel_rfl) (fun _ _ _ h=>h) (Or.inl ⟨by rfl,?hy20⟩) hHeld ?rest20
    case hy20 =>
      intro w hSw
      (try dsimp only at hSw)
      go_simp
      (try with_reducible rfl)
    (try simp only [Act.put])
    refine wpAnyH_ready (rs:=[4]) (by kernel_rfl) (by simp) (AllReadyH.cons (o:=_) rfl (fun K hK=>?_) AllReadyH.nil)
    go_simp
    refine (refPut13 R x (c-8) X _ ((HX6.out.below HBD.out).drew) (by omega)).mono ?_
    rintro e w2 ⟨A2,c2,rfl,hB2,hb2⟩
    have HB2:Hid (Below w.heap.size w w2):=hid ((HBD.out.drew).trans (hb2.mono HZ1.out))
    dsimp only
    refine hK.out _ _ ?_ (fun hHeld=>?_)
    · exact (HT.out.below HB2.out).str (P:=Tryz.prog) 40 5 9 Tryz.underlying40 Tryz.underlying5 Tryz.underlying9
    clear hK K
    have hHeld:(convert 40 9 (.slice (some ⟨b,o,none⟩) j c)).run Tryz.prog w2=.ok (.string (txt tk)) w2∧(convert 40 9 (.slice A2 (record X).length c2)).run Tryz.prog w2=.ok (.string (txt (record X))) w2:=⟨hHeld,hB2.str (P:=Tryz.prog) 40 5 9 Tryz.underlying40 Tryz.underlying5 Tryz.underlying9⟩
    refine wpAnyH_imp (S':=fun w'=>(convert 40 9 (.slice (some ⟨b,o,none⟩) j c)).run Tryz.prog w'=.ok (.string (txt tk)) w'∧(convert 40 9 (.slice A2 (record X).length c2)).run Tryz.prog w'=.ok (.string (txt (record X))) w') (fun _ h=>h.1) _ _ _ _ ?_
    refine wpAnyH_take (i:=5) (oi:=_) (v:=?v21) rfl (by kernel_rfl) (by kernel_rfl) (by kernel_rfl) (fun _ _ _ h=>h) (Or.inl ⟨by rfl,?hy21⟩) hHeld ?rest21
    case hy21 =>
      intro w hSw
      (try dsimp only at hSw)
      go_simp
      (try with_reducible rfl)
    (try simp only [Act.put])
    refine wpAnyH_take (i:=11) (oi:=_) (v:=?v22) rfl (by kernel_rfl) (by kernel_rfl) (by kernel_rfl) (fun _ _ _ h=>h) (Or.inl ⟨by rfl,?hy22⟩) hHeld ?rest22
    case hy22 =>
      intro w hSw
      (try dsimp only at hSw)
      go_simp
      (try with_reducible rfl)
    (try simp only [Act.put])
    refine wpAnyH_done (by kernel_rfl) ?_ _
    go_wp2_with (fail)
    go_ret3
    exact RetGN.none HB2.out
end
section
open Go.RowKit Go.MapKept
structure KeyK (P:Program) (k:TypeId) (κ:Type) [DecidableEq κ] (kv:κ→Value) where
  d:TypeDesc
  und:P.underlying k=some d
  key:∀ a,IsKey d (kv a)
  same:∀ a b,Instr.sameNow d (kv a) (kv b)=some (decide (a=b))
  bits:∀ a,Instr.sameBits 10000 (kv a) (kv a)=true
noncomputable def keyString {P:Program} {k:TypeId} (h:P.underlying k=some .string):KeyK P k ByteArray .string :=
  ⟨.string,h,fun _=>trivial,fun a b=>by simp only [Instr.sameNow,Option.some.injEq];rw [Bool.eq_iff_iff,bytes_beq,decide_eq_true_iff],fun a=>by simp only [Instr.sameBits];exact (bytes_beq a a).2 rfl⟩
theorem modify_at {α:Type} (f:α→α):∀ (l:List α) (j:Nat) (h:j<l.length),l.modify j f=l.set j (f l[j])
  | _ :: _,0,_=>rfl
  | a :: l,j+1,h=>by
    have:=modify_at f l j (by simpa using h)
    simp [this]
def aget {κ:Type} [DecidableEq κ]:List (κ × Value)→κ→Option Value
  | [],_=>none
  | (a,v) :: r,k=>if k=a then some v else aget r k
def aidx {κ:Type} [DecidableEq κ]:List (κ × Value)→κ→Option Nat
  | [],_=>none
  | (a,_) :: r,k=>if k=a then some 0 else (aidx r k).map (·+1)
def aset {κ:Type} [DecidableEq κ]:List (κ × Value)→κ→Value→List (κ × Value)
  | [],k,v=>[(k,v)]
  | (a,u) :: r,k,v=>if k=a then (k,v) :: r else (a,u) :: aset r k v
def MapIs {κ:Type} (kv:κ→Value) (w:World) (M:Nat) (L:List (κ × Value)):Prop :=
  ∃ es clock,w.heap[M]?=some (.map es clock)∧es.toList.map (fun e=>(e.key,e.val))=L.map (fun p=>(kv p.1,p.2))∧(∀ x ∈ es.toList,x.born<clock)∧(es.toList.map (·.born)).Nodup
section
variable {P:Program} {k:TypeId} {κ:Type} [DecidableEq κ] {kv:κ→Value}
theorem findNow_list (K:KeyK P k κ kv) (x:κ):∀ (es:List MapEntry) (L:List (κ × Value)) (i:Nat),es.map (fun e=>(e.key,e.val))=L.map (fun p=>(kv p.1,p.2)) →
    Instr.findNow K.d (kv x) es i=some (match aidx L x,aget L x with | some j,some v=>some (i+j,v) | _,_=>none)
  | [],[],_,_=>rfl
  | [],_ :: _,_,h=>by cases h
  | _ :: _,[],_,h=>by cases h
  | e :: es,(a,v) :: L,i,h=>by
    simp only [List.map_cons,List.cons.injEq,Prod.mk.injEq] at h
    obtain ⟨⟨h1,h2⟩,h3⟩:=h
    rw [Instr.findNow,h1,K.same]
    by_cases hx:x=a
    · simp [hx,aidx,aget,h2]
    · have ih:=findNow_list K x es L (i+1) h3
      simp only [hx,decide_false,aidx,aget,if_false,ih]
      cases aidx L x <;> cases aget L x <;> simp
      omega
theorem aidx_aget (L:List (κ × Value)) (x:κ):(aidx L x=none ↔ aget L x=none):=by
  induction L with
  | nil=>simp [aidx,aget]
  | cons p r ih =>
    obtain ⟨a,v⟩:=p
    by_cases h:x=a
    · simp [aidx,aget,h]
    · simp [aidx,aget,h,ih]
theorem run_find (K:KeyK P k κ kv) (w:World) (x:κ) (es:List MapEntry) (L:List (κ × Value)) (h:es.map (fun e=>(e.key,e.val))=L.map (fun p=>(kv p.1,p.2))) :
    (Instr.findKey k (kv x) es).run P w=.ok (match aidx L x,aget L x with | some j,some v=>some (j,v) | _,_=>none) w:=by
  have:=findNow_list K x es L 0 h
  simp only [Nat.zero_add] at this
  exact run_findKey K.und this
theorem run_lookupL (K:KeyK P k κ kv) (T e:TypeId) (ht:P.underlying T=some (.map k e)) (w:World) (M:Nat) (L:List (κ × Value)) (h:MapIs kv w M L) (x:κ) (z:Value) (hz:(zeroValue e).run P w=.ok z w) (ok:Bool) :
    (Instr.lookup T (.map (some M)) (kv x) ok).run P w=.ok (if ok then .tuple #[(aget L x).getD z,.bool (aget L x).isSome] else (aget L x).getD z) w:=by
  obtain ⟨es,clock,hb,hL,_,_⟩:=h
  have hf:=run_find K w x es.toList L hL
  have hc:(Instr.checkKey es.isEmpty 10000 k (kv x)).run P w=.ok () w:=run_checkKey (w:=w) (e:=es.isEmpty) (n:=9999) K.und (K.key x)
  unfold Instr.lookup
  simp only [Sem.run_bind,run_underlying ht,Result.andThen_ok,Go.MapKept.run_getObj_map hb,Sem.run_pure,hc,hf]
  have ha:=aidx_aget L x
  cases h1:aidx L x with
  | none =>
    have h2:=ha.1 h1
    simp [h2,hz,Result.andThen]
  | some j =>
    cases h2:aget L x with
    | none=>rw [ha.2 h2] at h1;cases h1
    | some v=>simp
abbrev reblock (w:World) (M:Nat) (o:Obj):World:={ w with heap:=w.heap.setIfInBounds M o }
theorem reblock_row {w:World} {M:Nat} {o o':Obj} (h:w.heap[M]?=some o):(reblock w M o').heap[M]?=some o':=(heap_set h).1
theorem reblock_ch {w:World} {M:Nat} {o o':Obj} (h:w.heap[M]?=some o):Ch (fun j=>j=M) w (reblock w M o') :=
  ⟨rfl,rfl,rfl,by simp,fun j _ hj=>(heap_set h).2 j hj⟩
theorem reblock_size (w:World) (M:Nat) (o:Obj):(reblock w M o).heap.size=w.heap.size:=by simp
theorem aidx_set (L:List (κ × Value)) (x:κ) (v:Value):(∀ j,aidx L x=some j→j<L.length∧(L.map (fun p=>(kv p.1,p.2))).set j (kv x,v)=(aset L x v).map (fun p=>(kv p.1,p.2)))∧(aidx L x=none→aset L x v=L++[(x,v)]):=by
  induction L with
  | nil=>exact ⟨fun j h=>by simp [aidx] at h,fun _=>rfl⟩
  | cons p r ih =>
    obtain ⟨a,u⟩:=p
    by_cases h:x=a
    · refine ⟨fun j hj=>?_,fun hj=>by simp [aidx,h] at hj⟩
      simp only [aidx,h,if_true,Option.some.injEq] at hj
      subst hj
      simp [aset,h]
    · refine ⟨fun j hj=>?_,fun hj=>?_⟩
      · simp only [aidx,h,if_false,Option.map_eq_some_iff] at hj
        obtain ⟨i,hi,rfl⟩:=hj
        obtain ⟨h1,h2⟩:=ih.1 i hi
        exact ⟨by simp;omega,by simp [aset,h,h2]⟩
      · simp only [aidx,h,if_false,Option.map_eq_none_iff] at hj
        simp [aset,h,ih.2 hj]
theorem run_updateL (K : KeyK P k κ kv) (T e : TypeId) (ht : P.underlying T = some (.map k e)) (w : World) (M : Nat) (L : List (κ × Value)) (h : MapIs kv w M L) (x : κ) (v : Value) :
    ∃ w', (Instr.mapUpdate T (.map (some M)) (kv x) v).run P w = .ok () w' ∧ MapIs kv w' M (aset L x v) ∧ Ch (fun j => j = M) w w' ∧ w'.heap.size = w.heap.size := by
  obtain ⟨es, clock, hb, hL, hbo, hnd⟩ := h
  have hf := run_find K w x es.toList L hL
  have hc : (Instr.checkKey false 10000 k (kv x)).run P w = .ok () w := run_checkKey (w := w) (e := false) (n := 9999) K.und (K.key x)
  have hs := aidx_set (kv := kv) L x v
  have hlen : es.toList.length = L.length := by have := congrArg List.length hL; simpa using this
  have ha := aidx_aget L x
  cases h1 : aidx L x with
  | none =>
    have h2 := ha.1 h1
    rw [h1] at hf
    refine ⟨reblock w M (.map (es.push { key := kv x, val := v, born := clock }) (clock + 1)), ?_, ⟨_, _, reblock_row hb, ?_, ?_, ?_⟩, reblock_ch hb, reblock_size _ _ _⟩
    · unfold Instr.mapUpdate
      simp only [Sem.run_bind, run_underlying ht, Result.andThen_ok, Go.MapKept.run_getObj_map hb, hc, hf]
      exact Go.MapKept.run_setObj_map _ hb
    · rw [hs.2 h1]
      simp [hL]
    · intro y hy
      simp only [Array.toList_push, List.mem_append, List.mem_singleton] at hy
      rcases hy with hy | rfl
      · have := hbo y hy; omega
      · exact Nat.lt_succ_self _
    · simp only [Array.toList_push, List.map_append, List.map_cons, List.map_nil]
      rw [List.nodup_append]
      refine ⟨hnd, by simp, fun a hm b hb' => ?_⟩
      obtain ⟨y, hy, rfl⟩ := List.mem_map.1 hm
      simp only [List.mem_singleton] at hb'
      have := hbo y hy
      omega
  | some j =>
    cases h2 : aget L x with
    | none => rw [ha.2 h2] at h1; cases h1
    | some u =>
      rw [h1, h2] at hf
      obtain ⟨hj, hset⟩ := hs.1 j h1
      have hjs : j < es.size := by have : es.size = es.toList.length := by simp
                                   omega
      have hkey : ((es[j]?).map (·.key)).getD (kv x) = kv x := by
        have e1 : (es.toList.map (fun e => (e.key, e.val)))[j]? = (L.map (fun p => (kv p.1, p.2)))[j]? := by rw [hL]
        rw [List.getElem?_map, List.getElem?_map] at e1
        have e2 : es.toList[j]? = es[j]? := by simp
        rw [e2, Array.getElem?_eq_getElem hjs] at e1
        have e3 : ∀ (L : List (κ × Value)) (j : Nat), aidx L x = some j → ∃ u, L[j]? = some (x, u) := by
          intro L
          induction L with
          | nil => intro j h; simp [aidx] at h
          | cons p r ih =>
            intro j h
            obtain ⟨a, u⟩ := p
            by_cases hx : x = a
            · simp only [aidx, hx, if_true, Option.some.injEq] at h
              subst h
              exact ⟨u, by simp [hx]⟩
            · simp only [aidx, hx, if_false, Option.map_eq_some_iff] at h
              obtain ⟨i, hi, rfl⟩ := h
              obtain ⟨u', hu⟩ := ih i hi
              exact ⟨u', by simpa using hu⟩
        obtain ⟨u', hu⟩ := e3 L j h1
        rw [hu] at e1
        simp only [Option.map_some, Option.some.injEq, Prod.mk.injEq] at e1
        rw [Array.getElem?_eq_getElem hjs]
        simp [e1.1]
      have hks : (Instr.keyThatStays (kv x) (kv x)).run P w = .ok (kv x) w := by unfold Instr.keyThatStays; rw [if_pos (K.bits x)]; rfl
      refine ⟨reblock w M (.map (es.modify j fun e => { e with key := kv x, val := v }) clock), ?_, ⟨_, _, reblock_row hb, ?_, ?_, ?_⟩, reblock_ch hb, reblock_size _ _ _⟩
      · unfold Instr.mapUpdate
        simp only [Sem.run_bind, run_underlying ht, Result.andThen_ok, Go.MapKept.run_getObj_map hb, hc, hf, hkey, hks]
        exact Go.MapKept.run_setObj_map _ hb
      · rw [← hset, ← hL]
        rw [Array.toList_modify, modify_at _ _ _ (by simpa using hjs)]
        simp [List.map_set]
      · intro y hy
        rw [Array.toList_modify, modify_at _ _ _ (by simpa using hjs)] at hy
        rcases List.mem_or_eq_of_mem_set hy with hy | rfl
        · exact hbo y hy
        · exact hbo es.toList[j] (List.getElem_mem _)
      · rw [Array.toList_modify, modify_at _ _ _ (by simpa using hjs)]
        simp only [List.map_set]
        have e3 : (es.toList.map (·.born)).set j es.toList[j].born = es.toList.map (·.born) := by
          apply List.ext_getElem (by simp)
          intro i h3 h4
          rw [List.getElem_set]
          split
          · subst j; simp
          · rfl
        rw [e3]
        exact hnd
end
end
section
open Go.RowKit Go.MapKept
theorem MapIs.new {κ:Type} (kv:κ→Value) (w:World):MapIs kv (w.alloc (.map #[] 0)) w.heap.size []:=⟨#[],0,heap_alloc_new w _,rfl,(fun x hx=>by cases hx),List.nodup_nil⟩
theorem MapIs.lt {κ:Type} {kv:κ→Value} {w:World} {M:Nat} {L:List (κ × Value)} (h:MapIs kv w M L):M<w.heap.size:=by
  obtain ⟨es,clock,hb,_⟩:=h
  exact (Array.getElem?_eq_some_iff.1 hb).1
theorem MapIs.row {κ:Type} {kv:κ→Value} {w w':World} {M:Nat} {L:List (κ × Value)} (h:MapIs kv w M L) (hr:w'.heap[M]?=w.heap[M]?):MapIs kv w' M L:=by
  obtain ⟨es,clock,hb,h1⟩:=h
  exact ⟨es,clock,hr.trans hb,h1⟩
theorem MapIs.ch {κ:Type} {kv:κ→Value} {S:Nat→Prop} {w w':World} {M:Nat} {L:List (κ × Value)} (h:MapIs kv w M L) (c:Ch S w w') (hn:¬ S M):MapIs kv w' M L:=h.row (c.block M h.lt hn)
theorem MapIs.below {κ:Type} {kv:κ→Value} {w w':World} {M:Nat} {L:List (κ × Value)} (h:MapIs kv w M L) (hb:Below w.heap.size w w'):MapIs kv w' M L:=h.row (hb.block M h.lt)
theorem MapIs.ne {κ:Type} {kv:κ→Value} {w:World} {M g:Nat} {L:List (κ × Value)} {c:Array Value} {t:TypeId} {f:Nat × Nat} (h:MapIs kv w M L) (hg:w.heap[g]?=some (.cells c t f)):M≠g:=fun e=>by
  obtain ⟨es,clock,hb,_⟩:=h
  rw [e,hg] at hb
  cases hb
section
variable {P:Program} {k:TypeId} {κ:Type} [DecidableEq κ] {kv:κ→Value} {w:World} {ops:Array Oper} {rest:List Oper} {o:Oper} {a:Act} {Q:Exit→Act→World→Prop}
theorem wpList_lookupL (hg:o.guard=none) (K:KeyK P k κ kv) (m x:Operand) (T e:TypeId) (ok:Bool) (hop:o.op=Op.lookup T m x ok) (ht:P.underlying T=some (.map k e)) (M:Nat) (L:List (κ × Value)) (hm:a.eval m=.map (some M)) (h:MapIs kv w M L) (key:κ) (hx:a.eval x=kv key) (z:Value) (hz:(zeroValue e).run P w=.ok z w)
    (hK:wpList P ops Q rest (a.put o.dst (if ok then .tuple #[(aget L key).getD z,.bool (aget L key).isSome] else (aget L key).getD z)) w):wpList P ops Q (o :: rest) a w:=by
  refine wpList_plain hg fun K' hK'=>?_
  have hrun:=run_lookupL K T e ht w M L h key z hz ok
  unfold Oper.wp
  simp only [execOp,hop,hm,hx,Sem.run_bind,hrun,Result.andThen_ok,Sem.run_pure]
  exact hK' _ _ hK
theorem wpList_updateL (hg:o.guard=none) (K:KeyK P k κ kv) (m x v:Operand) (T e:TypeId) (hop:o.op=Op.mapUpdate T m x v∨o.op=Op.insert T m x v) (ht:P.underlying T=some (.map k e)) (M:Nat) (L:List (κ × Value)) (hm:a.eval m=.map (some M)) (h:MapIs kv w M L) (key:κ) (hx:a.eval x=kv key) (u:Value) (hv:a.eval v=u)
    (hK:∀ w',MapIs kv w' M (aset L key u)→Ch (fun j=>j=M) w w'→w'.heap.size=w.heap.size→wpList P ops Q rest (a.put o.dst undef) w'):wpList P ops Q (o :: rest) a w:=by
  refine wpList_plain hg fun K' hK'=>?_
  obtain ⟨w',hrun,h1,h2,h3⟩:=run_updateL K T e ht w M L h key u
  unfold Oper.wp
  rcases hop with hop|hop
  · simp only [execOp,hop,hm,hx,hv,Sem.run_bind,hrun,Result.andThen_ok,Sem.run_pure]
    exact hK' _ _ (hK w' h1 h2 h3)
  · simp only [execOp,hop,hm,hx,hv,Sem.run_bind,hrun,Result.andThen_ok,Sem.run_pure]
    exact hK' _ _ (hK w' h1 h2 h3)
end
end
end Go.Proofs.YtodjilljcjkacaaGreatDoor
