/- Laid together: Entry, EntryPut, EntryGet, EntryTurnsMath, CrcRef, RowsG0. -/
import Derived.Test.YtodjilljcjkacaaGreatDoorPkIB1
import Derived.RegionTactic
import Derived.BigRegion
import Derived.Laws.EntriesVeiled
import Derived.LoopTactic
import Derived.Deep.QuietTactic
import Derived.Deep.RegionLaw

namespace Go.Proofs.YtodjilljcjkacaaGreatDoor
open Lib (hid)
section
open Go.RowKit
theorem rightLength_yes (n:Int) (w:World) (h1:1≤n) (h2:n≤65536):Calls Tryz.prog 133 #[.int .i64 n] w fun e w'=>e=.returned (.bool true)∧w=w':=by
  have d1:decide ((1:Int)≤n)=true:=by simpa using h1
  have d2:decide (n≤(65536:Int))=true:=by simpa using h2
  go_enter Tryz.func133,Tryz.ntmps133
  go_wp2
  go_ret
  exact ⟨rfl,rfl⟩
theorem rightLength_no (n:Int) (w:World) (h:n<1∨65536<n):Calls Tryz.prog 133 #[.int .i64 n] w fun e w'=>e=.returned (.bool false)∧w=w':=by
  by_cases h1:n<1
  · have d1:decide ((1:Int)≤n)=false:=by simp;omega
    clear h
    go_enter Tryz.func133,Tryz.ntmps133
    go_wp2
    go_ret
    exact ⟨rfl,rfl⟩
  · have d1:decide ((1:Int)≤n)=true:=by simp;omega
    have d2:decide (n≤(65536:Int))=false:=by simp;omega
    clear h h1
    go_enter Tryz.func133,Tryz.ntmps133
    go_wp2
    go_ret
    exact ⟨rfl,rfl⟩
theorem okLen_yes {n:Nat} (h:okLen n=true):1≤n∧n≤65536:=by simpa [okLen] using h
theorem okLen_no {n:Nat} (h:okLen n=false):n<1∨65536<n:=by
  simp [okLen] at h
  omega
theorem entrySize_yes (n:Nat) (w:World) (h:okLen n=true):Calls Tryz.prog 135 #[.int .i64 (n:Int)] w fun e w'=>e=.returned (.int .i64 (8+(n:Int)))∧w=w':=by
  have h1:=okLen_yes h
  have HH:=hid h1
  have b:n≤65536:=h1.2
  clear h1 h
  go_enter Tryz.func135,Tryz.ntmps135
  go_wp2_with (fail)
  refine (rightLength_yes n w (by have:=HH.out;omega) (by have:=HH.out;omega)).mono ?_
  rintro e w' ⟨rfl,rfl⟩
  go_wp2
  go_ret
  exact ⟨rfl,rfl⟩
theorem entrySumOf (A:Option Addr) (n c:Nat) (l:List UInt8) (B:Option Addr) (m d:Nat) (k:List UInt8) (w:World) (hA:Bs w A n c l) (hB:Bs w B m d k) :
    Calls Tryz.prog 134 #[.slice A n c,.slice B m d] w fun e w'=>e=.returned (.int .u32 (Crc.sum 0 (l++k):Nat))∧w=w':=by
  have HA:=hid hA
  have HB:=hid hB
  have HS:=hid (Crc.sum_append 0 l k)
  clear hA hB
  go_enter Tryz.func134,Tryz.ntmps134
  go_wp2_with (fail)
  refine (crcSum A n c l w HA.out).mono ?_
  rintro e w' ⟨rfl,rfl⟩
  go_wp2_with (fail)
  refine (crcUpdate _ B m d k w (Crc.sum_lt _ (by omega)) HB.out).mono ?_
  rintro e w' ⟨rfl,rfl⟩
  go_wp2
  go_ret
  rw [HS.out]
  exact ⟨rfl,rfl⟩
set_option maxRecDepth 100000 in
theorem entryHighest (x:Nat) (w:World) (hx:x<4294967296):Calls Tryz.prog 154 #[.int .u32 (x:Int)] w fun e w'=>∃ p q r s,be4 x=[p,q,r,s]∧e=.returned (.agg #[.int .u8 (p.toNat:Int),.int .u8 (q.toNat:Int),.int .u8 (r.toNat:Int),.int .u8 (s.toNat:Int)])∧Below w.heap.size w w':=by
  have HE:=hid (be4_cells x hx)
  go_enter Tryz.func154,Tryz.ntmps154
  go_wp2
  refine bodyPost_ret (v:=.agg #[Value.int .u8 ((x:Int) / 16777216),.int .u8 ((x:Int) / 65536 % 256),.int .u8 ((x:Int) / 256 % 256),.int .u8 ((x:Int) % 256)]) (by simp [results,Tryz.results154,go_sem]) rfl ⟨_,_,_,_,rfl,?_,(Below.refl _ _).alloc (Nat.le_refl _) _⟩
  rw [HE.out]
  rfl
theorem or_byte (x c:Nat) (hx:x<16777216) (hc:c<256):bits BinOp.or IntKind.u32 ((x:Int)*256) (c:Int)=((x*256+c:Nat):Int):=by
  rw [show ((x:Int)*256)=((x*256:Nat):Int) from by omega,u32_or_nat _ _ (by omega) (by omega)]
  congr 1
  apply Nat.eq_of_testBit_eq
  intro i
  rw [show x*256+c=2 ^ 8*x+c from by omega,Nat.testBit_two_pow_mul_add _ (by omega),Nat.testBit_or,show x*256=2 ^ 8*x from by omega,Nat.testBit_two_pow_mul]
  by_cases h:i<8
  · simp [h,show ¬ 8≤i from by omega]
  · have:Nat.testBit c i=false:=Nat.testBit_lt_two_pow (Nat.lt_of_lt_of_le hc (by
      have:2 ^ 8≤2 ^ i:=Nat.pow_le_pow_right (by omega) (by omega)
      simpa using this))
    simp [h,this,show 8≤i from by omega]
set_option maxRecDepth 100000 in
theorem entryNumber (A:Option Addr) (c:Nat) (l:List UInt8) (w:World) (hB:Bs w A 4 c l) :
    Calls Tryz.prog 132 #[.slice A 4 c] w fun e w'=>e=.returned (.int .u32 (beNum l:Nat))∧w=w':=by
  have HB:=hid hB;clear hB
  go_enter Tryz.func132,Tryz.ntmps132
  go_wp2_with (fail)
  go_loop [3,5,8] (fun x _ k=>∃ m:Nat,m≤4∧k=.int .i64 m∧x=.int .u32 (beNum (l.take m):Nat)) (fun _ _ k=>4-(intOf k).toNat)
  case atStart=>exact ⟨0,Nat.zero_le _,rfl,rfl⟩
  case round =>
    obtain ⟨m,hm,rfl,rfl⟩:=hrel
    by_cases hlt:m<4
    · obtain ⟨b,o,rfl,hb,hc⟩:=HB.out.at_ (by omega)
      have hml:m<l.length:=by have:=HB.out.len;omega
      have hcell:=hc m _ (List.getElem?_eq_getElem hml)
      have hlt3:beNum (l.take m)<16777216:=Nat.lt_of_lt_of_le (beNum_lt _) (by
        have:(l.take m).length≤3:=by rw [List.length_take];omega
        have h:=Nat.pow_le_pow_right (n:=256) (by omega) this
        simpa using h)
      have HC:=hid (beNum_snoc (l.take m) l[m])
      have HT:=hid (List.take_succ_eq_append_getElem hml)
      generalize l[m]=d at *
      generalize beNum (l.take m)=x at *
      have hd:=d.toNat_lt
      have h2:=or_byte x d.toNat hlt3 hd
      clear hc
      go_wp2_with (fail)
      go_round
      case rel =>
        refine ⟨m+1,by omega,by go_num,?_⟩
        rw [HT.out,HC.out]
        congr 1
      case measure=>simp [intOf];omega
    · obtain rfl:m=4:=by omega
      have hl2:l.take 4=l:=List.take_of_length_le (by have:=HB.out.len;omega)
      rw [hl2]
      clear hl2
      go_wp2
      go_ret
      exact ⟨rfl,rfl⟩
end
section
open Go.RowKit
def RetE (err:Int) (l:List UInt8) (w:World) (e:Ending) (w':World):Prop :=
  ∃ A c,e=.returned (.tuple #[.slice A l.length c,.int .i64 err])∧Bs w' A l.length c l∧Below w.heap.size w w'
set_option maxRecDepth 100000 in
set_option maxHeartbeats 1000000 in
theorem entryPut_no (A:Option Addr) (n c:Nat) (w:World) (hn:okLen n=false) :
    Calls Tryz.prog 110 #[.slice A n c] w (RetE 9 [] w):=by
  have H:=hid (okLen_no hn)
  clear hn
  go_enter Tryz.func110,Tryz.ntmps110
  go_wp2_with (fail)
  refine (rightLength_no n w (by have:=H.out;omega)).mono ?_
  rintro e w' ⟨rfl,rfl⟩
  go_wp2
  go_ret2
  exact ⟨none,0,rfl,Bs.none_ _,Below.refl _ _⟩
set_option maxRecDepth 100000 in
set_option maxHeartbeats 2000000 in
theorem entryPut_yes (A:Option Addr) (n c:Nat) (l:List UInt8) (w:World) (hB:Bs w A n c l) (hn:okLen n=true) :
    Calls Tryz.prog 110 #[.slice A n c] w (RetE 0 (record l) w):=by
  have HN:=hid hn
  have HB:=hid hB
  have HL:=hid hB.len
  have h1:=(okLen_yes hn).1
  have h2:=(okLen_yes hn).2
  have tok1:True:=trivial
  have tok2:True:=trivial
  have tok3:True:=trivial
  have hmk:∀ w:World,(Instr.makeSlice 40 (.int .i64 0) (.int .i64 (8+(n:Int)))).run Tryz.prog w=.ok (.slice (some ⟨w.heap.size,0,none⟩) 0 (8+n)) (w.alloc (.cells (Array.replicate (8+n) (.int .u8 0)) 5)):=by
    intro w
    have:=run_mk (P:=Tryz.prog) 40 5 Tryz.underlying40 byteInfo 0 (8+n) (Nat.zero_le _) (by omega) w
    rwa [show ((8+n:Nat):Int)=8+(n:Int) from by omega] at this
  clear hn hB
  go_enter Tryz.func110,Tryz.ntmps110
  go_wp2_with (fail)
  refine (rightLength_yes n w (by omega) (by omega)).mono ?_
  rintro e w' ⟨rfl,rfl⟩
  go_wp2_with (fail)
  refine (entryHighest n w (by omega)).mono ?_
  rintro e w1 ⟨p,q,r,s,hbe,rfl,hb1⟩
  have HBE:=hid hbe
  have HB1:=hid hb1
  have hz1:=hb1.size
  clear hbe hb1
  go_wp2_with (fail)
  have X2:=hid (Bs.lit w1 [p,q,r,s] 205 #[.int .u8 (p.toNat:Int),.int .u8 (q.toNat:Int),.int .u8 (r.toNat:Int),.int .u8 (s.toNat:Int)] w1.heap.size rfl rfl rfl (by simp [maxLen]))
  have B2:=hid (HB1.out.alloc hz1 (.cells #[.int .u8 (p.toNat:Int),.int .u8 (q.toNat:Int),.int .u8 (r.toNat:Int),.int .u8 (s.toNat:Int)] 205))
  generalize w1.alloc (.cells #[.int .u8 (p.toNat:Int),.int .u8 (q.toNat:Int),.int .u8 (r.toNat:Int),.int .u8 (s.toNat:Int)] 205)=w2 at *
  have hz2:=B2.out.size
  refine (entrySumOf _ _ _ _ _ _ _ l w2 X2.out (HB.out.below B2.out)).mono ?_
  rintro e w' ⟨rfl,rfl⟩
  have hs:=Crc.sum_lt (s:=0) ([p,q,r,s]++l) (by omega)
  obtain ⟨x,hx⟩:∃ x,x=Crc.sum 0 ([p,q,r,s]++l):=⟨_,rfl⟩
  rw [← hx] at hs ⊢
  have HX:=hid hx
  clear hx
  go_wp2_with (fail)
  refine (entryHighest x w2 hs).mono ?_
  rintro e w3 ⟨p',q',r',s',hbe,rfl,hb3⟩
  have HBE2:=hid hbe
  have X3:=hid (X2.out.below hb3)
  have B3:=hid (B2.out.trans (hb3.mono hz2))
  have hz3:=B3.out.size
  clear hbe hb3
  go_wp2_with (fail)
  have X4:=hid (X3.out.alloc (.cells #[.int .u8 (p'.toNat:Int),.int .u8 (q'.toNat:Int),.int .u8 (r'.toNat:Int),.int .u8 (s'.toNat:Int)] 205))
  have Y4:=hid (Bs.lit w3 [p',q',r',s'] 205 #[.int .u8 (p'.toNat:Int),.int .u8 (q'.toNat:Int),.int .u8 (r'.toNat:Int),.int .u8 (s'.toNat:Int)] w3.heap.size rfl rfl rfl (by simp [maxLen]))
  have B4:=hid (B3.out.alloc hz3 (.cells #[.int .u8 (p'.toNat:Int),.int .u8 (q'.toNat:Int),.int .u8 (r'.toNat:Int),.int .u8 (s'.toNat:Int)] 205))
  have hz34:w3.heap.size<(w3.alloc (.cells #[.int .u8 (p'.toNat:Int),.int .u8 (q'.toNat:Int),.int .u8 (r'.toNat:Int),.int .u8 (s'.toNat:Int)] 205)).heap.size:=by simp
  generalize w3.alloc (.cells #[.int .u8 (p'.toNat:Int),.int .u8 (q'.toNat:Int),.int .u8 (r'.toNat:Int),.int .u8 (s'.toNat:Int)] 205)=w4 at *
  have hz4:=B4.out.size
  refine (entrySize_yes n w4 HN.out).mono ?_
  rintro e w' ⟨rfl,rfl⟩
  go_wp2_with (first
    | (at_builtin;have _t:=tok1;go_loud ((refine wpList_app rfl (.tmp 23) (.tmp 24) 40 rfl w4.heap.size 5 Tryz.underlying40 byteInfo _ [] rfl (Own.made 5 w4 _ (8+n) (Nat.le_refl _) (by simp only [maxLen];omega) (by simp)) _ 4 4 [p,q,r,s] rfl (X4.out.alloc _) (by simp) (by simp) ?_;intro v5 w5 hown5 hb5 hg5;have b5:Below w4.heap.size w4 w5:=((Below.refl _ _).alloc (Nat.le_refl _) _).trans hb5;clear tok1 hb5 hg5 _t)))
    | (at_builtin;have _t:=tok2;go_loud ((refine wpList_app rfl (.tmp 26) (.tmp 27) 40 rfl w4.heap.size 5 Tryz.underlying40 byteInfo _ ([]++[p,q,r,s]) rfl hown5 _ 4 4 [p',q',r',s'] rfl (Y4.out.below b5) (by simp) b5.size ?_;intro v6 w6 hown6 hb6 hg6;have b6:Below w4.heap.size w4 w6:=b5.trans hb6;clear tok2 hb6 hg6 _t)))
    | (at_builtin;have _t:=tok3;go_loud ((refine wpList_app rfl (.tmp 29) (.tmp 30) 40 rfl w4.heap.size 5 Tryz.underlying40 byteInfo _ ([]++[p,q,r,s]++[p',q',r',s']) rfl hown6 _ n c l rfl ((HB.out.below B4.out).below b6) (by simp;omega) b6.size ?_;intro v7 w7 hown7 hb7 hg7;have b7:Below w4.heap.size w4 w7:=b6.trans hb7;clear tok3 hb7 hg7 _t))))
  go_ret2
  have e:[]++[p,q,r,s]++[p',q',r',s']++l=record l:=by
    unfold record
    rw [HL.out,HBE.out,← HX.out,HBE2.out]
    rfl
  rw [e] at hown7
  obtain ⟨A8,c8,rfl,hB8,_⟩:=hown7.bs
  exact ⟨A8,c8,rfl,hB8,B4.out.trans (b7.mono hz4)⟩
theorem entryPut (A:Option Addr) (n c:Nat) (l:List UInt8) (w:World) (hB:Bs w A n c l) :
    Calls Tryz.prog 110 #[.slice A n c] w (RetE (if okLen l.length then 0 else 9) (if okLen l.length then record l else []) w):=by
  rw [hB.len]
  cases h:okLen n with
  | true=>exact entryPut_yes A n c l w hB h
  | false=>exact entryPut_no A n c w h
end
section
open Go.RowKit
def RetGN (l:List UInt8) (n:Int) (err:Int) (w:World) (e:Ending) (w':World):Prop :=
  ∃ A c,e=.returned (.tuple #[.slice A l.length c,.int .i64 n,.int .i64 err])∧Bs w' A l.length c l∧(∀ b,A=some b→w.heap.size≤b.block)∧Below w.heap.size w w'
theorem RetGN.none {n err:Int} {w w':World} (hb:Below w.heap.size w w'):RetGN [] n err w (.returned (.tuple #[.slice none 0 0,.int .i64 n,.int .i64 err])) w' :=
  ⟨Option.none,0,rfl,Bs.none_ _,(fun _ h=>by cases h),hb⟩
theorem get_err {l:List UInt8} {err:Int} (h:getErr l=err) (h0:err≠0):getGet l=[]∧getLen l=0:=by
  have:¬ getErr l=0:=by omega
  exact ⟨by unfold getGet;rw [if_neg this],by unfold getLen;rw [if_neg this]⟩
set_option maxRecDepth 100000 in
set_option maxHeartbeats 1000000 in
theorem entryGetN (A:Option Addr) (n c:Nat) (l:List UInt8) (w:World) (hB:Bs w A n c l) (hN:n≤140737488351232) :
    Calls Tryz.prog 96 #[.slice A n c] w (RetGN (getGet l) (getLen l) (getErr l) w):=by
  have hlen:=hB.len
  have hcm:=hB.max
  have hle:=hB.le
  by_cases h8:n<8
  · have e:getErr l=7:=by unfold getErr;rw [if_pos (by omega)]
    rw [(get_err e (by omega)).1,(get_err e (by omega)).2,e]
    clear e hlen hB
    go_enter Tryz.func96,Tryz.ntmps96
    go_wp2
    go_ret3
    exact RetGN.none (Below.refl _ _)
  · obtain ⟨b,o,rfl,hb,_⟩:=hB.at_ (by omega)
    have H4:=hid (hB.take (j:=4) (by omega))
    have h5:=(hB.drop (i:=4) (by omega)).take (j:=4) (by omega)
    rw [if_neg (by omega),Option.map_some,Addr.add_lit] at h5
    have H5:=hid h5
    have h6:=hB.drop (i:=8) (by omega)
    rw [Option.map_some,Addr.add_lit] at h6
    obtain ⟨k,hk⟩:∃ k,n=k+8:=⟨n-8,by omega⟩
    subst hk
    rw [show k+8-8=k from by omega] at h6
    obtain ⟨R,hR⟩:∃ R,(if c=8 then some (⟨b,o,none⟩:Addr) else some ⟨b,o+8,none⟩)=R:=⟨_,rfl⟩
    rw [hR] at h6
    have H6:=hid h6
    have e0:(k:Int)≤(k:Int)+8:=by omega
    have e9:¬ c=4:=by omega
    have hxlt:beNum (l.take 4)<4294967296:=by
      have:=beNum_lt (l.take 4)
      rw [show (l.take 4).length=4 from H4.out.len] at this
      simpa using this
    have HE:Hid (getErr l=if okLen (beNum (l.take 4))=false then 9 else if k<beNum (l.take 4) then 7 else if Crc.sum 0 (l.take 4++(l.drop 8).take (beNum (l.take 4)))=beNum ((l.drop 4).take 4) then 0 else 8):=by
      show getErr l=_
      unfold getErr
      rw [if_neg (by omega),hlen,show k+8-8=k from by omega]
    have CN:=fun W h=>entryNumber (some ⟨b,o,none⟩) c (l.take 4) W h
    have HG:Hid (getErr l=0→getGet l=(l.drop 8).take (beNum (l.take 4))∧getLen l=8+beNum (l.take 4)):=fun h=>⟨by unfold getGet;rw [if_pos h],by unfold getLen;rw [if_pos h]⟩
    have CN2:=fun W h=>entryNumber (some ⟨b,o+4,none⟩) (c-4) ((l.drop 4).take 4) W h
    generalize beNum (l.take 4)=x at *
    generalize beNum ((l.drop 4).take 4)=y at *
    have HCN:=hid CN
    have HCN2:=hid CN2
    have HBB:=hid hB
    clear hB h5 h6 CN CN2 hlen
    by_cases hx:okLen x=false
    · have e:=HE.out
      rw [if_pos hx] at e
      rw [(get_err e (by omega)).1,(get_err e (by omega)).2,e]
      have HX:=hid (okLen_no hx)
      clear e hx
      go_enter Tryz.func96,Tryz.ntmps96
      go_wp2_with (fail)
      go_quiet (fail)
      go_wp2_with (fail)
      refine (HCN.out _ (H4.out.drewN _)).mono ?_
      rintro e w' ⟨rfl,rfl⟩
      go_wp2_with (fail)
      refine (rightLength_no x _ (by have:=HX.out;omega)).mono ?_
      rintro e w' ⟨rfl,rfl⟩
      go_wp2
      go_ret3
      exact RetGN.none (drawN_below (Below.refl _ _) _)
    · have hx1:okLen x=true:=by
        cases h:okLen x with
        | true=>rfl
        | false=>exact absurd h hx
      have hx2:=okLen_yes hx1
      have e:=HE.out
      rw [if_neg hx] at e
      have HX:=hid hx2
      have HX1:=hid hx1
      clear hx hx2 hx1
      by_cases hk:k<x
      · rw [if_pos hk] at e
        rw [(get_err e (by omega)).1,(get_err e (by omega)).2,e]
        clear e
        go_enter Tryz.func96,Tryz.ntmps96
        go_wp2_with (fail)
        go_quiet (fail)
        go_wp2_with (fail)
        refine (HCN.out _ (H4.out.drewN _)).mono ?_
        rintro e w' ⟨rfl,rfl⟩
        go_wp2_with (fail)
        refine (rightLength_yes x _ (by have:=HX.out;omega) (by have:=HX.out;omega)).mono ?_
        rintro e w' ⟨rfl,rfl⟩
        go_wp2
        go_ret3
        exact RetGN.none (drawN_below (Below.refl _ _) _)
      · rw [if_neg hk] at e
        have HX6:=hid (H6.out.take (j:=x) (by omega))
        have e1:(x:Int)≤(k:Int):=by omega
        have e2:x≤c-8:=by omega
        have CS:=fun W h1 h2=>entrySumOf (some ⟨b,o,none⟩) 4 c (l.take 4) R x (c-8) ((l.drop 8).take x) W h1 h2
        have hslt:=Crc.sum_lt (s:=0) (l.take 4++(l.drop 8).take x) (by omega)
        generalize Crc.sum 0 (l.take 4++(l.drop 8).take x)=s at *
        have HCS:=hid CS
        clear CS
        by_cases hs:s=y
        · rw [if_pos hs] at e
          have HEE:=hid e
          have hne:((s:Int) != (y:Int))=false:=by simp [hs]
          have hx65:x≤65536:=HX.out.2
          obtain ⟨Z,HZ,hzl,hmk⟩:=mk_zeros (x:Int) x rfl (by omega)
          have HZL:=hid hzl
          have HMK:=hid hmk
          clear e hs hzl hmk
          go_enter Tryz.func96,Tryz.ntmps96
          go_wp2_with (fail)
          go_quiet (fail)
          go_wp2_with (fail)
          refine (HCN.out _ (H4.out.drewN _)).mono ?_
          rintro e w' ⟨rfl,rfl⟩
          go_wp2_with (fail)
          refine (rightLength_yes x _ (by have:=HX.out;omega) (by have:=HX.out;omega)).mono ?_
          rintro e w' ⟨rfl,rfl⟩
          go_wp2_with (fail)
          refine (HCS.out _ (H4.out.drewN _) (HX6.out.drewN _)).mono ?_
          rintro e w' ⟨rfl,rfl⟩
          go_wp2_with (fail)
          refine (HCN2.out _ (H5.out.drewN _)).mono ?_
          rintro e w' ⟨rfl,rfl⟩
          have hw3:Hid (Below w.heap.size w (w.drewN nq)):=hid (drawN_below (Below.refl _ _) nq)
          have HXX:=hid (HX6.out.drewN nq)
          generalize w.drewN nq=w3 at *
          have hmk:=HMK.out
          have hsz3:=hw3.out.size
          go_wp2_with (with_reducible show wpList _ _ _ _ _ _;refine wpList_cpyTo rfl (.tmp 39) (.tmp 40) 40 40 rfl 5 Tryz.underlying40 byteInfo w3.heap.size 0 _ _ _ rfl Z 5 (heap_alloc_new w3 _) R k x (c-8) ((l.drop 8).take x) rfl (HXX.out.alloc _) (fun _=>rfl) (by omega) (by rw [HZL.out];omega) ?_;intro w1 hw1 hb1)
          refine (entrySize_yes x _ HX1.out).mono ?_
          rintro e w' ⟨rfl,rfl⟩
          go_wp2
          go_ret3
          rw [(HG.out HEE.out).1,(HG.out HEE.out).2,HEE.out]
          have e:List.take 0 Z++((l.drop 8).take x++List.drop (0+x) Z)=(l.drop 8).take x:=by
            have hz:List.drop (0+x) Z=[]:=List.drop_of_length_le (by rw [HZL.out];omega)
            rw [List.take_zero,List.nil_append,hz,List.append_nil]
          have hw:=hw1.out
          rw [e] at hw
          have hlk:((l.drop 8).take x).length=x:=HX6.out.len
          refine ⟨some ⟨w3.heap.size,0,none⟩,x,?_,?_,(fun b hb=>by injection hb with hb;subst hb;exact hsz3),hw3.out.trans ((((Below.refl _ w3).alloc (Nat.le_refl _) _).trans hb1).mono hsz3)⟩
          · rw [hlk,show ((8+x:Nat):Int)=8+(x:Int) from by omega]
            rfl
          · have:=Bs.block hw hlk (by unfold maxLen;omega)
            rwa [hlk]
        · rw [if_neg hs] at e
          rw [(get_err e (by omega)).1,(get_err e (by omega)).2,e]
          have hne:((s:Int) != (y:Int))=true:=by rw [bne_iff_ne];omega
          clear e hs
          go_enter Tryz.func96,Tryz.ntmps96
          go_wp2_with (fail)
          go_quiet (fail)
          go_wp2_with (fail)
          refine (HCN.out _ (H4.out.drewN _)).mono ?_
          rintro e w' ⟨rfl,rfl⟩
          go_wp2_with (fail)
          refine (rightLength_yes x _ (by have:=HX.out;omega) (by have:=HX.out;omega)).mono ?_
          rintro e w' ⟨rfl,rfl⟩
          go_wp2_with (fail)
          refine (HCS.out _ (H4.out.drewN _) (HX6.out.drewN _)).mono ?_
          rintro e w' ⟨rfl,rfl⟩
          go_wp2_with (fail)
          refine (HCN2.out _ (H5.out.drewN _)).mono ?_
          rintro e w' ⟨rfl,rfl⟩
          go_wp2
          go_ret3
          exact RetGN.none (drawN_below (Below.refl _ _) _)
end
section
open Go.RowKit
theorem get_parts (P S L b:List UInt8) (hP:P.length=4) (hS:S.length=4) (hn:beNum P=L.length) (hok:okLen L.length=true) :
    getErr (P++(S++(L++b)))=if Crc.sum 0 (P++L)=beNum S then 0 else 8:=by
  unfold getErr
  have h1:(P++(S++(L++b))).length=8+L.length+b.length:=by simp;omega
  have h2:(P++(S++(L++b))).take 4=P:=by rw [← hP,List.take_left]
  have h3:(P++(S++(L++b))).drop 4=S++(L++b):=by rw [← hP,List.drop_left]
  have h4:(P++(S++(L++b))).drop 8=L++b:=by
    rw [show (8:Nat)=4+4 from rfl,← List.drop_drop,h3,← hS,List.drop_left]
  have h5:(S++(L++b)).take 4=S:=by rw [← hS,List.take_left]
  rw [h1,h2,h3,h4,h5,hn,List.take_left,if_neg (by omega),if_neg (by rw [hok];decide),if_neg (by omega)]
theorem get_parts_get (P S L b:List UInt8) (hP:P.length=4) (hS:S.length=4) (hn:beNum P=L.length) (hok:okLen L.length=true) (h:Crc.sum 0 (P++L)=beNum S) :
    getErr (P++(S++(L++b)))=0∧getGet (P++(S++(L++b)))=L∧getLen (P++(S++(L++b)))=8+L.length:=by
  have he:=get_parts P S L b hP hS hn hok
  rw [if_pos h] at he
  have h2:(P++(S++(L++b))).take 4=P:=by rw [← hP,List.take_left]
  have h3:(P++(S++(L++b))).drop 4=S++(L++b):=by rw [← hP,List.drop_left]
  have h4:(P++(S++(L++b))).drop 8=L++b:=by
    rw [show (8:Nat)=4+4 from rfl,← List.drop_drop,h3,← hS,List.drop_left]
  refine ⟨he,?_,?_⟩
  · unfold getGet;rw [if_pos he,h2,h4,hn,List.take_left]
  · unfold getLen;rw [if_pos he,h2,hn]
theorem record_parts (l b:List UInt8):record l++b=be4 l.length++(be4 (Crc.sum 0 (be4 l.length++l))++(l++b)):=by
  unfold record
  simp only [List.append_assoc]
theorem record_length (l:List UInt8):(record l).length=8+l.length:=by
  unfold record
  simp only [List.length_append,be4_length]
theorem get_record (l b:List UInt8) (hok:okLen l.length=true):getErr (record l++b)=0∧getGet (record l++b)=l∧getLen (record l++b)=8+l.length:=by
  have h2:=okLen_yes hok
  rw [record_parts]
  exact get_parts_get _ _ l b (be4_length _) (be4_length _) (beNum_be4 (by omega)) hok (beNum_be4 (Crc.sum_lt _ (by omega))).symm
end
section
open Go.RowKit
set_option maxRecDepth 100000 in
theorem refTable (i : Nat) (w : World) (hi : i < 256) : Calls Tryz.prog 184 #[.int .u8 (i : Int)] w fun e w' => e = .returned (.int .u32 (Crc.row i : Nat)) ∧ w = w' := by
  go_enter Tryz.func184, Tryz.ntmps184
  go_wp2
  go_loop [3, 4] (fun x k => ∃ n : Nat, n ≤ 8 ∧ k = .int .i64 n ∧ x = .int .u32 (Crc.it n i : Nat)) (fun _ k => 8 - (intOf k).toNat)
  case atStart => exact ⟨0, Nat.zero_le _, rfl, rfl⟩
  case round =>
    obtain ⟨n, hn, rfl, rfl⟩ := hrel
    have hl : Crc.it n i < 4294967296 := Crc.it_lt n (by omega)
    have HS := Lib.hid (it_snoc n i)
    generalize hxx : Crc.it n i = x at *
    have HX := Lib.hid hxx; clear hxx
    by_cases hlt : n < 8
    · go_wp2
      all_goals
        go_round
        case rel =>
          refine ⟨n + 1, by omega, by go_num, ?_⟩
          rw [HS.out]
          unfold Crc.step
          have hx := Lib.hid trivial
          first
          | (rw [if_pos (by have : (((x : Int) % 2) == 1) = true := by assumption
                            have := beq_iff_eq.1 this; omega)]
             rw [show (3988292384 : Int) = ((3988292384 : Nat) : Int) from rfl, show (x : Int) / 2 = ((x / 2 : Nat) : Int) from by omega, u32_xor_nat _ _ (by omega) (by omega)])
          | (rw [if_neg (by have : (((x : Int) % 2) == 1) = false := by assumption
                            have := beq_eq_false_iff_ne.1 this; omega)]
             rw [show (x : Int) / 2 = ((x / 2 : Nat) : Int) from by omega])
        case measure => simp [intOf]; omega
    · obtain rfl : n = 8 := by omega
      go_wp2
      go_ret
      rw [← HX.out]
      exact ⟨rfl, rfl⟩
theorem u32_not' (s:Nat) (hs:s<4294967296):bits BinOp.xor IntKind.u32 4294967295 (s:Int)=((4294967295 ^^^ s:Nat):Int):=u32_xor_nat 4294967295 _ (by omega) hs
set_option maxRecDepth 100000 in
theorem refUpdate (s:Nat) (A:Option Addr) (n c:Nat) (l:List UInt8) (w:World) (hs:s<4294967296) (hB:Bs w A n c l) :
    Calls Tryz.prog 168 #[.int .u32 (s:Int),.slice A n c] w fun e w'=>e=.returned (.int .u32 (Crc.sum s l:Nat))∧w=w':=by
  have hn:=hB.nmax
  have HB:=hid hB;clear hB
  have h1:=u32_not' s hs
  go_enter Tryz.func168,Tryz.ntmps168
  go_wp2_with (fail)
  clear h1
  go_loop [5,6] (fun x k=>∃ m:Nat,m≤n∧k=.int .i64 m∧x=.int .u32 (Crc.upd (4294967295 ^^^ s) (l.take m):Nat)) (fun _ k=>n-(intOf k).toNat)
  case atStart=>exact ⟨0,Nat.zero_le _,rfl,rfl⟩
  case round =>
    obtain ⟨m,hm,rfl,rfl⟩:=hrel
    have hl:Crc.upd (4294967295 ^^^ s) (l.take m)<4294967296:=Crc.upd_lt _ (Nat.xor_lt_two_pow (n:=32) (by omega) (by omega))
    by_cases hlt:m<n
    · obtain ⟨b,o,rfl,hb,hc⟩:=HB.out.at_ (by omega)
      have hml:m<l.length:=by have:=HB.out.len;omega
      have hcell:=hc m _ (List.getElem?_eq_getElem hml)
      have HC:=hid (Crc.upd_snoc (4294967295 ^^^ s) (l.take m) l[m])
      have HT:=hid (List.take_succ_eq_append_getElem hml)
      generalize l[m]=d at *
      generalize Crc.upd (4294967295 ^^^ s) (l.take m)=x at *
      have hd:=d.toNat_lt
      have hxd:(x % 256) ^^^ d.toNat<256:=Nat.xor_lt_two_pow (n:=8) (by omega) (by omega)
      have hr:Crc.row ((x % 256) ^^^ d.toNat)<4294967296:=Crc.row_lt (by omega)
      have h2:bits BinOp.xor IntKind.u8 ((x:Int) % 256) (d.toNat:Int)=(((x % 256) ^^^ d.toNat:Nat):Int):=by
        rw [show ((x:Int) % 256)=((x % 256:Nat):Int) from by omega]
        exact u8_xor_nat _ _ (by omega) hd
      have HR:=hid (refTable _ w hxd)
      have h3:bits BinOp.xor IntKind.u32 ((Crc.row ((x % 256) ^^^ d.toNat):Nat):Int) ((x:Int) / 256)=((Crc.row ((x % 256) ^^^ d.toNat) ^^^ (x / 256):Nat):Int):=by
        rw [show ((x:Int) / 256)=((x / 256:Nat):Int) from by omega]
        exact u32_xor_nat _ _ hr (by omega)
      generalize Crc.row ((x % 256) ^^^ d.toNat)=r at *
      generalize (x % 256) ^^^ d.toNat=y at *
      clear hc hxd hr hd
      go_wp2_with (go_at_call 184;refine (HR.out).mono ?_;rintro e w' ⟨rfl,rfl⟩)
      go_round
      case rel =>
        refine ⟨m+1,by omega,by go_num,?_⟩
        rw [HT.out,HC.out]
      case measure=>simp [intOf];omega
    · obtain rfl:m=n:=by omega
      have hl2:l.take m=l:=List.take_of_length_le (by have:=HB.out.len;omega)
      rw [hl2] at hl ⊢
      clear hl2
      have h4:=u32_not' _ hl
      go_wp2
      go_ret
      exact ⟨rfl,rfl⟩
theorem refSum (A:Option Addr) (n c:Nat) (l:List UInt8) (w:World) (hB:Bs w A n c l) :
    Calls Tryz.prog 125 #[.slice A n c] w fun e w'=>e=.returned (.int .u32 (Crc.sum 0 l:Nat))∧w=w':=by
  have HB:=hid hB;clear hB
  go_enter Tryz.func125,Tryz.ntmps125
  go_wp2_with (fail)
  refine (refUpdate 0 A n c l w (by omega) HB.out).mono ?_
  rintro e w' ⟨rfl,rfl⟩
  go_wp2
  go_ret
  exact ⟨rfl,rfl⟩
def RetS (l:List UInt8) (w:World) (e:Ending) (w':World):Prop :=
  ∃ A c,e=.returned (.slice A l.length c)∧Bs w' A l.length c l∧Below w.heap.size w w'
set_option maxRecDepth 100000 in
theorem refFour (x:Nat) (w:World) (hx:x<4294967296):Calls Tryz.prog 124 #[.int .u32 (x:Int)] w fun e w'=>∃ p q r s,be4 x=[p,q,r,s]∧e=.returned (.slice (some ⟨w.heap.size,0,none⟩) 4 4)∧w'=w.alloc (.cells #[.int .u8 (p.toNat:Int),.int .u8 (q.toNat:Int),.int .u8 (r.toNat:Int),.int .u8 (s.toNat:Int)] 5):=by
  have HE:=hid (be4_cells x hx)
  go_enter Tryz.func124,Tryz.ntmps124
  go_wp2
  go_ret
  refine ⟨_,_,_,_,rfl,rfl,?_⟩
  rw [HE.out]
  rfl
set_option maxRecDepth 100000 in
theorem refNumber (A:Option Addr) (c:Nat) (p q r s:UInt8) (w:World) (hB:Bs w A 4 c [p,q,r,s]):Calls Tryz.prog 108 #[.slice A 4 c] w fun e w'=>e=.returned (.int .i64 ((p.toNat:Int)*16777216+q.toNat*65536+r.toNat*256+s.toNat))∧∃ m,w'=w.drewN m:=by
  obtain ⟨b,o,rfl,hb,hc⟩:=hB.at_ (by omega)
  have c0:=hc 0 p rfl
  rw [Nat.add_zero] at c0
  have c1:=hc 1 q rfl
  have c2:=hc 2 r rfl
  have c3:=hc 3 s rfl
  have b0:=p.toNat_lt
  have b1:=q.toNat_lt
  have b2:=r.toNat_lt
  have b3:=s.toNat_lt
  have e0:IntKind.i64.wrap ((p.toNat:Int)*16777216)=(p.toNat:Int)*16777216:=IntWalk.i64_in _ (by omega)
  have e1:IntKind.i64.wrap ((q.toNat:Int)*65536)=(q.toNat:Int)*65536:=IntWalk.i64_in _ (by omega)
  have e2:IntKind.i64.wrap ((r.toNat:Int)*256)=(r.toNat:Int)*256:=IntWalk.i64_in _ (by omega)
  have e3:IntKind.i64.wrap ((p.toNat:Int)*16777216+q.toNat*65536)=(p.toNat:Int)*16777216+q.toNat*65536:=IntWalk.i64_in _ (by omega)
  have e4:IntKind.i64.wrap ((p.toNat:Int)*16777216+q.toNat*65536+r.toNat*256)=(p.toNat:Int)*16777216+q.toNat*65536+r.toNat*256:=IntWalk.i64_in _ (by omega)
  have e5:IntKind.i64.wrap ((p.toNat:Int)*16777216+q.toNat*65536+r.toNat*256+s.toNat)=(p.toNat:Int)*16777216+q.toNat*65536+r.toNat*256+s.toNat:=IntWalk.i64_in _ (by omega)
  have e6:∀ x:UInt8,IntKind.i64.wrap (x.toNat:Int)=(x.toNat:Int):=fun x=>IntWalk.i64_in _ (by have:=x.toNat_lt;omega)
  clear hc hB
  go_enter Tryz.func108,Tryz.ntmps108
  go_wp2_with (fail)
  go_quiet (fail)
  go_wp2
  go_ret
  exact ⟨rfl,_,rfl⟩
end
section
open Go.RowKit
structure Ch (S:Nat→Prop) (w w':World):Prop where
  os:w'.os=w.os
  tape:w'.tape=w.tape
  output:w'.output=w.output
  size:w.heap.size≤w'.heap.size
  block:∀ k,k<w.heap.size→¬ S k→w'.heap[k]?=w.heap[k]?
theorem Ch.refl (S:Nat→Prop) (w:World):Ch S w w:=⟨rfl,rfl,rfl,Nat.le_refl _,fun _ _ _=>rfl⟩
theorem Ch.trans {S S':Nat→Prop} {a b c:World} (h:Ch S a b) (k:Ch S' b c) (hS:∀ x,x<a.heap.size→S' x→S x):Ch S a c :=
  ⟨k.os.trans h.os,k.tape.trans h.tape,k.output.trans h.output,Nat.le_trans h.size k.size,fun i hi hn=>(k.block i (Nat.lt_of_lt_of_le hi h.size) (fun hs=>hn (hS i hi hs))).trans (h.block i hi hn)⟩
theorem Ch.of_below {S:Nat→Prop} {w w':World} (h:Below w.heap.size w w'):Ch S w w':=⟨h.os,h.tape,h.output,h.size,fun k hk _=>h.block k hk⟩
theorem Ch.of_grown {S:Nat→Prop} {w w':World} {row:Option Nat} (h:w.grownBy w' row) (hr:∀ k,row=some k→S k):Ch S w w' :=
  ⟨h.os,h.tape,h.output,h.size,fun k hk hn=>h.block k hk (fun e=>hn (hr k e.symm))⟩
theorem Ch.set {S:Nat→Prop} {w w':World} (h:Ch S w w') {a:Addr} (ha:S a.block) (u:Value):Ch S w (w'.setCell a u) :=
  ⟨h.os,h.tape,h.output,Nat.le_trans h.size (by simp [World.setCell]),fun k hk hn=>(Below.heap_setCell _ _ _ _ (fun e=>hn (by rw [e];exact ha))).trans (h.block k hk hn)⟩
abbrev At1 (D:Nat):Nat→Prop:=fun x=>x=D
theorem Ch.set1 {D:Nat} {w w':World} (h:Ch (At1 D) w w') (j:Nat) (u:Value):Ch (At1 D) w (w'.setCell ⟨D,j,none⟩ u):=h.set (a:=⟨D,j,none⟩) rfl u
theorem Ch.drew {S:Nat→Prop} {w w':World} (h:Ch S w w'):Ch S w w'.drew:=⟨h.os,h.tape,h.output,h.size,h.block⟩
theorem Ch.below {S:Nat→Prop} {B:Nat} {w w':World} (h:Ch S w w') (hS:∀ k,S k→B≤k) (hB:B≤w.heap.size):Below B w w' :=
  ⟨h.os,h.tape,h.output,h.size,fun k hk=>h.block k (by omega) (fun hs=>by have:=hS k hs;omega)⟩
theorem Ch.row {S:Nat→Prop} {w w':World} (h:Ch S w w') {k:Nat} {o:Obj} (hk:w.heap[k]?=some o) (hn:¬ S k):w'.heap[k]?=some o :=
  (h.block k (Array.getElem?_eq_some_iff.1 hk).1 hn).trans hk
theorem own_form {w:World} {base n:Nat} {e:TypeId} {v:Value} {xs:List Value} (h:w.ownsRow base e 1 v n xs):∃ A c,v=.slice A n c:=by
  rcases h.2 with ⟨rfl,rfl⟩|⟨g,cap,cur,rfl,_⟩
  · exact ⟨_,_,rfl⟩
  · exact ⟨_,_,rfl⟩
theorem Own.ch {S:Nat→Prop} {w w':World} {B:Nat} {v:Value} {l:List UInt8} (h:Own 5 w B v l) (c:Ch S w w') (hn:∀ k,v.ownBlock=some k→¬ S k):Own 5 w' B v l:=by
  refine ⟨h.1,?_⟩
  rcases h.2 with hnil|⟨g,cap,cur,e,h1,h2,h3⟩
  · exact .inl hnil
  · exact .inr ⟨g,cap,cur,e,h1,c.row h2 (hn g (by rw [e];rfl)),h3⟩
theorem Own.lt {w:World} {B:Nat} {v:Value} {l:List UInt8} (h:Own 5 w B v l) (k:Nat) (hk:v.ownBlock=some k):B≤k∧k<w.heap.size:=World.ownsRow.lt h k hk
theorem wpList_appAt {ops:Array Oper} {rest:List Oper} {o:Oper} {a:Act} {Q:Exit→Act→World→Prop} {w:World} (hgd:o.guard=none) (s x:Operand) (t:TypeId)
    (ho:o.op=.call { callee:=.builtin .append,args:=#[s,x],argTypes:=#[t,t] }) (base:Nat) (e:TypeId) (z:Value) (bytes:Nat) (ht:Tryz.prog.underlying t=some (.slice e)) (hi:(Tryz.prog.info? e).map (fun i=>(i.zero,i.size,i.bytes))=some (some z,1,bytes))
    (hz:z.cells.size=1) (hby:bytes≤64) (v:Value) (n:Nat) (xs:List Value) (hs:a.eval s=v) (hown:w.ownsRow base e 1 v n xs) (ad:Addr) (m c:Nat) (news:List Value) (hx:a.eval x=.slice (some ad) m c) (hl:news.length=m)
    (hnews:∀ (j:Nat) (u:Value),news[j]?=some u→w.cell? (ad.add j)=some u) (h1:∀ u ∈ news,u.oneCell'=true) (hn:n+m≤1099511627776) (hbase:base≤w.heap.size)
    (h:∀ v' w',w'.ownsRow base e 1 v' (n+m) (xs++news)→w.grownBy w' v.ownBlock→(v'.ownBlock=v.ownBlock∨v'.ownBlock=some w.heap.size)→wpList Tryz.prog ops Q rest (a.put o.dst v') w'):wpList Tryz.prog ops Q (o :: rest) a w :=
  wpList_plain hgd fun K hK=>by
    obtain ⟨i,hi,hzz⟩:=Option.map_eq_some_iff.1 hi
    simp only [Prod.mk.injEq] at hzz
    obtain ⟨v',w',hrun,h2,h3,_,h5⟩:=run_append_own_at (P:=Tryz.prog) w base t o.type e i z 1 bytes ht hi hzz.1 hzz.2.1 hzz.2.2 hz (by decide) v n xs hown ad m c news (by rw [hl,Nat.mul_one]) hnews h1 (by simp only [maxLen];omega)
      (Nat.le_trans (Nat.mul_le_mul hn hby) (by decide)) hbase
    unfold Oper.wp execOp
    simp only [ho,resolve,invoke,builtin,Sem.run_bind,Sem.run_pure,Result.andThen_ok,List.map_toArray,List.map_cons,List.map_nil,hs,hx,hrun]
    exact hK _ _ (h v' w' h2 h3 h5)
theorem own_ne {w:World} {base n g:Nat} {e t:TypeId} {v:Value} {xs:List Value} {cs:Array Value} {fr:Nat × Nat} (h:w.ownsRow base e 1 v n xs) (hg:w.heap[g]?=some (.cells cs t fr)) (ht:t≠e):some g≠v.ownBlock:=by
  rcases h.2 with ⟨rfl,_⟩|⟨g',cap,cur,rfl,_,hgg,_⟩
  · simp [Value.ownBlock]
  · intro e
    simp [Value.ownBlock] at e
    subst e
    rw [hg] at hgg
    injection hgg with hgg
    injection hgg with _ h2
    exact ht h2
theorem Bs.ch {S:Nat→Prop} {w w':World} {A:Option Addr} {n c:Nat} {l:List UInt8} (h:Bs w A n c l) (hc:Ch S w w') (hn:0<n→∀ b,A=some b→¬ S b.block):Bs w' A n c l :=
  ⟨h.1,h.2.1,h.2.2.1,fun h0=>by
    obtain ⟨b,o,rfl,hlt,hcell⟩:=h.at_ h0
    refine ⟨b,o,rfl,fun i x hx=>?_⟩
    have hb:=hc.block b hlt (hn h0 _ rfl)
    exact (World.cell?_of_block (w:=w) (a:=⟨b,o+i,none⟩) hb).trans (hcell i x hx)⟩
theorem own_ty {w:World} {B n:Nat} {e:TypeId} {v:Value} {xs:List Value} (h:w.ownsRow B e 1 v n xs) (k:Nat) (hk:v.ownBlock=some k):∃ cur,w.heap[k]?=some (.cells cur e (0,0)):=by
  rcases h.2 with ⟨rfl,_⟩|⟨g,cap,cur,rfl,_,h2,_⟩
  · cases hk
  · simp only [Value.ownBlock,Option.some.injEq] at hk
    subst hk
    exact ⟨cur,h2⟩
theorem step_app {ops:Array Oper} {o:Oper} {a:Act} {w:World} {K:Act→World→Prop} {Q:Exit→Act→World→Prop} {E:Prop} (hgd:o.guard=none) (s x:Operand)
    (ho:o.op=.call { callee:=.builtin .append,args:=#[s,x],argTypes:=#[40,40] }) (base:Nat)
    (v:Value) (xs:List UInt8) (hs:a.eval s=v) (hown:Own 5 w base v xs) (A:Option Addr) (m c:Nat) (l:List UInt8) (hx:a.eval x=.slice A m c) (hl:Bs w A m c l) (hbytes:xs.length+m≤140737488355328) (hbase:base≤w.heap.size)
    (h:∀ v' w',Own 5 w' base v' (xs++l)→Below base w w'→w.grownBy w' v.ownBlock→K (a.put o.dst v') w') :
    if Region.wanted o (yielded ops a.tmps)=true then Oper.wp Tryz.prog o a w K Q else E:=by
  have hw:Region.wanted o (yielded ops a.tmps)=true:=by simp [Region.wanted,hgd]
  rw [if_pos hw]
  obtain ⟨v',w',hrun,h2,h3,h4⟩:=run_app (P:=Tryz.prog) base 40 o.type 5 Tryz.underlying40 byteInfo v xs hown A m c l hl hbytes hbase
  unfold Oper.wp
  simp [execOp,ho,resolve,invoke,builtin,hs,hx,hrun,Result.andThen]
  exact h v' w' h2 h3 h4
theorem own_below {w w':World} {B n:Nat} {e:TypeId} {v:Value} {xs:List Value} (h:w.ownsRow B e 1 v n xs) (hb:Below w.heap.size w w'):w'.ownsRow B e 1 v n xs:=by
  refine ⟨h.1,?_⟩
  rcases h.2 with hn|⟨g,cap,cur,q,q1,q2,q3⟩
  · exact .inl hn
  · exact .inr ⟨g,cap,cur,q,q1,(hb.block g (Array.getElem?_eq_some_iff.1 q2).1).trans q2,q3⟩
theorem own_base {w:World} {B B' n:Nat} {e:TypeId} {v:Value} {xs:List Value} (h:w.ownsRow B e 1 v n xs) (hB:B'≤B):w.ownsRow B' e 1 v n xs:=by
  refine ⟨h.1,?_⟩
  rcases h.2 with hn|⟨g,cap,cur,q,q1,q2⟩
  · exact .inl hn
  · exact .inr ⟨g,cap,cur,q,Nat.le_trans hB q1,q2⟩
theorem own_ch {w w':World} {S:Nat→Prop} {B n:Nat} {e:TypeId} {v:Value} {xs:List Value} (h:w.ownsRow B e 1 v n xs) (c:Ch S w w') (hS:∀ k,v.ownBlock=some k→¬ S k):w'.ownsRow B e 1 v n xs:=by
  refine ⟨h.1,?_⟩
  rcases h.2 with hn|⟨g,cap,cur,q,q1,q2,q3⟩
  · exact .inl hn
  · exact .inr ⟨g,cap,cur,q,q1,c.row q2 (hS g (by rw [q];rfl)),q3⟩
theorem newRow (wa:World) (y:UInt8):∀ (j:Nat) (u:Value),[u8 y][j]?=some u→(wa.alloc (.cells #[u8 y] 5)).cell? ((⟨wa.heap.size,0,none⟩:Addr).add j)=some u:=fun j u hu=>by
  have hj:j=0:=by
    rcases Nat.lt_or_ge j 1 with h|h
    · omega
    · rw [List.getElem?_eq_none (by simpa using h)] at hu;cases hu
  subst hj
  rw [Addr.add_lit,Nat.zero_add,cell_of_row _ wa.heap.size 0 _ _ _ (heap_alloc_new wa _)]
  exact hu
theorem oneRow (y:UInt8):∀ u ∈ [u8 y],u.oneCell'=true:=fun u hu=>by simp at hu;subst hu;rfl
theorem wpList_appL {ops:Array Oper} {rest:List Oper} {o:Oper} {a:Act} {Q:Exit→Act→World→Prop} {w:World} (hgd:o.guard=none) (s x:Operand)
    (ho:o.op=.call { callee:=.builtin .append,args:=#[s,x],argTypes:=#[40,40] }) (base:Nat) (v:Value) (xs:List UInt8) (hs:a.eval s=v) (hown:Own 5 w base v xs) (A:Option Addr) (m c:Nat) (l:List UInt8) (hx:a.eval x=.slice A m c) (hl:Bs w A m c l)
    (hn:xs.length+m≤1099511627776) (hbase:base≤w.heap.size)
    (h:∀ v' w',Own 5 w' base v' (xs++l)→w.grownBy w' v.ownBlock→(v'.ownBlock=v.ownBlock∨v'.ownBlock=some w.heap.size)→wpList Tryz.prog ops Q rest (a.put o.dst v') w'):wpList Tryz.prog ops Q (o :: rest) a w:=by
  have hlen:=hl.len
  rcases A with _|ad
  · have hm:m=0:=by
      rcases Nat.eq_zero_or_pos m with h|h
      · exact h
      · obtain ⟨b,o,e,_⟩:=hl.2.2.2 h
        cases e
    subst hm
    obtain rfl:=hl.empty
    refine wpList_plain hgd fun K hK=>?_
    obtain ⟨i,hi,hzz⟩:=Option.map_eq_some_iff.1 (byteInfo:(Tryz.prog.info? 5).map (fun i=>(i.zero,i.size,i.bytes))=some (some (.int .u8 0),1,1))
    simp only [Prod.mk.injEq] at hzz
    have hrun:(Builtin.append_ #[40,40] o.type #[v,.slice none 0 c]).run Tryz.prog w=.ok v w:=by
      rcases hown.2 with ⟨rfl,_⟩|⟨g,cap,cur,rfl,_,_,hnc,_⟩
      · simp [Builtin.append_,run_underlying Tryz.underlying40,sizeOf,typeInfo,hi,Builtin.lenOf,Builtin.firstCells]
      · simp [Builtin.append_,run_underlying Tryz.underlying40,sizeOf,typeInfo,hi,Builtin.lenOf,Builtin.firstCells,hnc,storeCells]
    unfold Oper.wp execOp
    simp only [ho,resolve,invoke,builtin,Sem.run_bind,Sem.run_pure,Result.andThen_ok,List.map_toArray,List.map_cons,List.map_nil,hs,hx,hrun]
    exact hK _ _ (h v w (by simpa using hown) (World.grownBy.refl w _) (.inl rfl))
  · refine wpList_appAt hgd s x 40 ho base 5 (.int .u8 0) 1 Tryz.underlying40 byteInfo rfl (by decide) v xs.length (u8s xs) hs hown ad m c (u8s l) hx (by simp [hlen]) (fun j u hu=>?_) (fun u hu=>?_) hn hbase (fun v' w' q1 q2 q3=>h v' w' ?_ q2 q3)
    · obtain ⟨y,hy,rfl⟩:=u8s_get hu
      have hm:0<m:=by have:=(List.getElem?_eq_some_iff.1 hy).1;omega
      obtain ⟨b,o',e,hc⟩:=hl.2.2.2 hm
      injection e with e
      subst e
      rw [Addr.add_lit]
      exact hc j y hy
    · obtain ⟨j,hj⟩:=List.getElem?_of_mem hu
      obtain ⟨y,hy,rfl⟩:=u8s_get hj
      rfl
    · unfold Own
      rw [List.length_append,hlen]
      simpa using q1
end
end Go.Proofs.YtodjilljcjkacaaGreatDoor
