/- Laid together: Txt, FrameWrapO, In8, In9, In10, Ref09c, SegMA. -/
import Derived.Test.YtodjilljcjkacaaGreatDoorPkIB31
import Derived.Laws.Tables
import Derived.BigQuiet
import Derived.Laws.AppendOwnNone
import Derived.Deep.RegionHeld3

namespace Go.Proofs.YtodjilljcjkacaaGreatDoor
open Lib (hid)
section
open Go.RowKit
theorem addT (X Y:List UInt8) (h:X.length+Y.length≤9223372036854775807) (W:World):(binOp .add 9 (.string (txt X)) (.string (txt Y))).run Tryz.prog W=.ok (.string (txt (X++Y))) W:=by
  rw [add_run _ _ (by simp only [txt_size];omega) W,txt_app]
theorem wpList_addT {ops:Array Oper} {rest:List Oper} {dst:Option Tmp} {x y:Operand} {tb ty:TypeId} {pos:String} {af} {a:Act} {w:World} {Q:Exit→Act→World→Prop}
    (X Y Z:List UInt8) (hZ:Hid (Z=X++Y)) (hx:a.eval x=.string (txt X)) (hy:a.eval y=.string (txt Y)) (h:Z.length≤9223372036854775807)
    (next:wpList Tryz.prog ops Q rest (a.put dst (str Z)) w):wpList Tryz.prog ops Q ((⟨dst,.binOp .add 9 x y tb,ty,pos,af,none⟩:Oper) :: rest) a w :=
  wpList_plain rfl fun K hK=>by
    obtain rfl:Z=X++Y:=hZ
    unfold Oper.wp execOp
    simp only [hx,hy]
    simp [eqGuard,addT X Y (by rw [List.length_append] at h;exact h) w,Result.andThen,Oper.upon]
    exact hK _ _ next
theorem wpList_convT {ops:Array Oper} {rest:List Oper} {dst:Option Tmp} {x:Operand} {ty:TypeId} {pos:String} {af} {a:Act} {w:World} {Q:Exit→Act→World→Prop}
    (l:List UInt8) (N g:Nat) (hx:a.eval x=.string (txt l)) (hN:l.length=N) (hl:N≤maxLen) (hg:w.heap.size=g)
    (next:∀ cap W,Hid (Conv W g N cap g l)→Below w.heap.size w W→wpList Tryz.prog ops Q rest (a.put dst (.slice (some ⟨g,0,none⟩) N cap)) W):wpList Tryz.prog ops Q ((⟨dst,.convert 9 40 x,ty,pos,af,none⟩:Oper) :: rest) a w:=by
  subst hg
  obtain ⟨cap,W,hrun,hC,hb⟩:=conv_list (P:=Tryz.prog) w 9 40 5 l N Tryz.underlying9 Tryz.underlying40 Tryz.underlying5 hN hl
  refine wpList_plain rfl fun K hK=>?_
  unfold Oper.wp execOp
  simp only [hx]
  simp [hrun,Result.andThen,Oper.upon]
  exact hK _ _ (next cap W (hid hC) hb)
theorem wpList_strT {ops:Array Oper} {rest:List Oper} {dst:Option Tmp} {x:Operand} {ty:TypeId} {pos:String} {af} {a:Act} {w:World} {Q:Exit→Act→World→Prop}
    (A:Option Addr) (n c:Nat) (l:List UInt8) (hx:a.eval x=.slice A n c) (hB:Bs w A n c l)
    (next:wpList Tryz.prog ops Q rest (a.put dst (str l)) w):wpList Tryz.prog ops Q ((⟨dst,.convert 40 9 x,ty,pos,af,none⟩:Oper) :: rest) a w:=by
  have hrun:=hB.str (P:=Tryz.prog) 40 5 9 Tryz.underlying40 Tryz.underlying5 Tryz.underlying9
  refine wpList_plain rfl fun K hK=>?_
  unfold Oper.wp execOp
  simp only [hx]
  simp [hrun,Result.andThen,Oper.upon]
  exact hK _ _ next
theorem run_bytes4 (a b c d:UInt8) (w:World):(Instr.buildSlice 40 4 #[(0,u8 a),(1,u8 b),(2,u8 c),(3,u8 d)]).run Tryz.prog w=.ok (.slice (some ⟨w.heap.size,0,none⟩) 4 4) (w.alloc (.cells #[u8 a,u8 b,u8 c,u8 d] 5)):=by
  simp [Instr.buildSlice,go_sem]
theorem wpList_bytes4 {ops:Array Oper} {rest:List Oper} {dst:Option Tmp} {x0 x1 x2 x3:Operand} {ty:TypeId} {pos:String} {af} {a:Act} {w:World} {Q:Exit→Act→World→Prop}
    (g:Nat) (b c d e:UInt8) (h0:a.eval x0=u8 b) (h1:a.eval x1=u8 c) (h2:a.eval x2=u8 d) (h3:a.eval x3=u8 e) (hg:w.heap.size=g)
    (next:wpList Tryz.prog ops Q rest (a.put dst (.slice (some ⟨g,0,none⟩) 4 4)) (w.alloc (.cells #[u8 b,u8 c,u8 d,u8 e] 5))):wpList Tryz.prog ops Q ((⟨dst,.buildSlice 40 4 #[(0,x0),(1,x1),(2,x2),(3,x3)],ty,pos,af,none⟩:Oper) :: rest) a w:=by
  subst hg
  refine wpList_plain rfl fun K hK=>?_
  unfold Oper.wp execOp
  simp only [List.map_toArray,List.map_cons,List.map_nil,h0,h1,h2,h3,Sem.run_bind,run_bytes4,Result.andThen_ok]
  exact hK _ _ next
theorem wpList_loadU8 {ops:Array Oper} {rest:List Oper} {dst:Option Tmp} {x:Operand} {ty:TypeId} {pos:String} {af} {a:Act} {w:World} {Q:Exit→Act→World→Prop}
    (b o:Nat) (v:UInt8) (hx:a.eval x=.pointer (some ⟨b,o,none⟩)) (hc:Hid (w.cell? ⟨b,o,none⟩=some (u8 v)))
    (next:wpList Tryz.prog ops Q rest (a.put dst (u8 v)) w):wpList Tryz.prog ops Q ((⟨dst,.load 5 x,ty,pos,af,none⟩:Oper) :: rest) a w:=by
  have hcc:=hc.out
  refine wpList_plain rfl fun K hK=>?_
  unfold Oper.wp execOp
  simp only [hx]
  have hrun:(Instr.loadAt 5 (.pointer (some ⟨b,o,none⟩))).run Tryz.prog w=.ok (u8 v) w:=by
    simp [Instr.loadAt,go_sem,hcc]
  simp only [Sem.run_bind,hrun,Result.andThen_ok]
  exact hK _ _ next
end
section
open Go.RowKit
def RetOwnW (l:List UInt8) (w:World) (e:Ending) (w':World):Prop:=∃ v,e=.returned (.tuple #[v,.int .i64 0])∧Own 5 w' w.heap.size v l∧Below w.heap.size w w'
theorem Own.baseL {E:TypeId} {B B':Nat} {w:World} {v:Value} {l:List UInt8} (h:Own E w B' v l) (hB:B≤B'):Own E w B v l :=
  ⟨h.1,h.2.imp id (fun ⟨g,cap,cur,e,h1,h2⟩=>⟨g,cap,cur,e,Nat.le_trans hB h1,h2⟩)⟩
set_option maxRecDepth 100000 in
theorem frameWrap_own (A:Option Addr) (n c:Nat) (l:List UInt8) (w:World) (hS:Signs w) (hB:Bs w A n c l) (hg:good l=true) (hn:n≤140737488351232) :
    Calls Tryz.prog 38 #[.slice A n c] w (RetOwnW (11 :: (l++[28,13])) w):=by
  have hgo:=hid (frameGood_b A n c l w hS hB true hg)
  have hmk:∀ W:World,(Instr.makeSlice 40 (.int .i64 0) (.int .i64 ((n:Int)+3))).run Tryz.prog W=.ok (.slice (some ⟨W.heap.size,0,none⟩) 0 (n+3)) (W.alloc (.cells (Array.replicate (n+3) (.int .u8 0)) 5)):=by
    intro W
    rw [show ((n:Int)+3)=((n+3:Nat):Int) from by omega]
    exact run_mk _ _ Tryz.underlying40 byteInfoF 0 (n+3) (by omega) (by omega) W
  have HS:=hid hS
  have HB:=hid hB
  have HL:l.length≤n:=by have:=hB.len;omega
  have tok1:True:=trivial
  have tok2:True:=trivial
  have tok3:True:=trivial
  clear hS hB hg
  go_enter Tryz.func38,Tryz.ntmps38
  go_wp2_with (first
    | (go_at_call 68;refine (hgo.out).mono ?_;rintro e w1 ⟨rfl,hb1⟩
       have S1:=hid (HS.out.below hb1)
       have B1:=hid (HB.out.below hb1)
       obtain ⟨s0,s1,s2⟩:=HS.out.below hb1
       have hsz1:0<w1.heap.size:=World.block_lt_of_cell? w1 _ s0)
    | (go_at_call 69;refine (frameCount _ (by omega) (by omega) _).mono ?_;rintro e w' ⟨rfl,rfl⟩)
    | (at_builtin;have _t:=tok1
       go_loud (refine wpList_app rfl (.tmp 12) (.tmp 15) 40 rfl w1.heap.size 5 Tryz.underlying40 byteInfoF _ [] rfl ((Own.made 5 w1 (Array.replicate (n+3) (.int .u8 0)) (n+3) (Nat.le_refl _) (by simp only [maxLen];omega) (by simp)).alloc _) _ 1 1 [11] rfl (Bs.lit _ [11] 5 _ _ (by simp) rfl rfl (by simp [maxLen])) (by simp) (by simp;omega) ?_)
       intro v2 w2 hown2 hb2 hg2
       have b12:Below w1.heap.size w1 w2:=(((Below.refl _ _).alloc (Nat.le_refl _) _).alloc (by simp) _).trans hb2
       clear tok1 hb2 hg2 _t)
    | (at_builtin;have _t:=tok2
       go_loud (refine wpList_app rfl (.tmp 17) (.tmp 18) 40 rfl w1.heap.size 5 Tryz.underlying40 byteInfoF _ _ rfl hown2 _ n c l rfl (B1.out.below b12) (by simp;omega) b12.size ?_)
       intro v3 w3 hown3 hb3 hg3
       have b13:=b12.trans hb3
       clear tok2 hb3 hg3 _t
       obtain ⟨s03,s13,s23⟩:=S1.out.below b13)
    | (at_builtin;have _t:=tok3
       go_loud (refine wpList_app rfl (.tmp 20) (.tmp 25) 40 rfl w1.heap.size 5 Tryz.underlying40 byteInfoF _ _ rfl (hown3.alloc _) _ 2 2 [28,13] rfl (Bs.lit _ [28,13] 5 _ _ (by simp) rfl rfl (by simp [maxLen])) (by simp;omega) (by have:=b13.size;simp;omega) ?_)
       intro v4 w4 hown4 hb4 hg4
       have b14:Below w1.heap.size w1 w4:=(b13.alloc b13.size _).trans hb4
       clear tok3 hb4 hg4 _t))
  go_ret2
  have hl4:([]++[11]++l++[28,13]:List UInt8)=11 :: (l++[28,13]):=by simp
  rw [hl4] at hown4
  exact ⟨v4,rfl,hown4.baseL hb1.size,hb1.trans (b14.mono hb1.size)⟩
end
section
open Go.RowKit Go.MapKept
abbrev preR:List UInt8:=[77,83,72,124,94,126,92,38,124,124,124,124,124,124,124,65,68,84,124]
abbrev sufR:List UInt8:=[124,80,124,50,46,53,13]
def rightD (y:List UInt8):List UInt8:=preR++y++sufR
theorem rightD_len (y:List UInt8):(rightD y).length=y.length+26:=by simp [rightD]
set_option maxRecDepth 100000
set_option maxHeartbeats 2000000
theorem right17 (y:List UInt8) (hy:y.length≤1000000) (w:World):Calls Tryz.prog 39 #[.string (txt y)] w fun e w'=>∃ b c,e=.returned (.slice (some ⟨b,0,none⟩) (rightD y).length c)∧Bs w' (some ⟨b,0,none⟩) (rightD y).length c (rightD y)∧w.heap.size≤b∧Below w.heap.size w w':=by
  obtain ⟨Z1,hZ1⟩:∃ Z1,Z1=preR++y:=⟨_,rfl⟩
  have HZ1:=hid hZ1
  have HZ2:Hid (rightD y=Z1++sufR):=hid (by rw [hZ1];rfl)
  have HL1:Hid (Z1.length≤2000000):=hid (by rw [hZ1];simp;omega)
  have HL2:Hid ((rightD y).length≤2000000):=hid (by rw [rightD_len];omega)
  obtain ⟨Z2,hZ2⟩:∃ Z2,Z2=rightD y:=⟨_,rfl⟩
  rw [← hZ2] at HZ2 HL2 ⊢
  obtain ⟨N,hN⟩:∃ N,Z2.length=N:=⟨_,rfl⟩
  have HN:=hid hN
  rw [hN] at HL2 ⊢
  clear hZ1 hZ2 hy hN
  go_enter Tryz.func39,Tryz.ntmps39
  have tok1:Hid True:=hid trivial
  go_wp2_with (first | (with_reducible refine wpList_addT (dst:=some 4) preR y Z1 HZ1 (by kernel_rfl) (by kernel_rfl) (by have:=HL1.out;omega) ?_) | (with_reducible refine wpList_addT (dst:=some 5) Z1 sufR Z2 HZ2 (by kernel_rfl) (by kernel_rfl) (by have:=HN.out;have:=HL2.out;omega) ?_) | (have _t:=tok1;with_reducible refine wpList_convT Z2 N w.heap.size (by kernel_rfl) HN.out (by have:=HL2.out;simp only [maxLen];omega) rfl ?_;intro cap5 W5 HC5 hbv5;have HBV5:=hid hbv5;clear tok1 hbv5 _t))
  go_ret
  exact ⟨w.heap.size,cap5,rfl,HC5.out.bs,Nat.le_refl _,HBV5.out⟩
def u64D (n:Int) (k:Int):Nat:=(n % 18446744073709551616 % k).toNat
theorem u64D_lt (n:Int) (k:Nat) (hk:0<k):u64D n k<k:=by
  unfold u64D
  have h1:=Int.emod_nonneg (n % 18446744073709551616) (show (k:Int)≠0 by omega)
  have h2:=Int.emod_lt_of_pos (n % 18446744073709551616) (show (0:Int)<(k:Int) by omega)
  omega
theorem u64D_eq (n:Int) (k:Nat) (hk:0<k) (hk2:k≤1000000):wrap64 ((IntKind.u64.wrap n).tmod (k:Int))=(u64D n k:Int):=by
  have h0:=u64D_lt n k hk
  have h1:=Int.emod_nonneg (n % 18446744073709551616) (show (k:Int)≠0 by omega)
  have e:(IntKind.u64.wrap n).tmod (k:Int)=(u64D n k:Int):=by
    rw [IntKind.wrap_u64,Int.tmod_eq_emod_of_nonneg (Int.emod_nonneg _ (by decide))]
    unfold u64D
    omega
  rw [e]
  simp only [wrap64]
  omega
theorem room17 (n:Int) (w:World):Calls Tryz.prog 11 #[.int .i64 n] w fun e w'=>e=.returned (.int .i64 (u64D n 3000:Int))∧w'=w:=by
  have e:=u64D_eq n 3000 (by decide) (by decide)
  have E:=hid e
  clear e
  go_enter Tryz.func11,Tryz.ntmps11
  go_wp2_with (fail)
  have e:wrap64 ((IntKind.u64.wrap n).tmod 3000)=(u64D n 3000:Int):=E.out
  rw [e]
  go_ret
  exact ⟨rfl,rfl⟩
theorem most17 (n:Int) (w:World):Calls Tryz.prog 12 #[.int .i64 n] w fun e w'=>e=.returned (.int .i64 ((u64D n 600+1:Nat):Int))∧w'=w:=by
  have e:=u64D_eq n 600 (by decide) (by decide)
  have E:=hid e
  clear e
  go_enter Tryz.func12,Tryz.ntmps12
  go_wp2_with (fail)
  have e:wrap64 ((IntKind.u64.wrap n).tmod 600)=(u64D n 600:Int):=E.out
  have h:u64D n 600<600:=u64D_lt n 600 (by decide)
  have e2:wrap64 (1+(u64D n 600:Int))=((u64D n 600+1:Nat):Int):=by simp only [wrap64];omega
  rw [e,e2]
  go_ret
  exact ⟨rfl,rfl⟩
theorem begin17 (n:Int) (hn:0≤n∧n≤1073741824) (m:Nat) (h0:1≤m) (h1:m≤65536) (w:World):Calls Tryz.prog 10 #[.int .i64 n,.int .i64 m] w fun e w'=>∃ D M L Q X v,e=.returned (.tuple #[pD D,pL L,pI X]) ∧
    IB (fun k=>k<w.heap.size) w' w.heap.size D M L Q X none ⟨n,0,0,0,0,0⟩ [] [] 0 v m newS (.slice none 0 0) [] 0 0∧Below w.heap.size w w':=by
  go_enter Tryz.func10,Tryz.ntmps10
  go_wp2_with (fail)
  refine (dkNew n hn w).mono ?_
  rintro e w1 ⟨D,M,rfl,hd1,hb1⟩
  have HD1:=hid hd1
  have HB1:=hid hb1
  clear hd1 hb1
  go_wp2_with (fail)
  refine (walOpen_new (E:=fun k=>k<w.heap.size) hn HD1.out nmI (by decide) nameL HB1.out.size (fun k hk=>Nat.lt_of_lt_of_le hk HB1.out.size)).mono ?_
  rintro e w2 ⟨L,v,rfl,hl2,hd2,hc2,_,_⟩
  have HB2:=hid (HB1.out.trans (hc2.below HD1.out HB1.out.size))
  have HL2:=hid hl2
  have HD2:=hid hd2
  clear hl2 hd2 hc2 HD1 HB1
  go_wp2_with (fail)
  refine (inNew HD2.out HL2.out m h0 h1 HB2.out.size (fun k hk=>⟨Nat.lt_of_lt_of_le hk HB2.out.size,fun hl=>by have:=(HL2.out.foot_lt HD2.out (.inl hl)).1;omega⟩)).mono ?_
  rintro e w3 ⟨X,Q,rfl,hi,hb3,_⟩
  have HI:=hid hi
  have HB3:=hid (HB2.out.trans (hb3.mono HB2.out.size))
  clear hi hb3 HL2 HD2 HB2
  go_wp2_with (fail)
  exact bodyPost_ret (v:=.tuple #[pD D,pL L,pI X]) (by simp [results,Tryz.results10,go_sem]) rfl ⟨D,M,L,Q,X,v,rfl,HI.out,HB3.out⟩
end
section
open Go.RowKit Go.MapKept
abbrev m7:List UInt8:=rightD [55]
abbrev m0:List UInt8:=rightD []
abbrev mx:List UInt8:=[120,121,122]
abbrev fr (l:List UInt8):List UInt8:=11 :: (l++[28,13])
theorem ex_feed:(feedD 500 newS (fr m7++fr m0++fr mx)).2=[m7,m0,mx]:=by decide +kernel
theorem ex_v7:(verdictD m7).2.1=cB 0:=by decide +kernel
theorem ex_v0:(verdictD m0).2.1≠cB 0:=by decide +kernel
theorem ex_vx:(verdictD mx).2.1≠cB 0:=by decide +kernel
theorem ex_r7:(replyD m7 true).2=true:=by decide +kernel
theorem ex_r0:(replyD m0 false).2=true:=by decide +kernel
theorem ex_rx:(replyD mx false).2=false:=by decide +kernel
theorem ex_g7:good m7=true:=by decide +kernel
theorem ex_g0:good m0=true:=by decide +kernel
theorem ex_gx:good mx=true:=by decide +kernel
theorem ex_run:(feedM ⟨1000,0,0,0,0,0⟩ (fsOf []) [] 0 0 [] [m7,m0,mx]).r=.inl 0∧(feedM ⟨1000,0,0,0,0,0⟩ (fsOf []) [] 0 0 [] [m7,m0,mx]).kp=1∧(feedM ⟨1000,0,0,0,0,0⟩ (fsOf []) [] 0 0 [] [m7,m0,mx]).La.length=2∧(feedM ⟨1000,0,0,0,0,0⟩ (fsOf []) [] 0 0 [] [m7,m0,mx]).T.length=1:=by
  have h7:(keepD ⟨1000,0,0,0,0,0⟩ (fsOf []) 0 m7).1=.inl 0:=by
    unfold keepD
    rw [if_pos ex_v7]
    rcases (addD_plain (newW_plain 1000 nmI) nameL m7 (by decide +kernel)).2 with h|h
    · exact h.2.1
    · have h1:=h.1
      rw [record_length,rightD_len] at h1
      have:(recs []).length=0:=rfl
      rw [this] at h1
      exact absurd h1 (by decide)
  have hk0:∀ d fs g,keepD d fs g m0=(.inl 1,d,fs):=fun d fs g=>if_neg ex_v0
  have hkx:∀ d fs g,keepD d fs g mx=(.inl 1,d,fs):=fun d fs g=>if_neg ex_vx
  have a7:(ansD m7 (.inl 0)).length=1:=by
    have e:ansD m7 (.inl 0)=[(replyD m7 true).1]:=by
      show (if (replyD m7 true).2=true then [(replyD m7 true).1] else [])=_
      rw [if_pos ex_r7]
    rw [e];rfl
  have a0:(ansD m0 (.inl 1)).length=1:=by
    have e:ansD m0 (.inl 1)=[(replyD m0 false).1]:=by
      show (if (replyD m0 false).2=true then [(replyD m0 false).1] else [])=_
      rw [if_pos ex_r0]
    rw [e];rfl
  have ax:(ansD mx (.inl 1)).length=0:=by
    have e:ansD mx (.inl 1)=[]:=by
      show (if (replyD mx false).2=true then [(replyD mx false).1] else [])=_
      rw [if_neg (by rw [ex_rx];decide)]
    rw [e];rfl
  simp only [feedM,h7,hk0,hkx]
  refine ⟨by simp,by simp,?_,by simp⟩
  simp [List.length_append,a7,a0,ax]
set_option maxRecDepth 100000
set_option maxHeartbeats 8000000
theorem alive17 (w:World) (hG:∀ W,Below w.heap.size w W→Vers W∧Signs W∧Cds W):Calls Tryz.prog 8 #[] w (True_ w):=by
  have HG:=hid hG
  clear hG
  have hcv:=fun w C n c=>Lib.run_convert_bytes_const (P:=Tryz.prog) w 40 5 C n c Tryz.underlying40 Tryz.underlying5
  go_enter Tryz.func8,Tryz.ntmps8
  go_wp2_with (fail)
  refine (begin17 1000 (by decide) 500 (by decide) (by decide) w).mono ?_
  rintro e w1 ⟨D,M,L,Q,X,v,rfl,hi,hb1⟩
  have HI1:=hid hi
  have HB1:=hid hb1
  clear hi hb1
  go_wp2_with (fail)
  refine (right17 [55] (by decide) w1).mono ?_
  rintro e w2 ⟨b2,c2,rfl,hs2,_,hb2⟩
  have HS2:=hid hs2
  have HB2:=hid (HB1.out.trans (hb2.mono HB1.out.size))
  have HI2:=hid (HI1.out.below hb2)
  have HZ2:Hid (w1.heap.size≤w2.heap.size):=hid hb2.size
  have HFL:Hid (∀ k,FI L D M Q X none [] v (.slice none 0 0) k→k<w1.heap.size):=hid (fun k hk=>(HI1.out.foot_lt hk).2)
  clear hs2 hb2 HI1
  go_wp2_with (fail)
  refine (frameWrap_own _ _ _ _ w2 (HG.out w2 HB2.out).2.1 HS2.out ex_g7 (by decide)).mono ?_
  rintro e w3 ⟨v3,rfl,ho3,hb3⟩
  have HO3:=hid ho3
  have HC3:=hid hb3
  have HV3:Hid (∀ k,v3.ownBlock=some k→k<w3.heap.size):=hid (fun k hk=>(World.ownsRow.lt ho3 k hk).2)
  clear ho3 hb3 HS2
  go_wp2_with (fail)
  refine (right17 [] (by decide) w3).mono ?_
  rintro e w4 ⟨b4,c4,rfl,hs4,_,hb4⟩
  have HS4:=hid hs4
  have HC4:=hid (HC3.out.trans (hb4.mono HC3.out.size))
  have HO4:=hid (HO3.out.below hb4)
  have HD4:Hid (w3.heap.size≤w4.heap.size):=hid hb4.size
  clear hs4 hb4 HO3 HC3
  go_wp2_with (fail)
  refine (frameWrap_own _ _ _ _ w4 (HG.out w4 (HB2.out.trans (HC4.out.mono HB2.out.size))).2.1 HS4.out ex_g0 (by decide)).mono ?_
  rintro e w5 ⟨v5,rfl,ho5,hb5⟩
  have HO5:=hid ho5
  have HC5:=hid (HC4.out.trans (hb5.mono HC4.out.size))
  have HP5:=hid (HO4.out.below hb5)
  have HD5:Hid (w3.heap.size≤w5.heap.size):=hid (Nat.le_trans HD4.out hb5.size)
  clear ho5 hb5 HS4 HO4 HD4 HC4
  have hb6:Below w5.heap.size w5 (w5.alloc (.cells #[.int .u8 120,.int .u8 121,.int .u8 122] 5 (3,4))):=(Below.refl _ _).alloc (Nat.le_refl _) _
  have HC6:=hid (HC5.out.trans (hb6.mono HC5.out.size))
  have HO6:=hid (HO5.out.below hb6)
  have HP6:=hid (HP5.out.below hb6)
  have HS6:Hid (Bs (w5.alloc (.cells #[.int .u8 120,.int .u8 121,.int .u8 122] 5 (3,4))) (some ⟨w5.heap.size,0,none⟩) 3 3 mx):=hid (Bs.litText w5 [120,121,122] 5 _ _ _ _ rfl rfl rfl (by simp [maxLen]))
  have HD6:Hid (w3.heap.size≤(w5.alloc (.cells #[.int .u8 120,.int .u8 121,.int .u8 122] 5 (3,4))).heap.size):=hid (Nat.le_trans HD5.out hb6.size)
  clear hb6 HO5 HP5 HC5 HD5
  go_wp2_with (fail)
  refine (frameWrap_own _ _ _ _ _ (HG.out _ (HB2.out.trans (HC6.out.mono HB2.out.size))).2.1 HS6.out ex_gx (by decide)).mono ?_
  rintro e w7 ⟨v7,rfl,ho7,hb7⟩
  have HC7:=hid (HC6.out.trans (hb7.mono HC6.out.size))
  have HP7:=hid (HO6.out.below hb7)
  have HR7:=hid (HP6.out.below hb7)
  obtain ⟨A5,c5,e5,hs5,_⟩:=HP7.out.bs
  obtain ⟨A7,c7,e7,hs7,hlo7⟩:=ho7.bs
  rw [show (11 :: (rightD []++[28,13]):List UInt8).length=29 from by decide +kernel] at e5 hs5
  rw [show (11 :: (mx++[28,13]):List UInt8).length=6 from by decide +kernel] at e7 hs7
  subst e5 e7
  have HS5:=hid hs5
  have HS7:=hid hs7
  have HN7:Hid (∀ b,A7=some b→¬ v3.ownBlock=some b.block):=hid (fun b hb hk=>by
    have h1:=hlo7 b hb
    have h2:=HV3.out _ hk
    have h3:=HD6.out
    omega)
  clear hs5 hs7 HP7 ho7 hb7 hlo7 HO6 HP6 HS6 HC6 HD6 HV3
  have tok1:Hid True:=hid trivial
  have tok2:Hid True:=hid trivial
  go_wp2_with (first
    | (at_builtin;have _t:=tok1;go_loud ((refine wpList_app rfl (.tmp 35) (.tmp 36) 40 rfl w2.heap.size 5 Tryz.underlying40 byteInfoF v3 (fr m7) rfl HR7.out A5 29 c5 (fr m0) rfl HS5.out (by decide +kernel) HC7.out.size ?_;intro v8 w8 ho8 hb8 hg8;have HO8:=hid ho8;have HC8:=hid (HC7.out.trans hb8);have HS8:=hid (HS7.out.ch (Ch.of_grown (S:=fun k=>v3.ownBlock=some k) hg8 (fun k hk=>hk)) (fun _ b hb hk=>HN7.out b hb hk));clear tok1 ho8 hb8 hg8 _t)))
    | (at_builtin;have _t:=tok2;go_loud ((refine wpList_app rfl (.tmp 37) (.tmp 38) 40 rfl w2.heap.size 5 Tryz.underlying40 byteInfoF v8 (fr m7++fr m0) rfl HO8.out A7 6 c7 (fr mx) rfl HS8.out (by decide +kernel) HC8.out.size ?_;intro v9 w9 ho9 hb9 hg9;have HO9:=hid ho9;have HC9:=hid (HC8.out.trans hb9);clear tok2 ho9 hb9 hg9 _t))))
  obtain ⟨A9,c9,e9,hs9,hlo9⟩:=HO9.out.bs
  rw [show (fr m7++fr m0++fr mx:List UInt8).length=65 from by decide +kernel] at e9 hs9
  subst e9
  have HB9:=hid (HB2.out.trans (HC9.out.mono HB2.out.size))
  have hF:=mFeed (HI2.out.below HC9.out) A9 65 c9 0 _ hs9 (fun _ b hb hk=>by have:=hlo9 b hb;have:=HFL.out _ hk;have:=HZ2.out;omega) (by decide) ⟨Nat.le_refl _,Nat.le_refl _,Nat.le_refl _,Nat.zero_le _⟩ (by decide) (by decide) (fun W hb=>HG.out W (HB9.out.trans hb)) (newW_ok 1000 (by decide)) (by show (0:Int)+3*65+8≤_;decide) (by decide) (by decide) (by decide) (by decide) (by decide) HB9.out.size
  rw [ex_feed] at hF
  refine hF.mono ?_
  rintro e w10 ⟨F',v',va',O',he,hfs,hi10,hic10⟩
  obtain ⟨e1,e2,e3,e4⟩:=ex_run
  generalize feedM ⟨1000,0,0,0,0,0⟩ (fsOf []) [] 0 0 [] [m7,m0,mx]=R at *
  have HB10:Hid (Below w.heap.size w w10):=hid (HB9.out.trans (hic10.ch.below (fun k hk=>((HI2.out.below HC9.out).foot_lt hk).1) HB9.out.size))
  rw [e1] at he
  obtain rfl:e=.returned (.int .i64 0):=he
  obtain ⟨La,R1⟩:∃ La,La=[]++R.La:=⟨_,rfl⟩
  have HLA:Hid (La.length=2):=hid (by rw [R1];exact e3)
  rw [← R1,e2,e3] at hi10
  have HI:=hid hi10
  have HT:=hid e4
  clear e1 e2 e3 e4 R1 hi10 hic10 hF hs9 hlo9 hfs HI2 HC9 HB9 hcv
  obtain ⟨Av,cv,hva⟩:=HI.out.an.form
  rw [HLA.out] at hva
  subst hva
  go_wp2_with (fail)
  refine (inTake HI.out).mono ?_
  rintro e w11 ⟨rfl,hi11,_,hc11⟩
  have HI11:=hid hi11
  have HB11:Hid (Below w.heap.size w w11):=hid (HB10.out.trans (hc11.below (fun k hk=>by rw [show k=X from hk];exact HI.out.xb) HB10.out.size))
  clear hi11 hc11 HB10
  go_wp2_with (fail)
  refine (inSeen HI11.out).mono ?_
  rintro e w12 ⟨rfl,rfl⟩
  go_wp2_with (fail)
  refine (inKept HI11.out).mono ?_
  rintro e w12 ⟨rfl,rfl⟩
  go_wp2_with (fail)
  refine (walLen HI11.out.lg).mono ?_
  rintro e w12 ⟨rfl,rfl⟩
  rw [HT.out]
  go_wp2_with (fail)
  go_ret
  exact ⟨rfl,HB11.out⟩
end
section
open Go.RowKit Go.MapKept
structure InB (d:Dk) (fs:Fs) (T:List (List UInt8)) (g kp:Nat) (N:Nat):Prop where
  ok:FsOk d fs
  ops:d.ops≤3*N
  g:g≤29008*N
  T:T.length≤N
  kp:kp≤N
theorem feedM_b:∀ (Ms:List (List UInt8)) (d:Dk) (fs:Fs) (T:List (List UInt8)) (g kp:Nat) (La:List (List UInt8)) (N:Nat),InB d fs T g kp N→N+Ms.length≤1000000000→(∀ x ∈ Ms,x.length≤29000) →
    InB (feedM d fs T g kp La Ms).d (feedM d fs T g kp La Ms).fs (feedM d fs T g kp La Ms).T (feedM d fs T g kp La Ms).g (feedM d fs T g kp La Ms).kp (N+Ms.length)∧(feedM d fs T g kp La Ms).La.length≤La.length+Ms.length
  | [],d,fs,T,g,kp,La,N,h,_,_=>⟨h,Nat.le_refl _⟩
  | m :: r,d,fs,T,g,kp,La,N,h,hN,hx=>by
    have hm:=hx m (by simp)
    have ho:=h.ops
    have hk:=keepD_ok h.ok (by simp at hN;omega) g m
    have h1:=h.g
    have h2:=h.T
    have h3:=h.kp
    have hr:=record_length m
    rw [List.length_cons] at hN ⊢
    unfold feedM
    split
    · exact ⟨⟨hk.1,by have:=hk.2;show (keepD d fs g m).2.1.ops≤_;omega,by show g≤_;omega,by show T.length≤_;omega,by show kp≤_;omega⟩,by show La.length≤_;omega⟩
    · rename_i x _
      have ha:=ansD_len m (.inl x)
      have hb:InB (keepD d fs g m).2.1 (keepD d fs g m).2.2 (if x=0 then T++[m] else T) (if x=0 then g+(record m).length else g) (if x=0 then kp+1 else kp) (N+1):=by
        refine ⟨hk.1,by have:=hk.2;omega,?_,?_,?_⟩
        · split <;> omega
        · split <;> (try rw [List.length_append,List.length_singleton]) <;> omega
        · split <;> omega
      obtain ⟨q1,q2⟩:=feedM_b r _ _ _ _ _ (La++ansD m (.inl x)) (N+1) hb (by omega) (fun y hy=>hx y (by simp [hy]))
      rw [List.length_append] at q2
      rw [show N+(r.length+1)=N+1+r.length from by omega]
      exact ⟨q1,by omega⟩
section
variable {Z Z' S:Nat→Prop} {w w':World} {B D M L Q X g sn kp most:Nat} {O:Option Nat} {d:Dk} {F:List Ent} {T:List (List UInt8)} {v va:Value} {s:St} {an:List (List UInt8)}
theorem IB.beside (h:IB Z w B D M L Q X O d F T g v most s va an sn kp) (c:Ch S w w') (hS:∀ k,k<w.heap.size→S k→Z k) (hZ:∀ k,Z' k→k<w'.heap.size∧(Z k∨w.heap.size≤k)):IB Z' w' B D M L Q X O d F T g v most s va an sn kp:=by
  have hn:∀ k,FI L D M Q X O F v va k→¬ S k:=fun k hf hs=>h.zf (hS k (h.foot_lt hf).2 hs) hf
  refine ⟨h.dk.ch c (fun k hk=>hn k (.inr (.inr (.inl (.inl (.inr hk)))))),?_,h.df.ch c (hn Q (.inr (.inl (.inl rfl)))) (fun k hk=>hn k (.inr (.inl (.inr hk.symm)))),c.row h.row (hn X (.inl rfl)),h.xb,?_,h.ap,fun k hk=>?_⟩
  · refine ((h.lg.widen (E':=fun k=>(Z k∨k=X∨dS Q O k∨va.ownBlock=some k)∨w.heap.size≤k) (fun k hk=>hk)).chE c (fun k hk hs=>.inl (.inl (hS k hk hs))) (hn L (.inr (.inr (.inl (.inl (.inl rfl))))))).widen (fun k hk=>.inl ?_)
    rcases hk with h1|h1
    · rcases (hZ k h1).2 with h2|h2
      · exact .inl (.inl h2)
      · exact .inr h2
    · exact .inl (.inr h1)
  · refine (Rw.widen h.an (T':=fun k=>(Z k∨k=X∨dS Q O k∨WFoot L D M F v k)∨w.heap.size≤k) (fun k hk=>hk)).ch c (fun k hk hs=>.inl (.inl (hS k hk hs))) (fun k _ hk=>?_)
    rcases hk with h1|h1
    · rcases (hZ k h1).2 with h2|h2
      · exact .inl (.inl h2)
      · exact .inr h2
    · exact .inl (.inr h1)
  · obtain ⟨h0,h1|h1⟩:=hZ k hk
    · obtain ⟨_,h3⟩:=h.zl k h1
      exact ⟨h0,h3⟩
    · have hlt:∀ j,FI L D M Q X O F v va j→j<w.heap.size:=fun j hj=>(h.foot_lt hj).2
      refine ⟨h0,fun e=>?_,fun hd=>?_,fun hl=>?_⟩
      · have:=hlt k (.inl e);omega
      · have:=hlt k (.inr (.inl hd));omega
      · have:=hlt k (.inr (.inr (.inl (.inl hl))));omega
end
set_option maxHeartbeats 1000000 in
set_option maxRecDepth 100000 in
theorem same17 (A A':Option Addr) (n c c':Nat) (L:List (List UInt8)) (w:World) (hS:Rd w A n c L) (hS':Rd w A' n c' L) :
    Calls Tryz.prog 18 #[.slice A n c,.slice A' n c'] w fun e w'=>e=.returned (.bool true)∧Below w.heap.size w w':=by
  have hmax:=hS.nmax
  have HS:=hid hS
  have HS':=hid hS'
  clear hS hS'
  go_enter Tryz.func18,Tryz.ntmps18
  go_wp2_with (fail)
  go_loopw [13,5] (fun i _ wr=>∃ k:Nat,k≤n∧i=.int .i64 k∧Below w.heap.size w wr) (fun i _ _=>n-(intOf i).toNat)
  case atStart=>exact ⟨0,Nat.zero_le _,rfl,Below.refl _ _⟩
  case round =>
    obtain ⟨k,hk,rfl,hb⟩:=hrel
    have HB:=hid hb
    clear hb
    by_cases hlt:k<n
    · obtain ⟨b,o,Ai,ci,rfl,_,hc,hB⟩:=(HS.out.below HB.out).read hlt
      obtain ⟨b',o',Ai',ci',rfl,_,hc',hB'⟩:=(HS'.out.below HB.out).read hlt
      have e1:(k:Int)<(n:Int):=by omega
      have e0:(0:Int)≤(k:Int):=by omega
      generalize L.getD k []=y at *
      have hcv:=fun q=>(hB.drewN q).str (P:=Tryz.prog) 40 5 9 Tryz.underlying40 Tryz.underlying5 Tryz.underlying9
      have hcv':=fun q=>(hB'.drewN q).str (P:=Tryz.prog) 40 5 9 Tryz.underlying40 Tryz.underlying5 Tryz.underlying9
      have HLT:=hid hlt
      clear hlt hB hB'
      go_wp2_with (fail)
      go_quiet (fail)
      go_wp2_with (fail)
      exact ⟨⟨k+1,HLT.out,by go_num,drawN_below HB.out _⟩,by have:=HLT.out;simp [intOf];omega⟩
    · obtain rfl:k=n:=by omega
      go_wp2_with (fail)
      go_ret
      exact ⟨rfl,HB.out⟩
end
section
open Go.RowKit
set_option maxHeartbeats 1000000 in
theorem refVersions09 (w:World):Calls Tryz.prog 123 #[] w (fun e w'=>∃ g c,e=.returned (.slice (some ⟨g,0,none⟩) 10 c)∧Ss w' (some ⟨g,0,none⟩) 10 c (versL.map (·.data.toList))∧Below w.heap.size w w'):=by
  go_enter Tryz.func123,Tryz.ntmps123
  go_wp2_with (fail)
  go_ret
  refine ⟨w.heap.size,10,rfl,?_,(Below.refl _ w).alloc (Nat.le_refl _) _⟩
  refine Ss.of_block (heap_alloc_new w _) (fun i x hx=>?_) rfl (by omega) (by simp [maxLen])
  rw [List.getElem?_map] at hx
  match i with
  | 0=>(simp [versL] at hx;subst hx;rfl)
  | 1=>(simp [versL] at hx;subst hx;rfl)
  | 2=>(simp [versL] at hx;subst hx;rfl)
  | 3=>(simp [versL] at hx;subst hx;rfl)
  | 4=>(simp [versL] at hx;subst hx;rfl)
  | 5=>(simp [versL] at hx;subst hx;rfl)
  | 6=>(simp [versL] at hx;subst hx;rfl)
  | 7=>(simp [versL] at hx;subst hx;rfl)
  | 8=>(simp [versL] at hx;subst hx;rfl)
  | 9=>(simp [versL] at hx;subst hx;rfl)
  | i+10=>simp [versL] at hx
theorem vers_at (k:Nat) (hk:k<10):str ((versL.map (·.data.toList)).getD k [])=.string (vB k):=by
  match k,hk with
  | 0,_=>rfl
  | 1,_=>rfl
  | 2,_=>rfl
  | 3,_=>rfl
  | 4,_=>rfl
  | 5,_=>rfl
  | 6,_=>rfl
  | 7,_=>rfl
  | 8,_=>rfl
  | 9,_=>rfl
theorem knownD_any (s:ByteArray):knownD s=(List.range 10).any fun k=>decide (vB k=s):=rfl
def knownK (s:ByteArray) (k:Nat):Bool:=(List.range k).any fun j=>decide (vB j=s)
theorem knownK_succ (s:ByteArray) (k:Nat):knownK s (k+1)=(knownK s k || decide (vB k=s)):=by
  unfold knownK
  rw [List.range_succ,List.any_append]
  simp
set_option maxHeartbeats 8000000 in
set_option maxRecDepth 100000 in
theorem refCheck09 (h:Hd) (w:World) (h8:h.a8.size≤1000000000) (h9:h.a9.size≤1000000000):Calls Tryz.prog 87 #[h.v] w fun e w'=>e=.returned (.int .i64 (checkD h))∧Below w.heap.size w w':=by
  have HX0:=hid (BoxH.new h w)
  have HB0:=hid (boxHd_below h w)
  have H8:=hid h8
  have H9:=hid h9
  have HC:Hid (checkD h=if h.a6.toList.isEmpty || h.a7.toList.isEmpty || decide (50<h.a7.size) then 14 else if !knownD (txt (firstD h.a9 h.d)) then 12 else if !procD (txt (firstD h.a8 h.d)) then 13 else 0):=hid rfl
  clear h8 h9
  go_enter Tryz.func87,Tryz.ntmps87
  obtain ⟨c0,c1,c2,c3,c4,_,_,_,_,_,_,c11,c12,c13,c14⟩:=HX0.out.cells
  cases d6:h.a6.toList.isEmpty
  · cases d7:h.a7.toList.isEmpty
    · by_cases h50:50<h.a7.size
      · as_aux_lemma =>
        have d50:decide ((50:Int)<(h.a7.size:Int))=true:=by simp;omega
        have d51:decide (50<h.a7.size)=true:=by simpa using h50
        have HE:Hid (checkD h=14):=hid (by rw [HC.out,d6,d7,d51];rfl)
        go_wp2_with (fail)
        go_ret
        rw [HE.out];exact ⟨rfl,HB0.out⟩
      · have d50:decide ((50:Int)<(h.a7.size:Int))=false:=by simp;omega
        have d51:decide (50<h.a7.size)=false:=by simpa using h50
        have HE:Hid (checkD h=if !knownD (txt (firstD h.a9 h.d)) then 12 else if !procD (txt (firstD h.a8 h.d)) then 13 else 0):=hid (by rw [HC.out,d6,d7,d51];rfl)
        go_wp2_with (fail)
        generalize (w.alloc (.cells #[u8 h.d.a,u8 h.d.b,u8 h.d.c,u8 h.d.d,u8 h.d.e,.string h.a0,.string h.a1,.string h.a2,.string h.a3,.string h.a4,.string h.a5,.string h.a6,.string h.a7,.string h.a8,.string h.a9] TH))=w0 at *
        refine (first_ h.a9 h.d w0 (by have:=H9.out;omega)).mono ?_
        rintro e w1 ⟨rfl,hb1⟩
        have HB1:=hid (HB0.out.trans (hb1.mono HB0.out.size))
        have HX1:=hid (HX0.out.below hb1)
        clear hb1 HX0 HB0 c0 c1 c2 c3 c4 c11 c12 c13 c14 d6 d7 d50 d51 h50
        obtain ⟨s,hs⟩:∃ s,s=txt (firstD h.a9 h.d):=⟨_,rfl⟩
        rw [← hs] at HE
        rw [show str (firstD h.a9 h.d)=.string s from congrArg Value.string hs.symm]
        clear hs
        go_wp2_with (fail)
        refine (refVersions09 w1).mono ?_
        rintro e w2 ⟨g,cg,rfl,hS,hb2⟩
        have HB2:=hid (HB1.out.trans (hb2.mono HB1.out.size))
        have HX2:=hid (HX1.out.below hb2)
        have HS2:=hid hS
        clear hb2 HX1 HB1 hS
        go_wp2_with (fail)
        go_loopw [4,6] (fun v i wr=>∃ k:Nat,k≤10∧v=.bool (knownK s k)∧i=.int .i64 k∧wr=w2) (fun _ i _=>10-(intOf i).toNat)
        case atStart=>exact ⟨0,by omega,rfl,rfl,rfl⟩
        case round =>
          obtain ⟨k,hk,rfl,rfl,rfl⟩:=hrel
          by_cases hlt:k<10
          · as_aux_lemma =>
            obtain ⟨b,o,hbo,_,hc⟩:=HS2.out.read hlt
            rw [vers_at k hlt] at hc
            injection hbo with hbo
            injection hbo with e1 e2
            subst e1 e2
            rw [Nat.zero_add] at hc
            have d5:decide ((k:Int)<10)=true:=by simp;omega
            have d6:(k:Int)<10:=by omega
            have w1':wrap64 ((k:Int)+1)=(k:Int)+1:=IntWalk.wrap64_in _ (by omega)
            have HK:=hid hlt
            have HSU:=hid (knownK_succ s k)
            cases he:decide (vB k=s)
            · have d:=strEq_f (of_decide_eq_false he)
              rw [he,Bool.or_false] at HSU
              clear he hlt hk
              generalize vB k=v at *
              go_wp2_with (fail)
              try rw [w1']
              exact ⟨⟨k+1,HK.out,by rw [HSU.out],by go_num,(by trivial)⟩,by have:=HK.out;simp [intOf];omega⟩
            · have d:=strEq_t (of_decide_eq_true he)
              rw [he,Bool.or_true] at HSU
              clear he hlt hk
              generalize vB k=v at *
              go_wp2_with (fail)
              try rw [w1']
              exact ⟨⟨k+1,HK.out,by rw [HSU.out],by go_num,(by trivial)⟩,by have:=HK.out;simp [intOf];omega⟩
          · obtain rfl:k=10:=by omega
            have d5:decide (((10:Nat):Int)<10)=false:=by simp
            rw [show knownK s 10=knownD s from (knownD_any s).symm]
            clear hlt hk
            cases dk:knownD s
            · as_aux_lemma =>
              have HE2:Hid (checkD h=12):=hid (by rw [HE.out,dk];rfl)
              go_wp2_with (fail)
              go_ret
              rw [HE2.out];exact ⟨rfl,HB2.out⟩
            · have HE2:Hid (checkD h=if !procD (txt (firstD h.a8 h.d)) then 13 else 0):=hid (by rw [HE.out,dk];rfl)
              obtain ⟨c0,c1,c2,c3,c4,_,_,_,_,_,_,c11,c12,c13,c14⟩:=HX2.out.cells
              clear HE dk HS2
              go_wp2_with (fail)
              refine (first_ h.a8 h.d _ (by have:=H8.out;omega)).mono ?_
              rintro e w3 ⟨rfl,hb3⟩
              have HB3:=hid (HB2.out.trans (hb3.mono HB2.out.size))
              clear hb3 c0 c1 c2 c3 c4 c11 c12 c13 c14
              obtain ⟨p,hp⟩:∃ p,p=txt (firstD h.a8 h.d):=⟨_,rfl⟩
              rw [← hp] at HE2
              rw [show str (firstD h.a8 h.d)=.string p from congrArg Value.string hp.symm]
              clear hp
              have HP:Hid (procD p=(p.toList == [80] || p.toList == [68] || p.toList == [84])):=hid rfl
              cases p1:(p.toList == [80])
              · have q1:(p.toList != [80])=true:=by rw [bne,p1];rfl
                cases p2:(p.toList == [68])
                · have q2:(p.toList != [68])=true:=by rw [bne,p2];rfl
                  cases p3:(p.toList == [84])
                  · as_aux_lemma =>
                    have q3:(p.toList != [84])=true:=by rw [bne,p3];rfl
                    have HE3:Hid (checkD h=13):=hid (by rw [HE2.out,HP.out,p1,p2,p3];rfl)
                    go_wp2_with (fail)
                    go_ret
                    rw [HE3.out];exact ⟨rfl,HB3.out⟩
                  · as_aux_lemma =>
                    have q3:(p.toList != [84])=false:=by rw [bne,p3];rfl
                    have HE3:Hid (checkD h=0):=hid (by rw [HE2.out,HP.out,p1,p2,p3];rfl)
                    go_wp2_with (fail)
                    go_ret
                    rw [HE3.out];exact ⟨rfl,HB3.out⟩
                · as_aux_lemma =>
                  have q2:(p.toList != [68])=false:=by rw [bne,p2];rfl
                  have HE3:Hid (checkD h=0):=hid (by rw [HE2.out,HP.out,p1,p2];rfl)
                  go_wp2_with (fail)
                  go_ret
                  rw [HE3.out];exact ⟨rfl,HB3.out⟩
              · as_aux_lemma =>
                have q1:(p.toList != [80])=false:=by rw [bne,p1];rfl
                have HE3:Hid (checkD h=0):=hid (by rw [HE2.out,HP.out,p1];rfl)
                go_wp2_with (fail)
                go_ret
                rw [HE3.out];exact ⟨rfl,HB3.out⟩
    · as_aux_lemma =>
      have HE:Hid (checkD h=14):=hid (by rw [HC.out,d6,d7];rfl)
      go_wp2_with (fail)
      go_ret
      rw [HE.out];exact ⟨rfl,HB0.out⟩
  · as_aux_lemma =>
    have HE:Hid (checkD h=14):=hid (by rw [HC.out,d6];rfl)
    go_wp2_with (fail)
    go_ret
    rw [HE.out];exact ⟨rfl,HB0.out⟩
end
/- Texts without a byte. -/
section
open Go.RowKit
end
/- Texts appended to a row of texts of the call's own. -/
section
open Go.RowKit
theorem wpList_strs {ops:Array Oper} {rest:List Oper} {o:Oper} {a:Act} {Q:Exit→Act→World→Prop} {w:World} (hgd:o.guard=none) (s x:Operand)
    (ho:o.op=.call { callee:=.builtin .append,args:=#[s,x],argTypes:=#[135,135] }) (base:Nat) (v:Value) (T:List (List UInt8)) (hs:a.eval s=v) (hown:OwnS w base v T)
    (base2:Nat) (vx:Value) (U:List (List UInt8)) (hx:a.eval x=vx) (hU:OwnS w base2 vx U) (hn:T.length+U.length≤1099511627776) (hbase:base≤w.heap.size)
    (h:∀ v' w',OwnS w' base v' (T++U)→Below base w w'→wpList Tryz.prog ops Q rest (a.put o.dst v') w'):wpList Tryz.prog ops Q (o :: rest) a w:=by
  have hi:(Tryz.prog.info? 9).map (fun i=>(i.zero,i.size,i.bytes))=some (some (.string ByteArray.empty),1,16):=by kernel_rfl
  obtain ⟨i,hi,hzz⟩:=Option.map_eq_some_iff.1 hi
  simp only [Prod.mk.injEq] at hzz
  by_cases h0:0<U.length
  · obtain ⟨g,c,rfl,_,_,_,_⟩:=hU.form h0
    refine wpList_append_own w hgd s x 135 ho base 9 i (.string ByteArray.empty) 1 16 Tryz.underlying135 hi hzz.1 hzz.2.1 hzz.2.2 rfl (by decide) v T.length (T.map str) hs hown ⟨g,0,none⟩ U.length c (U.map str) hx (by simp)
      (fun j u hu=>by
        rw [List.getElem?_map] at hu
        cases hj:U[j]? with
        | none=>rw [hj] at hu;cases hu
        | some y =>
          rw [hj] at hu
          simp only [Option.map_some,Option.some.injEq] at hu
          subst hu
          rw [Addr.add_lit,Nat.zero_add]
          exact hU.cell hj) (fun u hu=>by
        obtain ⟨y,_,rfl⟩:=List.mem_map.1 hu
        rfl) (by simp only [maxLen];omega) (by omega) hbase (fun v' w' h2 h3 _=>h v' w' (by unfold OwnS;simpa using h2) ((Below.refl _ _).grown h3 hbase fun k hk=>(World.ownsRow.lt hown k hk).1))
  · have hUe:U=[]:=List.eq_nil_of_length_eq_zero (by omega)
    subst hUe
    rcases hU.2 with ⟨rfl,_⟩|⟨g,cap,cur,rfl,_,_,_,_,_,_⟩
    · exact wpList_append_own_none hgd s x 135 ho base 9 i 1 Tryz.underlying135 hi v T.length (T.map str) hs hown hx (h v w (by simpa using hown) (Below.refl _ _))
    · exact wpList_append_own w hgd s x 135 ho base 9 i (.string ByteArray.empty) 1 16 Tryz.underlying135 hi hzz.1 hzz.2.1 hzz.2.2 rfl (by decide) v T.length (T.map str) hs hown ⟨g,0,none⟩ 0 cap [] hx rfl
        (fun j u hu=>by simp at hu) (fun u hu=>by simp at hu) (by simp only [maxLen];simp at hn;omega) (by simp at hn;omega) hbase (fun v' w' h2 h3 _=>h v' w' (by unfold OwnS;simpa using h2) ((Below.refl _ _).grown h3 hbase fun k hk=>(World.ownsRow.lt hown k hk).1))
end
end Go.Proofs.YtodjilljcjkacaaGreatDoor
