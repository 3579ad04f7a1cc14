/- Laid together: RefCut. -/
import Derived.Test.YtodjilljcjkacaaGreatDoorPkIB17
import Derived.LoopTactic
import Derived.RegionTactic
import Derived.BigRegion
import Derived.Deep.RegionLaw
import Derived.Laws.Concat

namespace Go.Proofs.YtodjilljcjkacaaGreatDoor
open Lib (hid)
section
open Go.RowKit
theorem add_run (a b:ByteArray) (h:a.size+b.size≤9223372036854775807) (W:World):(binOp .add 9 (.string a) (.string b)).run Tryz.prog W=.ok (.string (a++b)) W:=by
  have:¬ ((9223372036854775807:Int)<(a.size:Int)+(b.size:Int)):=by omega
  simp [binOp,Op.stringOp,this]
def RetSs (w:World) (T:List (List UInt8)) (e:Ending) (w':World):Prop :=
  ∃ A c,e=.returned (.slice A T.length c)∧Ss w' A T.length c T∧Below w.heap.size w w'
theorem extract_one (s:ByteArray) (k:Nat) (h:k<s.size):(s.extract k (k+1)).data.toList=[s[k]]:=by
  rw [ByteArray.data_extract,Array.toList_extract,List.extract_eq_take_drop,show k+1-k=1 by omega,List.drop_eq_getElem_cons (by simpa using h)]
  rfl
theorem txt_append (a:List UInt8) (s:ByteArray):txt a++s=txt (a++s.data.toList):=by
  apply ByteArray.ext
  apply Array.toList_inj.1
  simp [ByteArray.data_append]
theorem txt_snoc (a:List UInt8) (s:ByteArray) (k:Nat) (h:k<s.size):txt a++s.extract k (k+1)=txt (a++[s[k]]):=by
  rw [txt_append,extract_one s k h]
theorem take_snoc (s:ByteArray) (k:Nat) (h:k<s.size):s.data.toList.take (k+1)=s.data.toList.take k++[s[k]]:=by
  rw [List.take_succ_eq_append_getElem (by simpa using h)];rfl
set_option maxHeartbeats 1000000 in
set_option maxRecDepth 100000 in
theorem refCut (s:ByteArray) (c:UInt8) (w:World) (hs:s.size≤1099511627000):Calls Tryz.prog 165 #[.string s,u8 c] w (RetSs w (cutAt c s.data.toList)):=by
  go_enter Tryz.func165,Tryz.ntmps165
  go_wp2_with (fail)
  have HO:Hid (OwnS (w.alloc (.cells #[str []] 9)) w.heap.size (.slice (some ⟨w.heap.size,0,none⟩) 1 1) [[]]):=hid (OwnS.one w [] (Nat.le_refl _))
  have HB:Hid (Below w.heap.size w (w.alloc (.cells #[str []] 9))):=hid ((Below.refl _ w).alloc (Nat.le_refl _) _)
  go_loopw [5,6] (fun v i wr=>∃ k:Nat,k≤s.size∧i=.int .i64 k∧OwnS wr w.heap.size v (cutAt c (s.data.toList.take k))∧Below w.heap.size w wr) (fun _ i _=>s.size-(intOf i).toNat)
  case atStart=>exact ⟨0,Nat.zero_le _,rfl,by rw [List.take_zero];exact HO.out,HB.out⟩
  case round =>
    clear HO HB
    obtain ⟨k,hk,rfl,ho,hb⟩:=hrel
    have HO:=hid ho
    have HB:=hid hb
    clear ho hb
    by_cases hlt:k<s.size
    · by_cases hx:s[k]=c
      · have d:(((s[k].toNat:Nat):Int) == ((c.toNat:Nat):Int))=true:=by rw [hx];simp
        have HX:=hid hx
        clear hx
        have HL:Hid ((cutAt c (s.data.toList.take k)).length≤k+1):=hid (by rw [cutAt_length];have:=List.count_le_length (a:=c) (l:=s.data.toList.take k);have:=List.length_take_le k s.data.toList;omega)
        have tok1:Hid True:=hid trivial
        go_wp2_with (at_builtin;have _t:=tok1;go_loud ((refine wpList_str rfl (.tmp 19) (.tmp 20) rfl w.heap.size _ (cutAt c (s.data.toList.take k)) rfl (HO.out.below ((Below.refl _ wr).alloc (Nat.le_refl _) _)) wr.heap.size [] rfl (heap_alloc_new wr _) (by have:=HL.out;omega) (by have:=HB.out.size;simp;omega) ?_;intro v' w' hown hbel hgr;have HOWN:=hid hown;have HBEL:=hid hbel;clear tok1 hown hbel hgr _t)))
        have hq:=HOWN.out
        rw [← cutAt_snoc_eq,← HX.out,← take_snoc s k hlt,HX.out] at hq
        exact ⟨⟨k+1,by omega,by go_num,hq,(HB.out.alloc HB.out.size _).trans HBEL.out⟩,by simp [intOf];omega⟩
      · have d:(((s[k].toNat:Nat):Int) == ((c.toNat:Nat):Int))=false:=by
          rw [beq_eq_false_iff_ne];intro e;exact hx (UInt8.toNat_inj.1 (by omega))
        have HX:=hid hx
        have hn0:0<(cutAt c (s.data.toList.take k)).length:=by rw [cutAt_length];omega
        obtain ⟨g,cp,rfl,hg1,hg2,hc1,hc2⟩:=HO.out.form hn0
        have HG1:=hid hg1
        have HST:=hid (HO.out.store ((cutAt c (s.data.toList.take k)).length-1) ((cutAt c (s.data.toList.take k)).getD ((cutAt c (s.data.toList.take k)).length-1) []++[s[k]]))
        have hcell:=HO.out.cell (j:=(cutAt c (s.data.toList.take k)).length-1) (x:=(cutAt c (s.data.toList.take k)).getD ((cutAt c (s.data.toList.take k)).length-1) []) (by rw [List.getD_eq_getElem?_getD,List.getElem?_eq_getElem (by omega)];rfl)
        have hfr:=HO.out.frozen ((cutAt c (s.data.toList.take k)).length-1)
        have HSN:=hid (cutAt_snoc_ne c s[k] hx (s.data.toList.take k))
        rw [← take_snoc s k hlt] at HSN
        unfold lastMore at HSN
        have HYL:Hid (((cutAt c (s.data.toList.take k)).getD ((cutAt c (s.data.toList.take k)).length-1) []).length≤k):=hid (cutAt_part_le c _ k (List.length_take_le k _) _)
        generalize hT:cutAt c (s.data.toList.take k)=T at *
        have HT:=hid hT
        obtain ⟨m,hm⟩:∃ m,m=T.length-1:=⟨_,rfl⟩
        obtain ⟨y,hy⟩:∃ y,y=T.getD (T.length-1) []:=⟨_,rfl⟩
        rw [← hm] at HST hcell hfr HSN hy HYL
        rw [← hy] at HST hcell HSN HYL
        have ew:IntKind.i64.wrap ((T.length:Int)-1)=(m:Int):=by rw [IntKind.wrap_i64];omega
        have e1:(m:Int)<(T.length:Int):=by omega
        have ek:IntKind.i64.wrap ((k:Int)+1)=((k+1:Nat):Int):=by rw [IntKind.wrap_i64];omega
        have HSX:=hid (txt_snoc y s k hlt)
        have hsz:(s.extract k (k+1)).size=1:=by rw [ByteArray.size_extract];omega
        have hle:(y.length:Int)+1≤9223372036854775807:=by have:=HYL.out;omega
        have hle2:¬ (9223372036854775807<y.length+1):=by have:=HYL.out;omega
        have hle3:y.length+1≤9223372036854775807:=by have:=HYL.out;omega
        clear hx hT hy hm hg1 HO hn0 HT
        clear HYL
        go_wp2_with (fail)
        go_region
        all_goals
          go_wp2_with (fail)
          refine ⟨⟨k+1,by omega,by go_num,?_,?_⟩,by simp [intOf];omega⟩
          · rw [HSN.out,HSX.out]
            exact HST.out.below (Below.refl _ _).drew
          · exact (HB.out.setCell (p:=⟨g,m,none⟩) HG1.out _).drew
    · obtain rfl:k=s.size:=by omega
      have hO:=HO.out
      rw [List.take_of_length_le (by simp)] at hO
      obtain ⟨A2,c2,rfl,hS,_⟩:=hO.ss
      have HS:=hid hS
      clear hS hO HO
      go_wp2_with (fail)
      go_ret
      exact ⟨A2,c2,rfl,HS.out,HB.out⟩
end
end Go.Proofs.YtodjilljcjkacaaGreatDoor
