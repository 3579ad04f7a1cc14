/- Laid together: Msh1, Msh2, Msh3. -/
import Derived.Test.YtodjilljcjkacaaGreatDoorPkIB24
import Derived.Lib.LaidTab

namespace Go.Proofs.YtodjilljcjkacaaGreatDoor
open Lib (hid)
section
open Go.RowKit
structure Hd where
  d:Sgn
  a0:ByteArray
  a1:ByteArray
  a2:ByteArray
  a3:ByteArray
  a4:ByteArray
  a5:ByteArray
  a6:ByteArray
  a7:ByteArray
  a8:ByteArray
  a9:ByteArray
abbrev TH:TypeId:=111
abbrev Hd.cells (h:Hd):Array Value:=#[u8 h.d.a,u8 h.d.b,u8 h.d.c,u8 h.d.d,u8 h.d.e,.string h.a0,.string h.a1,.string h.a2,.string h.a3,.string h.a4,.string h.a5,.string h.a6,.string h.a7,.string h.a8,.string h.a9]
abbrev Hd.v (h:Hd):Value:=.agg #[u8 h.d.a,u8 h.d.b,u8 h.d.c,u8 h.d.d,u8 h.d.e,.string h.a0,.string h.a1,.string h.a2,.string h.a3,.string h.a4,.string h.a5,.string h.a6,.string h.a7,.string h.a8,.string h.a9]
def Hd.l (h:Hd):List ByteArray:=[h.a0,h.a1,h.a2,h.a3,h.a4,h.a5,h.a6,h.a7,h.a8,h.a9]
def Hd.zero:Hd:=⟨⟨0,0,0,0,0⟩,⟨#[]⟩,⟨#[]⟩,⟨#[]⟩,⟨#[]⟩,⟨#[]⟩,⟨#[]⟩,⟨#[]⟩,⟨#[]⟩,⟨#[]⟩,⟨#[]⟩⟩
def BoxH (h:Hd) (g:Nat) (w:World):Prop:=w.heap[g]?=some (.cells h.cells TH)
theorem BoxH.cells {h:Hd} {g:Nat} {w:World} (k:BoxH h g w):w.cell? ⟨g,0,none⟩=some (u8 h.d.a)∧w.cell? ⟨g,1,none⟩=some (u8 h.d.b)∧w.cell? ⟨g,2,none⟩=some (u8 h.d.c)∧w.cell? ⟨g,3,none⟩=some (u8 h.d.d)∧w.cell? ⟨g,4,none⟩=some (u8 h.d.e)∧w.cell? ⟨g,5,none⟩=some (.string h.a0)∧w.cell? ⟨g,6,none⟩=some (.string h.a1)∧w.cell? ⟨g,7,none⟩=some (.string h.a2)∧w.cell? ⟨g,8,none⟩=some (.string h.a3)∧w.cell? ⟨g,9,none⟩=some (.string h.a4)∧w.cell? ⟨g,10,none⟩=some (.string h.a5)∧w.cell? ⟨g,11,none⟩=some (.string h.a6)∧w.cell? ⟨g,12,none⟩=some (.string h.a7)∧w.cell? ⟨g,13,none⟩=some (.string h.a8)∧w.cell? ⟨g,14,none⟩=some (.string h.a9) :=
  ⟨cell_of_row w g 0 _ _ _ k,cell_of_row w g 1 _ _ _ k,cell_of_row w g 2 _ _ _ k,cell_of_row w g 3 _ _ _ k,cell_of_row w g 4 _ _ _ k,cell_of_row w g 5 _ _ _ k,cell_of_row w g 6 _ _ _ k,cell_of_row w g 7 _ _ _ k,cell_of_row w g 8 _ _ _ k,cell_of_row w g 9 _ _ _ k,cell_of_row w g 10 _ _ _ k,cell_of_row w g 11 _ _ _ k,cell_of_row w g 12 _ _ _ k,cell_of_row w g 13 _ _ _ k,cell_of_row w g 14 _ _ _ k⟩
theorem BoxH.below {h:Hd} {g:Nat} {w w':World} (k:BoxH h g w) (hb:Below w.heap.size w w'):BoxH h g w':=(hb.block g (Array.getElem?_eq_some_iff.1 k).1).trans k
theorem BoxH.keep {h:Hd} {g B:Nat} {w w':World} (k:BoxH h g w) (hb:Below B w w') (hg:g<B):BoxH h g w':=(hb.block g hg).trans k
theorem BoxH.new (h:Hd) (w:World):BoxH h w.heap.size (w.alloc (.cells h.cells TH)):=heap_alloc_new w _
theorem BoxH.drew {h:Hd} {g:Nat} {w:World} (k:BoxH h g w):BoxH h g w.drew:=k
theorem boxHd_below (h:Hd) (w:World):Below w.heap.size w (w.alloc (.cells h.cells TH)):=(Below.refl _ w).alloc (Nat.le_refl _) _
theorem heap_set_rowH {w:World} {g j:Nat} {C:Array Value} {t:TypeId} {fz:Nat × Nat} (h:w.heap[g]?=some (.cells C t fz)) (u:Value):(w.setCell ⟨g,j,none⟩ u).heap[g]?=some (.cells (C.setIfInBounds j u) t fz):=by
  simp [World.setCell,Array.getElem?_modify,h]
theorem BoxH.frozen {h:Hd} {g:Nat} {w:World} (k:BoxH h g w) (j:Nat):w.frozen? ⟨g,j,none⟩=false:=by
  unfold BoxH at k
  simp [World.frozen?,k]
def vB:Nat→ByteArray
  | 0=>⟨#[50,46,49]⟩
  | 1=>⟨#[50,46,50]⟩
  | 2=>⟨#[50,46,51]⟩
  | 3=>⟨#[50,46,51,46,49]⟩
  | 4=>⟨#[50,46,52]⟩
  | 5=>⟨#[50,46,53]⟩
  | 6=>⟨#[50,46,53,46,49]⟩
  | 7=>⟨#[50,46,54]⟩
  | 8=>⟨#[50,46,55]⟩
  | 9=>⟨#[50,46,56]⟩
  | _=>⟨#[]⟩
def versL:List ByteArray:=[vB 0,vB 1,vB 2,vB 3,vB 4,vB 5,vB 6,vB 7,vB 8,vB 9]
abbrev versV:Array Value:=#[.string (vB 0),.string (vB 1),.string (vB 2),.string (vB 3),.string (vB 4),.string (vB 5),.string (vB 6),.string (vB 7),.string (vB 8),.string (vB 9)]
def Vers (w:World):Prop:=w.cell? ⟨3,0,none⟩=some (.string (vB 0))∧w.cell? ⟨3,1,none⟩=some (.string (vB 1))∧w.cell? ⟨3,2,none⟩=some (.string (vB 2))∧w.cell? ⟨3,3,none⟩=some (.string (vB 3))∧w.cell? ⟨3,4,none⟩=some (.string (vB 4))∧w.cell? ⟨3,5,none⟩=some (.string (vB 5))∧w.cell? ⟨3,6,none⟩=some (.string (vB 6))∧w.cell? ⟨3,7,none⟩=some (.string (vB 7))∧w.cell? ⟨3,8,none⟩=some (.string (vB 8))∧w.cell? ⟨3,9,none⟩=some (.string (vB 9))
theorem Vers.below {w w':World} (h:Vers w) (hb:Below w.heap.size w w'):Vers w':=by
  obtain ⟨h0,h1,h2,h3,h4,h5,h6,h7,h8,h9⟩:=h
  have hl:=World.block_lt_of_cell? w _ h0
  exact ⟨(hb.cell (p:=⟨3,0,none⟩) hl).trans h0,(hb.cell (p:=⟨3,1,none⟩) hl).trans h1,(hb.cell (p:=⟨3,2,none⟩) hl).trans h2,(hb.cell (p:=⟨3,3,none⟩) hl).trans h3,(hb.cell (p:=⟨3,4,none⟩) hl).trans h4,(hb.cell (p:=⟨3,5,none⟩) hl).trans h5,(hb.cell (p:=⟨3,6,none⟩) hl).trans h6,(hb.cell (p:=⟨3,7,none⟩) hl).trans h7,(hb.cell (p:=⟨3,8,none⟩) hl).trans h8,(hb.cell (p:=⟨3,9,none⟩) hl).trans h9⟩
def knownD (s:ByteArray):Bool:=versL.any fun v=>decide (v=s)
set_option maxHeartbeats 4000000 in
set_option maxRecDepth 100000 in
theorem knownVersion_ (s:ByteArray) (w:World) (hv:Vers w):Calls Tryz.prog 157 #[.string s] w fun e w'=>e=.returned (.bool (knownD s))∧w'=w:=by
  obtain ⟨v0,v1,v2,v3,v4,v5,v6,v7,v8,v9⟩:=hv
  go_enter Tryz.func157,Tryz.ntmps157
  go_wp2_with (fail)
  clear v0 v1 v2 v3 v4 v5 v6 v7 v8 v9
  go_loop [6,4] (fun i _=>∃ k:Nat,k≤10∧i=.int .i64 k∧∀ j,j<k→vB j≠s) (fun i _=>10-(intOf i).toNat)
  case atStart=>exact ⟨0,by omega,rfl,fun j h=>absurd h (by omega)⟩
  case round =>
    obtain ⟨k,hk,rfl,hn⟩:=hrel
    have HN:=hid hn
    clear hn
    by_cases hlt:k<10
    · match k,hlt with
      | 0,_ =>
        rw [show ((0:Nat):Int)=0 from rfl]
        have i0:∀ W,(Instr.index 230 (.agg versV) (.int .i64 0)).run Tryz.prog W=.ok (.string (vB 0)) W:=fun _=>by kernel_rfl
        clear hlt hk
        by_cases he:vB 0=s
        · have d:=strEq_t he
          have HE:Hid (knownD s=true):=hid (by unfold knownD versL;simp [he])
          clear he
          go_wp2_with (fail)
          go_ret
          rw [HE.out];exact ⟨rfl,rfl⟩
        · have d:=strEq_f he
          have HM:Hid (∀ j,j<1→vB j≠s):=hid (fun j hj=>by
            rcases Nat.lt_or_ge j 0 with h|h
            · exact HN.out j h
            · have:j=0:=by omega
              rw [this];exact he)
          clear he
          go_wp2_with (fail)
          exact ⟨⟨1,by omega,rfl,HM.out⟩,by simp [intOf]⟩
      | 1,_ =>
        rw [show ((1:Nat):Int)=1 from rfl]
        have i0:∀ W,(Instr.index 230 (.agg versV) (.int .i64 1)).run Tryz.prog W=.ok (.string (vB 1)) W:=fun _=>by kernel_rfl
        clear hlt hk
        by_cases he:vB 1=s
        · have d:=strEq_t he
          have HE:Hid (knownD s=true):=hid (by unfold knownD versL;simp [he])
          clear he
          go_wp2_with (fail)
          go_ret
          rw [HE.out];exact ⟨rfl,rfl⟩
        · have d:=strEq_f he
          have HM:Hid (∀ j,j<2→vB j≠s):=hid (fun j hj=>by
            rcases Nat.lt_or_ge j 1 with h|h
            · exact HN.out j h
            · have:j=1:=by omega
              rw [this];exact he)
          clear he
          go_wp2_with (fail)
          exact ⟨⟨2,by omega,rfl,HM.out⟩,by simp [intOf]⟩
      | 2,_ =>
        rw [show ((2:Nat):Int)=2 from rfl]
        have i0:∀ W,(Instr.index 230 (.agg versV) (.int .i64 2)).run Tryz.prog W=.ok (.string (vB 2)) W:=fun _=>by kernel_rfl
        clear hlt hk
        by_cases he:vB 2=s
        · have d:=strEq_t he
          have HE:Hid (knownD s=true):=hid (by unfold knownD versL;simp [he])
          clear he
          go_wp2_with (fail)
          go_ret
          rw [HE.out];exact ⟨rfl,rfl⟩
        · have d:=strEq_f he
          have HM:Hid (∀ j,j<3→vB j≠s):=hid (fun j hj=>by
            rcases Nat.lt_or_ge j 2 with h|h
            · exact HN.out j h
            · have:j=2:=by omega
              rw [this];exact he)
          clear he
          go_wp2_with (fail)
          exact ⟨⟨3,by omega,rfl,HM.out⟩,by simp [intOf]⟩
      | 3,_ =>
        rw [show ((3:Nat):Int)=3 from rfl]
        have i0:∀ W,(Instr.index 230 (.agg versV) (.int .i64 3)).run Tryz.prog W=.ok (.string (vB 3)) W:=fun _=>by kernel_rfl
        clear hlt hk
        by_cases he:vB 3=s
        · have d:=strEq_t he
          have HE:Hid (knownD s=true):=hid (by unfold knownD versL;simp [he])
          clear he
          go_wp2_with (fail)
          go_ret
          rw [HE.out];exact ⟨rfl,rfl⟩
        · have d:=strEq_f he
          have HM:Hid (∀ j,j<4→vB j≠s):=hid (fun j hj=>by
            rcases Nat.lt_or_ge j 3 with h|h
            · exact HN.out j h
            · have:j=3:=by omega
              rw [this];exact he)
          clear he
          go_wp2_with (fail)
          exact ⟨⟨4,by omega,rfl,HM.out⟩,by simp [intOf]⟩
      | 4,_ =>
        rw [show ((4:Nat):Int)=4 from rfl]
        have i0:∀ W,(Instr.index 230 (.agg versV) (.int .i64 4)).run Tryz.prog W=.ok (.string (vB 4)) W:=fun _=>by kernel_rfl
        clear hlt hk
        by_cases he:vB 4=s
        · have d:=strEq_t he
          have HE:Hid (knownD s=true):=hid (by unfold knownD versL;simp [he])
          clear he
          go_wp2_with (fail)
          go_ret
          rw [HE.out];exact ⟨rfl,rfl⟩
        · have d:=strEq_f he
          have HM:Hid (∀ j,j<5→vB j≠s):=hid (fun j hj=>by
            rcases Nat.lt_or_ge j 4 with h|h
            · exact HN.out j h
            · have:j=4:=by omega
              rw [this];exact he)
          clear he
          go_wp2_with (fail)
          exact ⟨⟨5,by omega,rfl,HM.out⟩,by simp [intOf]⟩
      | 5,_ =>
        rw [show ((5:Nat):Int)=5 from rfl]
        have i0:∀ W,(Instr.index 230 (.agg versV) (.int .i64 5)).run Tryz.prog W=.ok (.string (vB 5)) W:=fun _=>by kernel_rfl
        clear hlt hk
        by_cases he:vB 5=s
        · have d:=strEq_t he
          have HE:Hid (knownD s=true):=hid (by unfold knownD versL;simp [he])
          clear he
          go_wp2_with (fail)
          go_ret
          rw [HE.out];exact ⟨rfl,rfl⟩
        · have d:=strEq_f he
          have HM:Hid (∀ j,j<6→vB j≠s):=hid (fun j hj=>by
            rcases Nat.lt_or_ge j 5 with h|h
            · exact HN.out j h
            · have:j=5:=by omega
              rw [this];exact he)
          clear he
          go_wp2_with (fail)
          exact ⟨⟨6,by omega,rfl,HM.out⟩,by simp [intOf]⟩
      | 6,_ =>
        rw [show ((6:Nat):Int)=6 from rfl]
        have i0:∀ W,(Instr.index 230 (.agg versV) (.int .i64 6)).run Tryz.prog W=.ok (.string (vB 6)) W:=fun _=>by kernel_rfl
        clear hlt hk
        by_cases he:vB 6=s
        · have d:=strEq_t he
          have HE:Hid (knownD s=true):=hid (by unfold knownD versL;simp [he])
          clear he
          go_wp2_with (fail)
          go_ret
          rw [HE.out];exact ⟨rfl,rfl⟩
        · have d:=strEq_f he
          have HM:Hid (∀ j,j<7→vB j≠s):=hid (fun j hj=>by
            rcases Nat.lt_or_ge j 6 with h|h
            · exact HN.out j h
            · have:j=6:=by omega
              rw [this];exact he)
          clear he
          go_wp2_with (fail)
          exact ⟨⟨7,by omega,rfl,HM.out⟩,by simp [intOf]⟩
      | 7,_ =>
        rw [show ((7:Nat):Int)=7 from rfl]
        have i0:∀ W,(Instr.index 230 (.agg versV) (.int .i64 7)).run Tryz.prog W=.ok (.string (vB 7)) W:=fun _=>by kernel_rfl
        clear hlt hk
        by_cases he:vB 7=s
        · have d:=strEq_t he
          have HE:Hid (knownD s=true):=hid (by unfold knownD versL;simp [he])
          clear he
          go_wp2_with (fail)
          go_ret
          rw [HE.out];exact ⟨rfl,rfl⟩
        · have d:=strEq_f he
          have HM:Hid (∀ j,j<8→vB j≠s):=hid (fun j hj=>by
            rcases Nat.lt_or_ge j 7 with h|h
            · exact HN.out j h
            · have:j=7:=by omega
              rw [this];exact he)
          clear he
          go_wp2_with (fail)
          exact ⟨⟨8,by omega,rfl,HM.out⟩,by simp [intOf]⟩
      | 8,_ =>
        rw [show ((8:Nat):Int)=8 from rfl]
        have i0:∀ W,(Instr.index 230 (.agg versV) (.int .i64 8)).run Tryz.prog W=.ok (.string (vB 8)) W:=fun _=>by kernel_rfl
        clear hlt hk
        by_cases he:vB 8=s
        · have d:=strEq_t he
          have HE:Hid (knownD s=true):=hid (by unfold knownD versL;simp [he])
          clear he
          go_wp2_with (fail)
          go_ret
          rw [HE.out];exact ⟨rfl,rfl⟩
        · have d:=strEq_f he
          have HM:Hid (∀ j,j<9→vB j≠s):=hid (fun j hj=>by
            rcases Nat.lt_or_ge j 8 with h|h
            · exact HN.out j h
            · have:j=8:=by omega
              rw [this];exact he)
          clear he
          go_wp2_with (fail)
          exact ⟨⟨9,by omega,rfl,HM.out⟩,by simp [intOf]⟩
      | 9,_ =>
        rw [show ((9:Nat):Int)=9 from rfl]
        have i0:∀ W,(Instr.index 230 (.agg versV) (.int .i64 9)).run Tryz.prog W=.ok (.string (vB 9)) W:=fun _=>by kernel_rfl
        clear hlt hk
        by_cases he:vB 9=s
        · have d:=strEq_t he
          have HE:Hid (knownD s=true):=hid (by unfold knownD versL;simp [he])
          clear he
          go_wp2_with (fail)
          go_ret
          rw [HE.out];exact ⟨rfl,rfl⟩
        · have d:=strEq_f he
          have HM:Hid (∀ j,j<10→vB j≠s):=hid (fun j hj=>by
            rcases Nat.lt_or_ge j 9 with h|h
            · exact HN.out j h
            · have:j=9:=by omega
              rw [this];exact he)
          clear he
          go_wp2_with (fail)
          exact ⟨⟨10,by omega,rfl,HM.out⟩,by simp [intOf]⟩
    · obtain rfl:k=10:=by omega
      have HE:Hid (knownD s=false):=hid (by
        have h:=HN.out
        unfold knownD versL
        simp only [List.any_cons,List.any_nil,Bool.or_false,Bool.or_eq_false_iff,decide_eq_false_iff_not]
        exact ⟨h 0 (by omega),h 1 (by omega),h 2 (by omega),h 3 (by omega),h 4 (by omega),h 5 (by omega),h 6 (by omega),h 7 (by omega),h 8 (by omega),h 9 (by omega)⟩)
      clear hlt hk
      go_wp2_with (fail)
      go_ret
      rw [HE.out];exact ⟨rfl,rfl⟩
theorem knownProcess_ (s:ByteArray) (w:World):Calls Tryz.prog 159 #[.string s] w fun e w'=>e=.returned (.bool (s.toList == [80] || s.toList == [68] || s.toList == [84]))∧w'=w:=by
  cases d1:(s.toList == [80]) <;> cases d2:(s.toList == [68]) <;> cases d3:(s.toList == [84]) <;>
  · go_enter Tryz.func159,Tryz.ntmps159
    go_wp2_with (fail)
    go_ret
    exact ⟨rfl,rfl⟩
def firstD (f:ByteArray) (d:Sgn):List UInt8:=(cutAt d.b ((cutAt d.c f.data.toList).headD [])).headD []
theorem parts_first (f:ByteArray) (d:Sgn):nthD (partsD f d 1) 1=some (firstD f d):=by
  obtain ⟨x,r,hx⟩:∃ x r,cutAt d.c f.data.toList=x :: r:=by
    cases h:cutAt d.c f.data.toList with
    | nil=>exact absurd h (cutAt_ne _ _)
    | cons a b=>exact ⟨a,b,rfl⟩
  obtain ⟨y,q,hy⟩:∃ y q,cutAt d.b x=y :: q:=by
    cases h:cutAt d.b x with
    | nil=>exact absurd h (cutAt_ne _ _)
    | cons a b=>exact ⟨a,b,rfl⟩
  have h1:nthD (cutAt d.c f.data.toList) 1=some x:=by rw [hx];rfl
  unfold partsD firstD
  rw [h1,hx]
  show nthD (cutAt d.b x) 1=some ((cutAt d.b x).headD [])
  rw [hy];rfl
theorem parts_first0 (f:ByteArray) (d:Sgn):(partsD f d 1).getD 0 []=firstD f d∧0<(partsD f d 1).length:=by
  have h:=parts_first f d
  unfold nthD at h
  rw [if_pos (by omega),show ((1:Int)-1).toNat=0 from rfl] at h
  exact ⟨by rw [List.getD_eq_getElem?_getD,h];rfl,(List.getElem?_eq_some_iff.1 h).1⟩
set_option maxHeartbeats 1000000 in
theorem asked_ (f:ByteArray) (d:Sgn) (w:World) (hs:f.size≤9223372036854775806):Calls Tryz.prog 158 #[.string f,d.v] w fun e w'=>e=.returned (str (firstD f d))∧Below w.heap.size w w':=by
  have HB0:=hid (boxSgn_below d w)
  have HX0:Hid (BoxS d w.heap.size (boxSgn d w)):=hid (heap_alloc_new w _)
  have HP:=hid (parts_first f d)
  go_enter Tryz.func158,Tryz.ntmps158
  go_wp2_with (fail)
  refine (part_ f 1 1 d _ hs).mono ?_
  rintro e w2 ⟨rfl,hb2⟩
  rw [HP.out]
  have HB2:=hid (HB0.out.trans (hb2.mono HB0.out.size))
  clear hb2
  go_wp2_with (fail)
  go_ret
  exact ⟨rfl,HB2.out⟩
set_option maxHeartbeats 1000000 in
theorem first_ (f:ByteArray) (d:Sgn) (w:World) (hs:f.size≤1000000000):Calls Tryz.prog 122 #[.string f,d.v] w fun e w'=>e=.returned (str (firstD f d))∧Below w.heap.size w w':=by
  have HB0:=hid (boxSgn_below d w)
  have HP:=hid (parts_first0 f d)
  go_enter Tryz.func122,Tryz.ntmps122
  go_wp2_with (fail)
  refine (refParts f 1 d _ hs (by omega)).mono ?_
  rintro e w2 ⟨A,c,rfl,hS,hb2⟩
  obtain ⟨b,o,rfl,_,hc⟩:=hS.read HP.out.2
  rw [HP.out.1,Nat.add_zero] at hc
  have h0:(0:Int)<((partsD f d 1).length:Int):=by have:=HP.out.2;omega
  have HB2:=hid (HB0.out.trans (hb2.mono HB0.out.size))
  clear hb2 hS
  go_wp2_with (fail)
  go_ret
  exact ⟨rfl,HB2.out⟩
set_option maxHeartbeats 1000000 in
set_option maxRecDepth 100000 in
theorem otherSigns_ (d:Sgn) (w:World):Calls Tryz.prog 103 #[d.v] w fun e w'=>e=.returned (str [d.b,d.c,d.d,d.e])∧Below w.heap.size w w':=by
  have HX0:Hid (BoxS d w.heap.size (boxSgn d w)):=hid (heap_alloc_new w _)
  have HB0:=hid (boxSgn_below d w)
  obtain ⟨c0,c1,c2,c3,c4⟩:=HX0.out.cells
  go_enter Tryz.func103,Tryz.ntmps103
  have hcv:(convert 40 9 (.slice (some ⟨w.heap.size+1,0,none⟩) 4 4)).run Tryz.prog ((w.alloc (.cells #[.int .u8 (d.a.toNat:Int),.int .u8 (d.b.toNat:Int),.int .u8 (d.c.toNat:Int),.int .u8 (d.d.toNat:Int),.int .u8 (d.e.toNat:Int)] 109)).alloc (.cells #[u8 d.b,u8 d.c,u8 d.d,u8 d.e] 5))=.ok (str [d.b,d.c,d.d,d.e]) ((w.alloc (.cells #[.int .u8 (d.a.toNat:Int),.int .u8 (d.b.toNat:Int),.int .u8 (d.c.toNat:Int),.int .u8 (d.d.toNat:Int),.int .u8 (d.e.toNat:Int)] 109)).alloc (.cells #[u8 d.b,u8 d.c,u8 d.d,u8 d.e] 5)):=(Bs.lit (boxSgn d w) [d.b,d.c,d.d,d.e] 5 #[u8 d.b,u8 d.c,u8 d.d,u8 d.e] (w.heap.size+1) (boxSgn_size d w).symm rfl rfl (by simp [maxLen])).str (P:=Tryz.prog) 40 5 9 Tryz.underlying40 Tryz.underlying5 Tryz.underlying9
  have HB1:Hid (Below w.heap.size w ((boxSgn d w).alloc (.cells #[u8 d.b,u8 d.c,u8 d.d,u8 d.e] 5))):=hid (HB0.out.alloc HB0.out.size _)
  go_wp2_with (fail)
  go_ret
  exact ⟨rfl,HB1.out⟩
end
section
open Go.RowKit
def procD (s:ByteArray):Bool:=s.toList == [80] || s.toList == [68] || s.toList == [84]
def checkD (h:Hd):Int:=if h.a6.toList.isEmpty || h.a7.toList.isEmpty || decide (50<h.a7.size) then 14 else if !knownD (txt (firstD h.a9 h.d)) then 12 else if !procD (txt (firstD h.a8 h.d)) then 13 else 0
set_option maxHeartbeats 4000000 in
set_option maxRecDepth 100000 in
theorem check_ (h:Hd) (w:World) (hv:Vers w) (h8:h.a8.size≤1000000000) (h9:h.a9.size≤1000000000):Calls Tryz.prog 113 #[h.v] w fun e w'=>e=.returned (.int .i64 (checkD h))∧Below w.heap.size w w':=by
  have HX0:=hid (BoxH.new h w)
  have HB0:=hid (boxHd_below h w)
  have HV0:=hid (hv.below (boxHd_below h w))
  have H8:=hid h8
  have H9:=hid h9
  have HC:Hid (checkD h=if h.a6.toList.isEmpty || h.a7.toList.isEmpty || decide (50<h.a7.size) then 14 else if !knownD (txt (firstD h.a9 h.d)) then 12 else if !procD (txt (firstD h.a8 h.d)) then 13 else 0):=hid rfl
  clear hv h8 h9
  go_enter Tryz.func113,Tryz.ntmps113
  obtain ⟨c0,c1,c2,c3,c4,c5,c6,c7,c8,c9,c10,c11,c12,c13,c14⟩:=HX0.out.cells
  cases d6:h.a6.toList.isEmpty
  · cases d7:h.a7.toList.isEmpty
    · by_cases h50:50<h.a7.size
      · have d50:decide ((50:Int)<(h.a7.size:Int))=true:=by simp;omega
        have d51:decide (50<h.a7.size)=true:=by simpa using h50
        have HE:Hid (checkD h=14):=hid (by rw [HC.out,d6,d7,d51];rfl)
        go_wp2_with (fail)
        go_ret
        rw [HE.out];exact ⟨rfl,HB0.out⟩
      · have d50:decide ((50:Int)<(h.a7.size:Int))=false:=by simp;omega
        have d51:decide (50<h.a7.size)=false:=by simpa using h50
        have HE:Hid (checkD h=if !knownD (txt (firstD h.a9 h.d)) then 12 else if !procD (txt (firstD h.a8 h.d)) then 13 else 0):=hid (by rw [HC.out,d6,d7,d51];rfl)
        go_wp2_with (fail)
        generalize (w.alloc (.cells #[u8 h.d.a,u8 h.d.b,u8 h.d.c,u8 h.d.d,u8 h.d.e,.string h.a0,.string h.a1,.string h.a2,.string h.a3,.string h.a4,.string h.a5,.string h.a6,.string h.a7,.string h.a8,.string h.a9] TH))=w0 at *
        refine (asked_ h.a9 h.d w0 (by have:=H9.out;omega)).mono ?_
        rintro e w1 ⟨rfl,hb1⟩
        have HB1:=hid (HB0.out.trans (hb1.mono HB0.out.size))
        have HX1:=hid (HX0.out.below hb1)
        have HV1:=hid (HV0.out.below hb1)
        clear hb1 HX0 HB0 HV0 c0 c1 c2 c3 c4 c5 c6 c7 c8 c9 c10 c11 c12 c13 c14
        go_wp2_with (fail)
        refine (knownVersion_ (txt (firstD h.a9 h.d)) w1 HV1.out).mono ?_
        rintro e w2 ⟨rfl,rfl⟩
        obtain ⟨c0,c1,c2,c3,c4,c5,c6,c7,c8,c9,c10,c11,c12,c13,c14⟩:=HX1.out.cells
        cases dk:knownD (txt (firstD h.a9 h.d))
        · have HE2:Hid (checkD h=12):=hid (by rw [HE.out,dk];rfl)
          go_wp2_with (fail)
          go_ret
          rw [HE2.out];exact ⟨rfl,HB1.out⟩
        · have HE2:Hid (checkD h=if !procD (txt (firstD h.a8 h.d)) then 13 else 0):=hid (by rw [HE.out,dk];rfl)
          go_wp2_with (fail)
          refine (asked_ h.a8 h.d _ (by have:=H8.out;omega)).mono ?_
          rintro e w3 ⟨rfl,hb3⟩
          have HB3:=hid (HB1.out.trans (hb3.mono HB1.out.size))
          clear hb3 c0 c1 c2 c3 c4 c5 c6 c7 c8 c9 c10 c11 c12 c13 c14
          go_wp2_with (fail)
          refine (knownProcess_ (txt (firstD h.a8 h.d)) _).mono ?_
          rintro e w4 ⟨rfl,rfl⟩
          have HPD:Hid (procD (txt (firstD h.a8 h.d))=((txt (firstD h.a8 h.d)).toList == [80] || (txt (firstD h.a8 h.d)).toList == [68] || (txt (firstD h.a8 h.d)).toList == [84])):=hid rfl
          rw [← HPD.out]
          clear HPD
          cases dp:procD (txt (firstD h.a8 h.d))
          · have HE3:Hid (checkD h=13):=hid (by rw [HE2.out,dp];rfl)
            go_wp2_with (fail)
            go_ret
            rw [HE3.out];exact ⟨rfl,HB3.out⟩
          · have HE3:Hid (checkD h=0):=hid (by rw [HE2.out,dp];rfl)
            go_wp2_with (fail)
            go_ret
            rw [HE3.out];exact ⟨rfl,HB3.out⟩
    · have HE:Hid (checkD h=14):=hid (by rw [HC.out,d6,d7];rfl)
      go_wp2_with (fail)
      go_ret
      rw [HE.out];exact ⟨rfl,HB0.out⟩
  · have HE:Hid (checkD h=14):=hid (by rw [HC.out,d6];rfl)
    go_wp2_with (fail)
    go_ret
    rw [HE.out];exact ⟨rfl,HB0.out⟩
end
section
open Go.RowKit
theorem row1_ (g:Nat) (w:World):Calls Tryz.prog 141 #[.pointer (some ⟨g,0,none⟩)] w fun e w'=>e=.returned (.pointer (some ⟨g,5,none⟩))∧w'=w:=by
  go_enter Tryz.func141,Tryz.ntmps141
  go_wp2_with (fail)
  go_ret
  exact ⟨rfl,rfl⟩
theorem row2_ (g:Nat) (w:World):Calls Tryz.prog 142 #[.pointer (some ⟨g,0,none⟩)] w fun e w'=>e=.returned (.pointer (some ⟨g,6,none⟩))∧w'=w:=by
  go_enter Tryz.func142,Tryz.ntmps142
  go_wp2_with (fail)
  go_ret
  exact ⟨rfl,rfl⟩
theorem row3_ (g:Nat) (w:World):Calls Tryz.prog 143 #[.pointer (some ⟨g,0,none⟩)] w fun e w'=>e=.returned (.pointer (some ⟨g,7,none⟩))∧w'=w:=by
  go_enter Tryz.func143,Tryz.ntmps143
  go_wp2_with (fail)
  go_ret
  exact ⟨rfl,rfl⟩
theorem row4_ (g:Nat) (w:World):Calls Tryz.prog 144 #[.pointer (some ⟨g,0,none⟩)] w fun e w'=>e=.returned (.pointer (some ⟨g,8,none⟩))∧w'=w:=by
  go_enter Tryz.func144,Tryz.ntmps144
  go_wp2_with (fail)
  go_ret
  exact ⟨rfl,rfl⟩
theorem row5_ (g:Nat) (w:World):Calls Tryz.prog 145 #[.pointer (some ⟨g,0,none⟩)] w fun e w'=>e=.returned (.pointer (some ⟨g,9,none⟩))∧w'=w:=by
  go_enter Tryz.func145,Tryz.ntmps145
  go_wp2_with (fail)
  go_ret
  exact ⟨rfl,rfl⟩
theorem row6_ (g:Nat) (w:World):Calls Tryz.prog 146 #[.pointer (some ⟨g,0,none⟩)] w fun e w'=>e=.returned (.pointer (some ⟨g,10,none⟩))∧w'=w:=by
  go_enter Tryz.func146,Tryz.ntmps146
  go_wp2_with (fail)
  go_ret
  exact ⟨rfl,rfl⟩
theorem row7_ (g:Nat) (w:World):Calls Tryz.prog 147 #[.pointer (some ⟨g,0,none⟩)] w fun e w'=>e=.returned (.pointer (some ⟨g,11,none⟩))∧w'=w:=by
  go_enter Tryz.func147,Tryz.ntmps147
  go_wp2_with (fail)
  go_ret
  exact ⟨rfl,rfl⟩
theorem row8_ (g:Nat) (w:World):Calls Tryz.prog 148 #[.pointer (some ⟨g,0,none⟩)] w fun e w'=>e=.returned (.pointer (some ⟨g,12,none⟩))∧w'=w:=by
  go_enter Tryz.func148,Tryz.ntmps148
  go_wp2_with (fail)
  go_ret
  exact ⟨rfl,rfl⟩
theorem row9_ (g:Nat) (w:World):Calls Tryz.prog 149 #[.pointer (some ⟨g,0,none⟩)] w fun e w'=>e=.returned (.pointer (some ⟨g,13,none⟩))∧w'=w:=by
  go_enter Tryz.func149,Tryz.ntmps149
  go_wp2_with (fail)
  go_ret
  exact ⟨rfl,rfl⟩
theorem row10_ (g:Nat) (w:World):Calls Tryz.prog 150 #[.pointer (some ⟨g,0,none⟩)] w fun e w'=>e=.returned (.pointer (some ⟨g,14,none⟩))∧w'=w:=by
  go_enter Tryz.func150,Tryz.ntmps150
  go_wp2_with (fail)
  go_ret
  exact ⟨rfl,rfl⟩
abbrev rowsV:Array Value:=#[.func (.func 141) #[] #[],.func (.func 142) #[] #[],.func (.func 143) #[] #[],.func (.func 144) #[] #[],.func (.func 145) #[] #[],.func (.func 146) #[] #[],.func (.func 147) #[] #[],.func (.func 148) #[] #[],.func (.func 149) #[] #[],.func (.func 150) #[] #[]]
set_option maxHeartbeats 1000000 in
set_option maxRecDepth 100000 in
theorem rows_ (w:World):Calls Tryz.prog 104 #[] w fun e w'=>e=.returned (.agg rowsV)∧Below w.heap.size w w':=by
  go_enter Tryz.func104,Tryz.ntmps104
  go_wp2_with (fail)
  refine bodyPost_ret (v:=.agg rowsV) ?_ rfl ⟨rfl,(Below.refl _ w).alloc (Nat.le_refl _) _⟩
  simp [results,Tryz.results104,go_sem]
end
end Go.Proofs.YtodjilljcjkacaaGreatDoor
