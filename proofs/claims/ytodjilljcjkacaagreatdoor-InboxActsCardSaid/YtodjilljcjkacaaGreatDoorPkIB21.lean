/- Laid together: Delim2, Delim3, Delim3b. -/
import Derived.Test.YtodjilljcjkacaaGreatDoorPkIB20
import Derived.Lib.BufferMore

namespace Go.Proofs.YtodjilljcjkacaaGreatDoor
open Lib (hid)
section
open Go.RowKit
def goodTo (l:List UInt8):Nat→Bool
  | 0=>true
  | j+1=>goodTo l j && isSign (l.getD j 0).toNat && !((l.take j).contains (l.getD j 0))
theorem indexByte_has (l:List UInt8) (c:UInt8):decide (0≤Lib.indexByte l c)=l.contains c:=by
  induction l with
  | nil=>rfl
  | cons b l ih =>
    have hg:=Lib.indexByte_ge l c
    unfold Lib.indexByte
    by_cases h:b=c
    · simp [h]
    · have h1:(b == c)=false:=by simpa using h
      have h2:(c == b)=false:=by simpa using fun e=>h e.symm
      simp only [h1,List.contains_cons,h2,Bool.false_or,Bool.false_eq_true,if_false]
      rw [← ih]
      by_cases hm:Lib.indexByte l c=-1
      · simp [hm]
      · have h3:(Lib.indexByte l c == -1)=false:=by simpa using hm
        simp only [h3,Bool.false_eq_true,if_false]
        congr 1
        apply propext
        omega
def Sgn.good (s:Sgn):Bool:=goodTo s.l 5
theorem int5 (s:Sgn) (j:Nat) (hj:j<5) (w:World):(Instr.index 226 s.v (.int .i64 (j:Int))).run Tryz.prog w=.ok (.int .u8 ((s.l.getD j 0).toNat:Int)) w:=by
  have h:j=0∨j=1∨j=2∨j=3∨j=4:=by omega
  rcases h with rfl|rfl|rfl|rfl|rfl <;> simp [Instr.index,asIntOf,run_underlying Tryz.underlying226,go_sem,Sgn.l]
theorem len5:Tryz.prog.arrayLen 226=5:=by kernel_rfl
theorem size5 (w:World):(sizeOf (Tryz.prog.elem 226)).run Tryz.prog w=.ok 1 w:=by
  rw [show Tryz.prog.elem 226=5 from by kernel_rfl]
  simp [go_sem]
theorem slice5 (G j:Nat) (hj:j≤5) (w:World):(Instr.sliceAt 226 (.pointer (some ⟨G,0,none⟩)) none (some (.int .i64 (j:Int))) none).run Tryz.prog w=.ok (.slice (some ⟨G,0,none⟩) j 5) w:=by
  rw [run_sliceAt_array_h w 226 ⟨G,0,none⟩ (by kernel_rfl) .i64 (j:Int) (by omega) (by rw [len5];omega),size5]
  simp [slicedAt,len5,Result.andThen,Addr.add]
theorem goodTo_le {l : List UInt8} {j k : Nat} (h : goodTo l k = true) (hjk : j ≤ k) : goodTo l j = true := by
  induction k with
  | zero => obtain rfl : j = 0 := by omega
            rfl
  | succ k ih =>
    by_cases e : j = k + 1
    · subst e; exact h
    · simp only [goodTo, Bool.and_eq_true] at h
      exact ih h.1.1 (by omega)
theorem goodTo_no {l:List UInt8} {j:Nat} (h:goodTo l (j+1)=false) (hj:j<5):goodTo l 5=false:=by
  cases h5:goodTo l 5
  · rfl
  · rw [goodTo_le h5 (show j+1≤5 by omega)] at h
    cases h
def Sgn.plain (s:Sgn):Bool:=(s.a.toNat:Int) == 124 && (s.b.toNat:Int) == 94 && (s.c.toNat:Int) == 126 && (s.d.toNat:Int) == 92 && (s.e.toNat:Int) == 38
theorem Sgn.plain_good {s:Sgn} (h:s.plain=true):s.good=true:=by
  obtain ⟨a,b,c,d,e⟩:=s
  simp only [Sgn.plain,Bool.and_eq_true,beq_iff_eq] at h
  obtain rfl:a=124:=UInt8.toNat_inj.1 (by show _=124;omega)
  obtain rfl:b=94:=UInt8.toNat_inj.1 (by show _=94;omega)
  obtain rfl:c=126:=UInt8.toNat_inj.1 (by show _=126;omega)
  obtain rfl:d=92:=UInt8.toNat_inj.1 (by show _=92;omega)
  obtain rfl:e=38:=UInt8.toNat_inj.1 (by show _=38;omega)
  decide
theorem delims_eq (s:Sgn) (w:World):(binOp .eql 109 s.v (dlm 124 94 126 92 38)).run Tryz.prog w=.ok (.bool s.plain) w:=by
  rw [run_eql_struct,run_equalIn_agg (ht:=by kernel_rfl) (hp:=by kernel_rfl)]
  simp [Op.eqFields,Program.fieldsOf,Tryz.underlying109,part,go_sem]
  by_cases h1:(s.a.toNat:Int)=124 <;> by_cases h2:(s.b.toNat:Int)=94 <;> by_cases h3:(s.c.toNat:Int)=126 <;> by_cases h4:(s.d.toNat:Int)=92 <;> by_cases h5:(s.e.toNat:Int)=38 <;> simp [Sgn.plain,h1,h2,h3,h4,h5]
set_option maxRecDepth 100000 in
theorem delimRight (s:Sgn) (w:World):Calls Tryz.prog 140 #[s.v] w fun x w'=>x=.returned (.bool s.good)∧Below w.heap.size w w':=by
  have heq:=fun w=>delims_eq s w
  have HGO:=hid (show s.good=goodTo s.l 5 from rfl)
  have HPG:=hid (@Sgn.plain_good s)
  go_enter Tryz.func140,Tryz.ntmps140
  go_wp2_with (fail)
  have hr:=heap_alloc_new w (.cells #[.int .u8 (s.a.toNat:Int),.int .u8 (s.b.toNat:Int),.int .u8 (s.c.toNat:Int),.int .u8 (s.d.toNat:Int),.int .u8 (s.e.toNat:Int)] 109)
  have B1:Hid (Below w.heap.size w (w.alloc (.cells #[.int .u8 (s.a.toNat:Int),.int .u8 (s.b.toNat:Int),.int .u8 (s.c.toNat:Int),.int .u8 (s.d.toNat:Int),.int .u8 (s.e.toNat:Int)] 109))):=hid ((Below.refl _ w).alloc (Nat.le_refl _) _)
  have hg:w.heap.size<(w.alloc (.cells #[.int .u8 (s.a.toNat:Int),.int .u8 (s.b.toNat:Int),.int .u8 (s.c.toNat:Int),.int .u8 (s.d.toNat:Int),.int .u8 (s.e.toNat:Int)] 109)).heap.size:=by simp
  obtain ⟨G,hG⟩:∃ G,G=w.heap.size:=⟨_,rfl⟩
  generalize w.alloc (.cells #[.int .u8 (s.a.toNat:Int),.int .u8 (s.b.toNat:Int),.int .u8 (s.c.toNat:Int),.int .u8 (s.d.toNat:Int),.int .u8 (s.e.toNat:Int)] 109)=W1 at *
  rw [← hG] at hr hg B1 ⊢
  have HBL:Hid (Below w.heap.size w W1):=hid (by rw [← hG];exact B1.out)
  clear hG B1
  have L:∀ (k:Nat) (x:Value),(#[Value.int .u8 (s.a.toNat:Int),.int .u8 (s.b.toNat:Int),.int .u8 (s.c.toNat:Int),.int .u8 (s.d.toNat:Int),.int .u8 (s.e.toNat:Int)]:Array Value)[k]?=some x→∀ n:Later W1,n.u.cell? ⟨G,k,none⟩=some x:=fun k x hx n=>by
    rw [cell_of_row _ _ _ _ _ _ (by rw [n.h.block _ hg];exact hr)];exact hx
  have L0:=L 0 _ rfl
  have L1:=L 1 _ rfl
  have L2:=L 2 _ rfl
  have L3:=L 3 _ rfl
  have L4:=L 4 _ rfl
  clear L hr hg
  cases hp:s.plain
  all_goals rw [hp] at heq HPG
  all_goals
    refine region_later (by kernel_rfl) (by kernel_rfl) ?_
    repeat (go_big_quiet_step ((first
      | (go_at_call 172;exact Calls.later (delimPlain _)))))
    refine wpQuiet_nil ?_
    intro nq
    have l0:=L0 nq
    have l1:=L1 nq
    have l2:=L2 nq
    have l3:=L3 nq
    have l4:=L4 nq
    clear L0 L1 L2 L3 L4 heq
    have HB1:Hid (Below w.heap.size w nq.u):=hid (HBL.out.trans (nq.h.mono HBL.out.size))
    clear HBL
    generalize nq.u=W2 at *
    clear nq
    go_wp2_with (fail)
  · clear l0 l1 l2 l3 l4
    refine (delimRow _ _ _ _ _ W2).mono ?_
    rintro e w3 ⟨rfl,hb3⟩
    have HB3:Hid (Below w.heap.size w w3):=hid (HB1.out.trans (hb3.mono HB1.out.size))
    clear HB1 hb3
    go_wp2_with (fail)
    have hr:=heap_alloc_new w3 (.cells #[.int .u8 (s.a.toNat:Int),.int .u8 (s.b.toNat:Int),.int .u8 (s.c.toNat:Int),.int .u8 (s.d.toNat:Int),.int .u8 (s.e.toNat:Int)] 226)
    have hg:w3.heap.size<(w3.alloc (.cells #[.int .u8 (s.a.toNat:Int),.int .u8 (s.b.toNat:Int),.int .u8 (s.c.toNat:Int),.int .u8 (s.d.toNat:Int),.int .u8 (s.e.toNat:Int)] 226)).heap.size:=by simp
    have HB4:Hid (Below w.heap.size w (w3.alloc (.cells #[.int .u8 (s.a.toNat:Int),.int .u8 (s.b.toNat:Int),.int .u8 (s.c.toNat:Int),.int .u8 (s.d.toNat:Int),.int .u8 (s.e.toNat:Int)] 226))):=hid (HB3.out.alloc HB3.out.size _)
    obtain ⟨G2,hG⟩:∃ G,G=w3.heap.size:=⟨_,rfl⟩
    clear HB3
    generalize w3.alloc (.cells #[.int .u8 (s.a.toNat:Int),.int .u8 (s.b.toNat:Int),.int .u8 (s.c.toNat:Int),.int .u8 (s.d.toNat:Int),.int .u8 (s.e.toNat:Int)] 226)=W4 at *
    rw [← hG] at hr hg ⊢
    clear hG
    have HBs:Hid (Bs W4 (some ⟨G2,0,none⟩) 5 5 s.l):=hid (Bs.block hr rfl (by simp [maxLen]))
    clear hr hg
    go_loop [12] (fun k=>∃ j:Nat,j≤5∧k=.int .i64 j∧goodTo s.l j=true) (fun k=>5-(intOf k).toNat)
    case atStart=>exact ⟨0,Nat.zero_le _,rfl,rfl⟩
    case round =>
      obtain ⟨j,hj,rfl,hgo⟩:=hrel
      have HGJ:=hid hgo
      clear hgo
      by_cases hlt:j<5
      · have hix:=int5 s j hlt
        have HTJ:=hid (indexByte_has (s.l.take j) (s.l.getD j 0))
        have HNX:=hid (show goodTo s.l (j+1)=(goodTo s.l j && isSign (s.l.getD j 0).toNat && !((s.l.take j).contains (s.l.getD j 0))) from rfl)
        have hcv:=(Bs.take HBs.out hj).str (P:=Tryz.prog) 40 5 9 Tryz.underlying40 Tryz.underlying5 Tryz.underlying9
        rw [HGJ.out] at HNX
        have hx:=(s.l.getD j 0).toNat_lt
        have HX:Hid (((s.l.getD j 0).toNat:Int).toNat.toUInt8=s.l.getD j 0):=hid (by simp)
        generalize s.l.getD j 0=x at *
        generalize (s.l.take j).contains x=h at *
        generalize s.l.take j=L at *
        go_wp2_with (fail)
        refine (delimSign x.toNat W4).mono ?_
        rintro e w5 ⟨rfl,rfl⟩
        generalize isSign x.toNat=i at *
        have hsl:=fun w=>slice5 G2 j hj w
        have HLT:=hid hlt
        cases i
        · go_wp2_with (fail)
          go_ret
          exact ⟨by rw [HGO.out,goodTo_no (j:=j) (by rw [HNX.out];rfl) HLT.out];rfl,HB4.out⟩
        · go_wp2_with (fail)
          refine (strIndexByte _ _ W4).mono ?_
          rintro e w6 ⟨rfl,rfl⟩
          rw [HX.out,show (txt L).data.toList=L from rfl]
          generalize Lib.indexByte L x=m at *
          cases h
          · have hm:¬ (0:Int)≤m:=by simpa using HTJ.out
            go_wp2_with (fail)
            go_round
            case rel=>exact ⟨j+1,HLT.out,by go_num,HNX.out⟩
            case measure=>have:=HLT.out;simp [intOf];omega
          · have hm:(0:Int)≤m:=by simpa using HTJ.out
            go_wp2_with (fail)
            go_ret
            exact ⟨by rw [HGO.out,goodTo_no (j:=j) (by rw [HNX.out];rfl) HLT.out];rfl,HB4.out⟩
      · obtain rfl:j=5:=by omega
        go_wp2_with (fail)
        go_ret
        exact ⟨by rw [HGO.out,HGJ.out];rfl,HB4.out⟩
  · go_ret
    exact ⟨by rw [Sgn.plain_good hp];rfl,HB1.out⟩
end
section
open Go.RowKit
def Sgn.of (l:List UInt8):Sgn:=⟨l.getD 3 0,l.getD 4 0,l.getD 5 0,l.getD 6 0,l.getD 7 0⟩
def Sgn.zero:Sgn:=⟨0,0,0,0,0⟩
def readD (l:List UInt8):Sgn × Int :=
  if l.length<9 then (Sgn.zero,7)
  else if l.take 3≠[77,83,72]∨(Sgn.of l).good=false then (Sgn.zero,11)
  else if l.getD 8 0≠l.getD 3 0∧l.getD 8 0≠13 then (Sgn.zero,11)
  else (Sgn.of l,0)
def setFive (W:World) (G:Nat) (a b c d e:Value):World:=((((W.setCell ⟨G,0,none⟩ a).setCell ⟨G,1,none⟩ b).setCell ⟨G,2,none⟩ c).setCell ⟨G,3,none⟩ d).setCell ⟨G,4,none⟩ e
theorem setFive_row {W:World} {G:Nat} {a' b' c' d' e':Value} {t:TypeId} (h:W.heap[G]?=some (.cells #[a',b',c',d',e'] t)) (a b c d e:Value):(setFive W G a b c d e).heap[G]?=some (.cells #[a,b,c,d,e] t) :=
  Lib.heap_setCell_same (Lib.heap_setCell_same (Lib.heap_setCell_same (Lib.heap_setCell_same (Lib.heap_setCell_same h a) b) c) d) e
theorem setFive_below {B:Nat} {w W:World} {G:Nat} (h:Below B w W) (hG:B≤G) (a b c d e:Value):Below B w (setFive W G a b c d e) :=
  ((((h.setCell (p:=⟨G,0,none⟩) hG a).setCell (p:=⟨G,1,none⟩) hG b).setCell (p:=⟨G,2,none⟩) hG c).setCell (p:=⟨G,3,none⟩) hG d).setCell (p:=⟨G,4,none⟩) hG e
theorem frozen_of {W:World} {G:Nat} {cs:Array Value} {t:TypeId} (h:W.heap[G]?=some (.cells cs t)) (k:Nat):W.frozen? ⟨G,k,none⟩=false:=by
  simp [World.frozen?,h]
set_option maxHeartbeats 1000000 in
set_option maxRecDepth 100000 in
theorem delimRead_short (A:Option Addr) (n c:Nat) (l:List UInt8) (w:World) (hB:Bs w A n c l) (h9:(n:Int)<9) :
    Calls Tryz.prog 102 #[.slice A n c] w fun e w'=>e=.returned (.tuple #[(readD l).1.v,.int .i64 (readD l).2])∧Below w.heap.size w w':=by
  have hn:=hB.nmax
  have HL:=hid hB.len
  have HB:=hid hB;clear hB
  rw [show readD l=(Sgn.zero,7) from by unfold readD;rw [if_pos (by rw [HL.out];omega)]]
  go_enter Tryz.func102,Tryz.ntmps102
  go_wp2_with (fail)
  exact bodyPost_ret (v:=.tuple #[dlm 0 0 0 0 0,.int .i64 7]) (by simp [results,Tryz.results102,go_sem]) rfl ⟨rfl,(Below.refl _ w).alloc (Nat.le_refl _) _⟩
set_option maxHeartbeats 1000000 in
set_option maxRecDepth 100000 in
theorem delimRead_head (A:Option Addr) (n c:Nat) (l:List UInt8) (w:World) (hB:Bs w A n c l) (h9:¬ (n:Int)<9) (hm:¬ l.take 3=[77,83,72]) :
    Calls Tryz.prog 102 #[.slice A n c] w fun e w'=>e=.returned (.tuple #[(readD l).1.v,.int .i64 (readD l).2])∧Below w.heap.size w w':=by
  have Khm:=hid hm;clear hm
  have hn:=hB.nmax
  have HL:=hid hB.len
  have HB:=hid hB;clear hB
  have h8:9≤n:=by omega
  obtain ⟨b,o,rfl,hb,hc⟩:=HB.out.at_ (by omega)
  go_enter Tryz.func102,Tryz.ntmps102
  go_wp2_with (fail)
  have hlen:=HL.out
  have hr1:=heap_alloc_new w (.cells #[.int .u8 0,.int .u8 0,.int .u8 0,.int .u8 0,.int .u8 0] 109)
  have hg1:w.heap.size<(w.alloc (.cells #[.int .u8 0,.int .u8 0,.int .u8 0,.int .u8 0,.int .u8 0] 109)).heap.size:=by simp
  have HB1:Hid (Below w.heap.size w (w.alloc (.cells #[.int .u8 0,.int .u8 0,.int .u8 0,.int .u8 0,.int .u8 0] 109))):=hid ((Below.refl _ w).alloc (Nat.le_refl _) _)
  have HS1:=hid (HB.out.alloc (.cells #[.int .u8 0,.int .u8 0,.int .u8 0,.int .u8 0,.int .u8 0] 109))
  clear HB hb hc
  obtain ⟨G1,hG⟩:∃ G,G=w.heap.size:=⟨_,rfl⟩
  have HG1:Hid (w.heap.size≤G1):=hid (by omega)
  generalize w.alloc (.cells #[.int .u8 0,.int .u8 0,.int .u8 0,.int .u8 0,.int .u8 0] 109)=W1 at *
  rw [← hG] at hr1 hg1 ⊢
  have HB1':Hid (Below w.heap.size w W1):=hid (by first | exact HB1.out | (rw [← hG];exact HB1.out))
  clear hG HB1
  have cell:∀ k,k<n→W1.cell? ⟨b,o+k,none⟩=some (.int .u8 ((l.getD k 0).toNat:Int)):=by
    intro k hk
    obtain ⟨b',o',e,_,hc⟩:=HS1.out.at_ (by omega)
    cases e
    rw [hc k (l.getD k 0) (by rw [List.getD_eq_getElem?_getD,List.getElem?_eq_getElem (by omega)];rfl)]
  obtain ⟨S,hS⟩:∃ S:Sgn,S=Sgn.of l:=⟨_,rfl⟩
  obtain ⟨x8,hx8⟩:∃ x:UInt8,x=l.getD 8 0:=⟨_,rfl⟩
  have z3:W1.cell? ⟨b,o+3,none⟩=some (.int .u8 (S.a.toNat:Int)):=by rw [hS];exact cell 3 (by omega)
  have z4:W1.cell? ⟨b,o+4,none⟩=some (.int .u8 (S.b.toNat:Int)):=by rw [hS];exact cell 4 (by omega)
  have z5:W1.cell? ⟨b,o+5,none⟩=some (.int .u8 (S.c.toNat:Int)):=by rw [hS];exact cell 5 (by omega)
  have z6:W1.cell? ⟨b,o+6,none⟩=some (.int .u8 (S.d.toNat:Int)):=by rw [hS];exact cell 6 (by omega)
  have z7:W1.cell? ⟨b,o+7,none⟩=some (.int .u8 (S.e.toNat:Int)):=by rw [hS];exact cell 7 (by omega)
  have z8:W1.cell? ⟨b,o+8,none⟩=some (.int .u8 (x8.toNat:Int)):=by rw [hx8];exact cell 8 (by omega)
  have HSS:=hid hS
  have HX8:=hid hx8
  clear hS hx8
  clear cell
  have i3:(3:Int)<n:=by omega
  have i4:(4:Int)<n:=by omega
  have i5:(5:Int)<n:=by omega
  have i6:(6:Int)<n:=by omega
  have i7:(7:Int)<n:=by omega
  have HR1:=hid hr1
  have HH1:=hid hg1
  clear hr1 hg1
  have hbw:b<W1.heap.size:=by
    obtain ⟨b',o',e,hb',_⟩:=HS1.out.at_ (by omega)
    cases e
    exact hb'
  have hbne:b≠W1.heap.size:=by omega
  have hbne':¬ W1.heap.size=b:=by omega
  have Z8:=hid z8
  clear z8
  go_region
  have hr2:((W1.alloc (.cells #[.int .u8 (S.a.toNat:Int),.int .u8 (S.b.toNat:Int),.int .u8 (S.c.toNat:Int),.int .u8 (S.d.toNat:Int),.int .u8 (S.e.toNat:Int)] 109)).drew).heap[W1.heap.size]?=some (.cells #[.int .u8 (S.a.toNat:Int),.int .u8 (S.b.toNat:Int),.int .u8 (S.c.toNat:Int),.int .u8 (S.d.toNat:Int),.int .u8 (S.e.toNat:Int)] 109):=heap_alloc_new W1 (.cells #[.int .u8 (S.a.toNat:Int),.int .u8 (S.b.toNat:Int),.int .u8 (S.c.toNat:Int),.int .u8 (S.d.toNat:Int),.int .u8 (S.e.toNat:Int)] 109)
  have HS2:Hid (Bs ((W1.alloc (.cells #[.int .u8 (S.a.toNat:Int),.int .u8 (S.b.toNat:Int),.int .u8 (S.c.toNat:Int),.int .u8 (S.d.toNat:Int),.int .u8 (S.e.toNat:Int)] 109)).drew) (some ⟨b,o,none⟩) n c l):=hid (HS1.out.alloc (.cells #[.int .u8 (S.a.toNat:Int),.int .u8 (S.b.toNat:Int),.int .u8 (S.c.toNat:Int),.int .u8 (S.d.toNat:Int),.int .u8 (S.e.toNat:Int)] 109)).drew
  have hb2:Below W1.heap.size W1 ((W1.alloc (.cells #[.int .u8 (S.a.toNat:Int),.int .u8 (S.b.toNat:Int),.int .u8 (S.c.toNat:Int),.int .u8 (S.d.toNat:Int),.int .u8 (S.e.toNat:Int)] 109)).drew):=((Below.refl _ W1).alloc (Nat.le_refl _) _).drew
  have HB2:Hid (Below w.heap.size w ((W1.alloc (.cells #[.int .u8 (S.a.toNat:Int),.int .u8 (S.b.toNat:Int),.int .u8 (S.c.toNat:Int),.int .u8 (S.d.toNat:Int),.int .u8 (S.e.toNat:Int)] 109)).drew)):=hid (HB1'.out.trans (hb2.mono HB1'.out.size))
  have HR2:Hid (((W1.alloc (.cells #[.int .u8 (S.a.toNat:Int),.int .u8 (S.b.toNat:Int),.int .u8 (S.c.toNat:Int),.int .u8 (S.d.toNat:Int),.int .u8 (S.e.toNat:Int)] 109)).drew).heap[G1]?=some (.cells #[.int .u8 0,.int .u8 0,.int .u8 0,.int .u8 0,.int .u8 0] 109)):=hid (by rw [hb2.block _ HH1.out];exact HR1.out)
  have HG2:Hid (G1<((W1.alloc (.cells #[.int .u8 (S.a.toNat:Int),.int .u8 (S.b.toNat:Int),.int .u8 (S.c.toNat:Int),.int .u8 (S.d.toNat:Int),.int .u8 (S.e.toNat:Int)] 109)).drew).heap.size):=hid (Nat.lt_of_lt_of_le HH1.out hb2.size)
  have HGG:Hid (W1.heap.size<((W1.alloc (.cells #[.int .u8 (S.a.toNat:Int),.int .u8 (S.b.toNat:Int),.int .u8 (S.c.toNat:Int),.int .u8 (S.d.toNat:Int),.int .u8 (S.e.toNat:Int)] 109)).drew).heap.size):=hid (by show _<(W1.alloc (.cells #[.int .u8 (S.a.toNat:Int),.int .u8 (S.b.toNat:Int),.int .u8 (S.c.toNat:Int),.int .u8 (S.d.toNat:Int),.int .u8 (S.e.toNat:Int)] 109)).heap.size;simp)
  have HZ8:Hid (((W1.alloc (.cells #[.int .u8 (S.a.toNat:Int),.int .u8 (S.b.toNat:Int),.int .u8 (S.c.toNat:Int),.int .u8 (S.d.toNat:Int),.int .u8 (S.e.toNat:Int)] 109)).drew).cell? ⟨b,o+8,none⟩=some (.int .u8 (x8.toNat:Int))):=hid (by rw [hb2.cell (p:=⟨b,o+8,none⟩) hbw];exact Z8.out)
  obtain ⟨G2,hG2⟩:∃ G,G=W1.heap.size:=⟨_,rfl⟩
  have HNE:Hid (G2≠G1):=hid (by have:=HH1.out;omega)
  clear hb2 hbne hbne' z3 z4 z5 z6 z7 i3 i4 i5 i6 i7 HS1 HB1' HR1 HH1 Z8
  generalize (W1.alloc (.cells #[.int .u8 (S.a.toNat:Int),.int .u8 (S.b.toNat:Int),.int .u8 (S.c.toNat:Int),.int .u8 (S.d.toNat:Int),.int .u8 (S.e.toNat:Int)] 109)).drew=W2 at *
  rw [← hG2] at hr2 HGG ⊢
  clear hG2
  have q0:=cell_of_row W2 G2 0 _ _ _ hr2
  have q1:=cell_of_row W2 G2 1 _ _ _ hr2
  have q2:=cell_of_row W2 G2 2 _ _ _ hr2
  have q3:=cell_of_row W2 G2 3 _ _ _ hr2
  have q4:=cell_of_row W2 G2 4 _ _ _ hr2
  simp only [List.getElem?_toArray,List.getElem?_cons_zero,List.getElem?_cons_succ] at q0 q1 q2 q3 q4
  have HR3:=hid hr2
  clear hr2
  have hcv:=(Bs.take HS2.out (j:=3) (by omega)).str (P:=Tryz.prog) 40 5 9 Tryz.underlying40 Tryz.underlying5 Tryz.underlying9
  have hc3:(3:Int)≤c:=by have:=HS2.out.le;omega
  have HRD:Hid (readD l=if l.take 3≠[77,83,72]∨S.good=false then (Sgn.zero,11) else if x8≠S.a∧x8≠13 then (Sgn.zero,11) else (S,0)):=hid (by unfold readD;rw [if_neg (by rw [hlen];omega),← HSS.out,← HX8.out,show l.getD 3 0=S.a from by rw [HSS.out];rfl])
  have ZC:∀ w3:World,Below W2.heap.size W2 w3→w3.heap[G1]?=some (.cells #[.int .u8 0,.int .u8 0,.int .u8 0,.int .u8 0,.int .u8 0] 109)∧w3.cell? ⟨b,o+8,none⟩=some (.int .u8 (x8.toNat:Int))∧w3.heap[G2]?=some (.cells #[.int .u8 (S.a.toNat:Int),.int .u8 (S.b.toNat:Int),.int .u8 (S.c.toNat:Int),.int .u8 (S.d.toNat:Int),.int .u8 (S.e.toNat:Int)] 109):=fun w3 h3=>⟨by rw [h3.block _ HG2.out];exact HR2.out,by
    obtain ⟨b',o',e,hb',_⟩:=HS2.out.at_ (by omega)
    cases e
    rw [h3.cell (p:=⟨b,o+8,none⟩) hb'];exact HZ8.out,by rw [h3.block _ HGG.out];exact HR3.out⟩
  have ZCH:=hid ZC
  clear ZC
  have hm:=Khm.out;clear Khm
  have hm':(l.take 3=[77,83,72])=False:=by simp [hm]
  have HRZ:=hid (show readD l=(Sgn.zero,11) from by rw [HRD.out,if_pos (.inl hm)])
  clear HRD q0 q1 q2 q3 q4
  have c0:=cell_of_row _ G1 0 _ _ _ HR2.out
  have c1:=cell_of_row _ G1 1 _ _ _ HR2.out
  have c2:=cell_of_row _ G1 2 _ _ _ HR2.out
  have c3:=cell_of_row _ G1 3 _ _ _ HR2.out
  have c4:=cell_of_row _ G1 4 _ _ _ HR2.out
  simp only [List.getElem?_toArray,List.getElem?_cons_zero,List.getElem?_cons_succ] at c0 c1 c2 c3 c4
  have f0:=frozen_of HR2.out 0
  have f1:=frozen_of HR2.out 1
  have f2:=frozen_of HR2.out 2
  have f3:=frozen_of HR2.out 3
  have f4:=frozen_of HR2.out 4
  go_wp2_with (fail)
  clear c0 c1 c2 c3 c4 f0 f1 f2 f3 f4
  have hrow:=setFive_row (W:=W2) HR2.out (.int .u8 0) (.int .u8 0) (.int .u8 0) (.int .u8 0) (.int .u8 0)
  have hbel:=setFive_below (W:=W2) HB2.out HG1.out (.int .u8 0) (.int .u8 0) (.int .u8 0) (.int .u8 0) (.int .u8 0)
  unfold setFive at hrow hbel
  generalize (((((W2.setCell ⟨G1,0,none⟩ (.int .u8 0)).setCell ⟨G1,1,none⟩ (.int .u8 0)).setCell ⟨G1,2,none⟩ (.int .u8 0)).setCell ⟨G1,3,none⟩ (.int .u8 0)).setCell ⟨G1,4,none⟩ (.int .u8 0))=W5 at hrow hbel ⊢
  have c0:=cell_of_row _ G1 0 _ _ _ hrow
  have c1:=cell_of_row _ G1 1 _ _ _ hrow
  have c2:=cell_of_row _ G1 2 _ _ _ hrow
  have c3:=cell_of_row _ G1 3 _ _ _ hrow
  have c4:=cell_of_row _ G1 4 _ _ _ hrow
  simp only [List.getElem?_toArray,List.getElem?_cons_zero,List.getElem?_cons_succ] at c0 c1 c2 c3 c4
  exact bodyPost_ret (v:=.tuple #[dlm 0 0 0 0 0,.int .i64 11]) (by simp [results,Tryz.results102,go_sem,c0,c1,c2,c3,c4]) rfl ⟨by rw [HRZ.out];rfl,hbel⟩
end
section
open Go.RowKit
set_option maxHeartbeats 1000000 in
set_option maxRecDepth 100000 in
theorem delimRead_bad (A:Option Addr) (n c:Nat) (l:List UInt8) (w:World) (hB:Bs w A n c l) (h9:¬ (n:Int)<9) (hm:l.take 3=[77,83,72]) (hgd:(Sgn.of l).good=false) :
    Calls Tryz.prog 102 #[.slice A n c] w fun e w'=>e=.returned (.tuple #[(readD l).1.v,.int .i64 (readD l).2])∧Below w.heap.size w w':=by
  have Khm:=hid hm;clear hm
  have Khgd:=hid hgd;clear hgd
  have hn:=hB.nmax
  have HL:=hid hB.len
  have HB:=hid hB;clear hB
  have h8:9≤n:=by omega
  obtain ⟨b,o,rfl,hb,hc⟩:=HB.out.at_ (by omega)
  go_enter Tryz.func102,Tryz.ntmps102
  go_wp2_with (fail)
  have hlen:=HL.out
  have hr1:=heap_alloc_new w (.cells #[.int .u8 0,.int .u8 0,.int .u8 0,.int .u8 0,.int .u8 0] 109)
  have hg1:w.heap.size<(w.alloc (.cells #[.int .u8 0,.int .u8 0,.int .u8 0,.int .u8 0,.int .u8 0] 109)).heap.size:=by simp
  have HB1:Hid (Below w.heap.size w (w.alloc (.cells #[.int .u8 0,.int .u8 0,.int .u8 0,.int .u8 0,.int .u8 0] 109))):=hid ((Below.refl _ w).alloc (Nat.le_refl _) _)
  have HS1:=hid (HB.out.alloc (.cells #[.int .u8 0,.int .u8 0,.int .u8 0,.int .u8 0,.int .u8 0] 109))
  clear HB hb hc
  obtain ⟨G1,hG⟩:∃ G,G=w.heap.size:=⟨_,rfl⟩
  have HG1:Hid (w.heap.size≤G1):=hid (by omega)
  generalize w.alloc (.cells #[.int .u8 0,.int .u8 0,.int .u8 0,.int .u8 0,.int .u8 0] 109)=W1 at *
  rw [← hG] at hr1 hg1 ⊢
  have HB1':Hid (Below w.heap.size w W1):=hid (by first | exact HB1.out | (rw [← hG];exact HB1.out))
  clear hG HB1
  have cell:∀ k,k<n→W1.cell? ⟨b,o+k,none⟩=some (.int .u8 ((l.getD k 0).toNat:Int)):=by
    intro k hk
    obtain ⟨b',o',e,_,hc⟩:=HS1.out.at_ (by omega)
    cases e
    rw [hc k (l.getD k 0) (by rw [List.getD_eq_getElem?_getD,List.getElem?_eq_getElem (by omega)];rfl)]
  obtain ⟨S,hS⟩:∃ S:Sgn,S=Sgn.of l:=⟨_,rfl⟩
  obtain ⟨x8,hx8⟩:∃ x:UInt8,x=l.getD 8 0:=⟨_,rfl⟩
  have z3:W1.cell? ⟨b,o+3,none⟩=some (.int .u8 (S.a.toNat:Int)):=by rw [hS];exact cell 3 (by omega)
  have z4:W1.cell? ⟨b,o+4,none⟩=some (.int .u8 (S.b.toNat:Int)):=by rw [hS];exact cell 4 (by omega)
  have z5:W1.cell? ⟨b,o+5,none⟩=some (.int .u8 (S.c.toNat:Int)):=by rw [hS];exact cell 5 (by omega)
  have z6:W1.cell? ⟨b,o+6,none⟩=some (.int .u8 (S.d.toNat:Int)):=by rw [hS];exact cell 6 (by omega)
  have z7:W1.cell? ⟨b,o+7,none⟩=some (.int .u8 (S.e.toNat:Int)):=by rw [hS];exact cell 7 (by omega)
  have z8:W1.cell? ⟨b,o+8,none⟩=some (.int .u8 (x8.toNat:Int)):=by rw [hx8];exact cell 8 (by omega)
  have HSS:=hid hS
  have HX8:=hid hx8
  clear hS hx8
  clear cell
  have i3:(3:Int)<n:=by omega
  have i4:(4:Int)<n:=by omega
  have i5:(5:Int)<n:=by omega
  have i6:(6:Int)<n:=by omega
  have i7:(7:Int)<n:=by omega
  have HR1:=hid hr1
  have HH1:=hid hg1
  clear hr1 hg1
  have hbw:b<W1.heap.size:=by
    obtain ⟨b',o',e,hb',_⟩:=HS1.out.at_ (by omega)
    cases e
    exact hb'
  have hbne:b≠W1.heap.size:=by omega
  have hbne':¬ W1.heap.size=b:=by omega
  have Z8:=hid z8
  clear z8
  go_region
  have hr2:((W1.alloc (.cells #[.int .u8 (S.a.toNat:Int),.int .u8 (S.b.toNat:Int),.int .u8 (S.c.toNat:Int),.int .u8 (S.d.toNat:Int),.int .u8 (S.e.toNat:Int)] 109)).drew).heap[W1.heap.size]?=some (.cells #[.int .u8 (S.a.toNat:Int),.int .u8 (S.b.toNat:Int),.int .u8 (S.c.toNat:Int),.int .u8 (S.d.toNat:Int),.int .u8 (S.e.toNat:Int)] 109):=heap_alloc_new W1 (.cells #[.int .u8 (S.a.toNat:Int),.int .u8 (S.b.toNat:Int),.int .u8 (S.c.toNat:Int),.int .u8 (S.d.toNat:Int),.int .u8 (S.e.toNat:Int)] 109)
  have HS2:Hid (Bs ((W1.alloc (.cells #[.int .u8 (S.a.toNat:Int),.int .u8 (S.b.toNat:Int),.int .u8 (S.c.toNat:Int),.int .u8 (S.d.toNat:Int),.int .u8 (S.e.toNat:Int)] 109)).drew) (some ⟨b,o,none⟩) n c l):=hid (HS1.out.alloc (.cells #[.int .u8 (S.a.toNat:Int),.int .u8 (S.b.toNat:Int),.int .u8 (S.c.toNat:Int),.int .u8 (S.d.toNat:Int),.int .u8 (S.e.toNat:Int)] 109)).drew
  have hb2:Below W1.heap.size W1 ((W1.alloc (.cells #[.int .u8 (S.a.toNat:Int),.int .u8 (S.b.toNat:Int),.int .u8 (S.c.toNat:Int),.int .u8 (S.d.toNat:Int),.int .u8 (S.e.toNat:Int)] 109)).drew):=((Below.refl _ W1).alloc (Nat.le_refl _) _).drew
  have HB2:Hid (Below w.heap.size w ((W1.alloc (.cells #[.int .u8 (S.a.toNat:Int),.int .u8 (S.b.toNat:Int),.int .u8 (S.c.toNat:Int),.int .u8 (S.d.toNat:Int),.int .u8 (S.e.toNat:Int)] 109)).drew)):=hid (HB1'.out.trans (hb2.mono HB1'.out.size))
  have HR2:Hid (((W1.alloc (.cells #[.int .u8 (S.a.toNat:Int),.int .u8 (S.b.toNat:Int),.int .u8 (S.c.toNat:Int),.int .u8 (S.d.toNat:Int),.int .u8 (S.e.toNat:Int)] 109)).drew).heap[G1]?=some (.cells #[.int .u8 0,.int .u8 0,.int .u8 0,.int .u8 0,.int .u8 0] 109)):=hid (by rw [hb2.block _ HH1.out];exact HR1.out)
  have HG2:Hid (G1<((W1.alloc (.cells #[.int .u8 (S.a.toNat:Int),.int .u8 (S.b.toNat:Int),.int .u8 (S.c.toNat:Int),.int .u8 (S.d.toNat:Int),.int .u8 (S.e.toNat:Int)] 109)).drew).heap.size):=hid (Nat.lt_of_lt_of_le HH1.out hb2.size)
  have HGG:Hid (W1.heap.size<((W1.alloc (.cells #[.int .u8 (S.a.toNat:Int),.int .u8 (S.b.toNat:Int),.int .u8 (S.c.toNat:Int),.int .u8 (S.d.toNat:Int),.int .u8 (S.e.toNat:Int)] 109)).drew).heap.size):=hid (by show _<(W1.alloc (.cells #[.int .u8 (S.a.toNat:Int),.int .u8 (S.b.toNat:Int),.int .u8 (S.c.toNat:Int),.int .u8 (S.d.toNat:Int),.int .u8 (S.e.toNat:Int)] 109)).heap.size;simp)
  have HZ8:Hid (((W1.alloc (.cells #[.int .u8 (S.a.toNat:Int),.int .u8 (S.b.toNat:Int),.int .u8 (S.c.toNat:Int),.int .u8 (S.d.toNat:Int),.int .u8 (S.e.toNat:Int)] 109)).drew).cell? ⟨b,o+8,none⟩=some (.int .u8 (x8.toNat:Int))):=hid (by rw [hb2.cell (p:=⟨b,o+8,none⟩) hbw];exact Z8.out)
  obtain ⟨G2,hG2⟩:∃ G,G=W1.heap.size:=⟨_,rfl⟩
  have HNE:Hid (G2≠G1):=hid (by have:=HH1.out;omega)
  clear hb2 hbne hbne' z3 z4 z5 z6 z7 i3 i4 i5 i6 i7 HS1 HB1' HR1 HH1 Z8
  generalize (W1.alloc (.cells #[.int .u8 (S.a.toNat:Int),.int .u8 (S.b.toNat:Int),.int .u8 (S.c.toNat:Int),.int .u8 (S.d.toNat:Int),.int .u8 (S.e.toNat:Int)] 109)).drew=W2 at *
  rw [← hG2] at hr2 HGG ⊢
  clear hG2
  have q0:=cell_of_row W2 G2 0 _ _ _ hr2
  have q1:=cell_of_row W2 G2 1 _ _ _ hr2
  have q2:=cell_of_row W2 G2 2 _ _ _ hr2
  have q3:=cell_of_row W2 G2 3 _ _ _ hr2
  have q4:=cell_of_row W2 G2 4 _ _ _ hr2
  simp only [List.getElem?_toArray,List.getElem?_cons_zero,List.getElem?_cons_succ] at q0 q1 q2 q3 q4
  have HR3:=hid hr2
  clear hr2
  have hcv:=(Bs.take HS2.out (j:=3) (by omega)).str (P:=Tryz.prog) 40 5 9 Tryz.underlying40 Tryz.underlying5 Tryz.underlying9
  have hc3:(3:Int)≤c:=by have:=HS2.out.le;omega
  have HRD:Hid (readD l=if l.take 3≠[77,83,72]∨S.good=false then (Sgn.zero,11) else if x8≠S.a∧x8≠13 then (Sgn.zero,11) else (S,0)):=hid (by unfold readD;rw [if_neg (by rw [hlen];omega),← HSS.out,← HX8.out,show l.getD 3 0=S.a from by rw [HSS.out];rfl])
  have ZC:∀ w3:World,Below W2.heap.size W2 w3→w3.heap[G1]?=some (.cells #[.int .u8 0,.int .u8 0,.int .u8 0,.int .u8 0,.int .u8 0] 109)∧w3.cell? ⟨b,o+8,none⟩=some (.int .u8 (x8.toNat:Int))∧w3.heap[G2]?=some (.cells #[.int .u8 (S.a.toNat:Int),.int .u8 (S.b.toNat:Int),.int .u8 (S.c.toNat:Int),.int .u8 (S.d.toNat:Int),.int .u8 (S.e.toNat:Int)] 109):=fun w3 h3=>⟨by rw [h3.block _ HG2.out];exact HR2.out,by
    obtain ⟨b',o',e,hb',_⟩:=HS2.out.at_ (by omega)
    cases e
    rw [h3.cell (p:=⟨b,o+8,none⟩) hb'];exact HZ8.out,by rw [h3.block _ HGG.out];exact HR3.out⟩
  have ZCH:=hid ZC
  clear ZC
  have hm:=Khm.out;clear Khm
  rw [hm] at hcv
  have HM:=hid hm
  go_wp2_with (fail)
  refine (delimRight S W2).mono ?_
  rintro e w3 ⟨rfl,hb3⟩
  have hz:=ZCH.out w3 hb3
  have HB3:Hid (Below w.heap.size w w3):=hid (HB2.out.trans (hb3.mono HB2.out.size))
  clear hb3 q0 q1 q2 q3 q4 hcv ZCH
  have HR1:=hid hz.1
  have HR3':=hid hz.2.2
  have z8:=hz.2.1
  clear hz
  have hgd:S.good=false:=by rw [HSS.out];exact Khgd.out
  clear Khgd
  rw [hgd]
  have HRZ:=hid (show readD l=(Sgn.zero,11) from by rw [HRD.out,if_pos (.inr hgd)])
  clear HRD z8 HR3'
  have c0:=cell_of_row _ G1 0 _ _ _ HR1.out
  have c1:=cell_of_row _ G1 1 _ _ _ HR1.out
  have c2:=cell_of_row _ G1 2 _ _ _ HR1.out
  have c3:=cell_of_row _ G1 3 _ _ _ HR1.out
  have c4:=cell_of_row _ G1 4 _ _ _ HR1.out
  simp only [List.getElem?_toArray,List.getElem?_cons_zero,List.getElem?_cons_succ] at c0 c1 c2 c3 c4
  have f0:=frozen_of HR1.out 0
  have f1:=frozen_of HR1.out 1
  have f2:=frozen_of HR1.out 2
  have f3:=frozen_of HR1.out 3
  have f4:=frozen_of HR1.out 4
  go_wp2_with (fail)
  clear c0 c1 c2 c3 c4 f0 f1 f2 f3 f4
  have hrow:=setFive_row (W:=w3) HR1.out (.int .u8 0) (.int .u8 0) (.int .u8 0) (.int .u8 0) (.int .u8 0)
  have hbel:=setFive_below (W:=w3) HB3.out HG1.out (.int .u8 0) (.int .u8 0) (.int .u8 0) (.int .u8 0) (.int .u8 0)
  unfold setFive at hrow hbel
  generalize (((((w3.setCell ⟨G1,0,none⟩ (.int .u8 0)).setCell ⟨G1,1,none⟩ (.int .u8 0)).setCell ⟨G1,2,none⟩ (.int .u8 0)).setCell ⟨G1,3,none⟩ (.int .u8 0)).setCell ⟨G1,4,none⟩ (.int .u8 0))=W5 at hrow hbel ⊢
  have c0:=cell_of_row _ G1 0 _ _ _ hrow
  have c1:=cell_of_row _ G1 1 _ _ _ hrow
  have c2:=cell_of_row _ G1 2 _ _ _ hrow
  have c3:=cell_of_row _ G1 3 _ _ _ hrow
  have c4:=cell_of_row _ G1 4 _ _ _ hrow
  simp only [List.getElem?_toArray,List.getElem?_cons_zero,List.getElem?_cons_succ] at c0 c1 c2 c3 c4
  exact bodyPost_ret (v:=.tuple #[dlm 0 0 0 0 0,.int .i64 11]) (by simp [results,Tryz.results102,go_sem,c0,c1,c2,c3,c4]) rfl ⟨by rw [HRZ.out];rfl,hbel⟩
end
end Go.Proofs.YtodjilljcjkacaaGreatDoor
