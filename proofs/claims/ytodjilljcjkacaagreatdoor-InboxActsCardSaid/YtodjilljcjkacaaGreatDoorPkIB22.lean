/- Laid together: Delim3c, Delim3d, Delim3e, Delim4, Conv. -/
import Derived.Test.YtodjilljcjkacaaGreatDoorPkIB21
import Derived.Lib.ConvBytes
import Derived.Deep.AppendSrc

namespace Go.Proofs.YtodjilljcjkacaaGreatDoor
open Lib (hid)
section
open Go.RowKit
set_option maxHeartbeats 1000000 in
set_option maxRecDepth 100000 in
theorem delimRead_first (A:Option Addr) (n c:Nat) (l:List UInt8) (w:World) (hB:Bs w A n c l) (h9:¬ (n:Int)<9) (hm:l.take 3=[77,83,72]) (hgd:(Sgn.of l).good=true) (h1:l.getD 8 0=l.getD 3 0) :
    Calls Tryz.prog 102 #[.slice A n c] w fun e w'=>e=.returned (.tuple #[(readD l).1.v,.int .i64 (readD l).2])∧Below w.heap.size w w':=by
  have Khm:=hid hm;clear hm
  have Khgd:=hid hgd;clear hgd
  have Kh1:=hid h1;clear h1
  have hn:=hB.nmax
  have HL:=hid hB.len
  have HB:=hid hB;clear hB
  have h8:9≤n:=by omega
  obtain ⟨b,o,rfl,hb,hc⟩:=HB.out.at_ (by omega)
  go_enter Tryz.func102,Tryz.ntmps102
  go_wp2_with (fail)
  have hlen:=HL.out
  have hr1:=heap_alloc_new w (.cells #[.int .u8 0,.int .u8 0,.int .u8 0,.int .u8 0,.int .u8 0] 109)
  have hg1:w.heap.size<(w.alloc (.cells #[.int .u8 0,.int .u8 0,.int .u8 0,.int .u8 0,.int .u8 0] 109)).heap.size:=by simp
  have HB1:Hid (Below w.heap.size w (w.alloc (.cells #[.int .u8 0,.int .u8 0,.int .u8 0,.int .u8 0,.int .u8 0] 109))):=hid ((Below.refl _ w).alloc (Nat.le_refl _) _)
  have HS1:=hid (HB.out.alloc (.cells #[.int .u8 0,.int .u8 0,.int .u8 0,.int .u8 0,.int .u8 0] 109))
  clear HB hb hc
  obtain ⟨G1,hG⟩:∃ G,G=w.heap.size:=⟨_,rfl⟩
  have HG1:Hid (w.heap.size≤G1):=hid (by omega)
  generalize w.alloc (.cells #[.int .u8 0,.int .u8 0,.int .u8 0,.int .u8 0,.int .u8 0] 109)=W1 at *
  rw [← hG] at hr1 hg1 ⊢
  have HB1':Hid (Below w.heap.size w W1):=hid (by first | exact HB1.out | (rw [← hG];exact HB1.out))
  clear hG HB1
  have cell:∀ k,k<n→W1.cell? ⟨b,o+k,none⟩=some (.int .u8 ((l.getD k 0).toNat:Int)):=by
    intro k hk
    obtain ⟨b',o',e,_,hc⟩:=HS1.out.at_ (by omega)
    cases e
    rw [hc k (l.getD k 0) (by rw [List.getD_eq_getElem?_getD,List.getElem?_eq_getElem (by omega)];rfl)]
  obtain ⟨S,hS⟩:∃ S:Sgn,S=Sgn.of l:=⟨_,rfl⟩
  obtain ⟨x8,hx8⟩:∃ x:UInt8,x=l.getD 8 0:=⟨_,rfl⟩
  have z3:W1.cell? ⟨b,o+3,none⟩=some (.int .u8 (S.a.toNat:Int)):=by rw [hS];exact cell 3 (by omega)
  have z4:W1.cell? ⟨b,o+4,none⟩=some (.int .u8 (S.b.toNat:Int)):=by rw [hS];exact cell 4 (by omega)
  have z5:W1.cell? ⟨b,o+5,none⟩=some (.int .u8 (S.c.toNat:Int)):=by rw [hS];exact cell 5 (by omega)
  have z6:W1.cell? ⟨b,o+6,none⟩=some (.int .u8 (S.d.toNat:Int)):=by rw [hS];exact cell 6 (by omega)
  have z7:W1.cell? ⟨b,o+7,none⟩=some (.int .u8 (S.e.toNat:Int)):=by rw [hS];exact cell 7 (by omega)
  have z8:W1.cell? ⟨b,o+8,none⟩=some (.int .u8 (x8.toNat:Int)):=by rw [hx8];exact cell 8 (by omega)
  have HSS:=hid hS
  have HX8:=hid hx8
  clear hS hx8
  clear cell
  have i3:(3:Int)<n:=by omega
  have i4:(4:Int)<n:=by omega
  have i5:(5:Int)<n:=by omega
  have i6:(6:Int)<n:=by omega
  have i7:(7:Int)<n:=by omega
  have HR1:=hid hr1
  have HH1:=hid hg1
  clear hr1 hg1
  have hbw:b<W1.heap.size:=by
    obtain ⟨b',o',e,hb',_⟩:=HS1.out.at_ (by omega)
    cases e
    exact hb'
  have hbne:b≠W1.heap.size:=by omega
  have hbne':¬ W1.heap.size=b:=by omega
  have Z8:=hid z8
  clear z8
  go_region
  have hr2:((W1.alloc (.cells #[.int .u8 (S.a.toNat:Int),.int .u8 (S.b.toNat:Int),.int .u8 (S.c.toNat:Int),.int .u8 (S.d.toNat:Int),.int .u8 (S.e.toNat:Int)] 109)).drew).heap[W1.heap.size]?=some (.cells #[.int .u8 (S.a.toNat:Int),.int .u8 (S.b.toNat:Int),.int .u8 (S.c.toNat:Int),.int .u8 (S.d.toNat:Int),.int .u8 (S.e.toNat:Int)] 109):=heap_alloc_new W1 (.cells #[.int .u8 (S.a.toNat:Int),.int .u8 (S.b.toNat:Int),.int .u8 (S.c.toNat:Int),.int .u8 (S.d.toNat:Int),.int .u8 (S.e.toNat:Int)] 109)
  have HS2:Hid (Bs ((W1.alloc (.cells #[.int .u8 (S.a.toNat:Int),.int .u8 (S.b.toNat:Int),.int .u8 (S.c.toNat:Int),.int .u8 (S.d.toNat:Int),.int .u8 (S.e.toNat:Int)] 109)).drew) (some ⟨b,o,none⟩) n c l):=hid (HS1.out.alloc (.cells #[.int .u8 (S.a.toNat:Int),.int .u8 (S.b.toNat:Int),.int .u8 (S.c.toNat:Int),.int .u8 (S.d.toNat:Int),.int .u8 (S.e.toNat:Int)] 109)).drew
  have hb2:Below W1.heap.size W1 ((W1.alloc (.cells #[.int .u8 (S.a.toNat:Int),.int .u8 (S.b.toNat:Int),.int .u8 (S.c.toNat:Int),.int .u8 (S.d.toNat:Int),.int .u8 (S.e.toNat:Int)] 109)).drew):=((Below.refl _ W1).alloc (Nat.le_refl _) _).drew
  have HB2:Hid (Below w.heap.size w ((W1.alloc (.cells #[.int .u8 (S.a.toNat:Int),.int .u8 (S.b.toNat:Int),.int .u8 (S.c.toNat:Int),.int .u8 (S.d.toNat:Int),.int .u8 (S.e.toNat:Int)] 109)).drew)):=hid (HB1'.out.trans (hb2.mono HB1'.out.size))
  have HR2:Hid (((W1.alloc (.cells #[.int .u8 (S.a.toNat:Int),.int .u8 (S.b.toNat:Int),.int .u8 (S.c.toNat:Int),.int .u8 (S.d.toNat:Int),.int .u8 (S.e.toNat:Int)] 109)).drew).heap[G1]?=some (.cells #[.int .u8 0,.int .u8 0,.int .u8 0,.int .u8 0,.int .u8 0] 109)):=hid (by rw [hb2.block _ HH1.out];exact HR1.out)
  have HG2:Hid (G1<((W1.alloc (.cells #[.int .u8 (S.a.toNat:Int),.int .u8 (S.b.toNat:Int),.int .u8 (S.c.toNat:Int),.int .u8 (S.d.toNat:Int),.int .u8 (S.e.toNat:Int)] 109)).drew).heap.size):=hid (Nat.lt_of_lt_of_le HH1.out hb2.size)
  have HGG:Hid (W1.heap.size<((W1.alloc (.cells #[.int .u8 (S.a.toNat:Int),.int .u8 (S.b.toNat:Int),.int .u8 (S.c.toNat:Int),.int .u8 (S.d.toNat:Int),.int .u8 (S.e.toNat:Int)] 109)).drew).heap.size):=hid (by show _<(W1.alloc (.cells #[.int .u8 (S.a.toNat:Int),.int .u8 (S.b.toNat:Int),.int .u8 (S.c.toNat:Int),.int .u8 (S.d.toNat:Int),.int .u8 (S.e.toNat:Int)] 109)).heap.size;simp)
  have HZ8:Hid (((W1.alloc (.cells #[.int .u8 (S.a.toNat:Int),.int .u8 (S.b.toNat:Int),.int .u8 (S.c.toNat:Int),.int .u8 (S.d.toNat:Int),.int .u8 (S.e.toNat:Int)] 109)).drew).cell? ⟨b,o+8,none⟩=some (.int .u8 (x8.toNat:Int))):=hid (by rw [hb2.cell (p:=⟨b,o+8,none⟩) hbw];exact Z8.out)
  obtain ⟨G2,hG2⟩:∃ G,G=W1.heap.size:=⟨_,rfl⟩
  have HNE:Hid (G2≠G1):=hid (by have:=HH1.out;omega)
  clear hb2 hbne hbne' z3 z4 z5 z6 z7 i3 i4 i5 i6 i7 HS1 HB1' HR1 HH1 Z8
  generalize (W1.alloc (.cells #[.int .u8 (S.a.toNat:Int),.int .u8 (S.b.toNat:Int),.int .u8 (S.c.toNat:Int),.int .u8 (S.d.toNat:Int),.int .u8 (S.e.toNat:Int)] 109)).drew=W2 at *
  rw [← hG2] at hr2 HGG ⊢
  clear hG2
  have q0:=cell_of_row W2 G2 0 _ _ _ hr2
  have q1:=cell_of_row W2 G2 1 _ _ _ hr2
  have q2:=cell_of_row W2 G2 2 _ _ _ hr2
  have q3:=cell_of_row W2 G2 3 _ _ _ hr2
  have q4:=cell_of_row W2 G2 4 _ _ _ hr2
  simp only [List.getElem?_toArray,List.getElem?_cons_zero,List.getElem?_cons_succ] at q0 q1 q2 q3 q4
  have HR3:=hid hr2
  clear hr2
  have hcv:=(Bs.take HS2.out (j:=3) (by omega)).str (P:=Tryz.prog) 40 5 9 Tryz.underlying40 Tryz.underlying5 Tryz.underlying9
  have hc3:(3:Int)≤c:=by have:=HS2.out.le;omega
  have HRD:Hid (readD l=if l.take 3≠[77,83,72]∨S.good=false then (Sgn.zero,11) else if x8≠S.a∧x8≠13 then (Sgn.zero,11) else (S,0)):=hid (by unfold readD;rw [if_neg (by rw [hlen];omega),← HSS.out,← HX8.out,show l.getD 3 0=S.a from by rw [HSS.out];rfl])
  have ZC:∀ w3:World,Below W2.heap.size W2 w3→w3.heap[G1]?=some (.cells #[.int .u8 0,.int .u8 0,.int .u8 0,.int .u8 0,.int .u8 0] 109)∧w3.cell? ⟨b,o+8,none⟩=some (.int .u8 (x8.toNat:Int))∧w3.heap[G2]?=some (.cells #[.int .u8 (S.a.toNat:Int),.int .u8 (S.b.toNat:Int),.int .u8 (S.c.toNat:Int),.int .u8 (S.d.toNat:Int),.int .u8 (S.e.toNat:Int)] 109):=fun w3 h3=>⟨by rw [h3.block _ HG2.out];exact HR2.out,by
    obtain ⟨b',o',e,hb',_⟩:=HS2.out.at_ (by omega)
    cases e
    rw [h3.cell (p:=⟨b,o+8,none⟩) hb'];exact HZ8.out,by rw [h3.block _ HGG.out];exact HR3.out⟩
  have ZCH:=hid ZC
  clear ZC
  have hm:=Khm.out;clear Khm
  rw [hm] at hcv
  have HM:=hid hm
  go_wp2_with (fail)
  refine (delimRight S W2).mono ?_
  rintro e w3 ⟨rfl,hb3⟩
  have hz:=ZCH.out w3 hb3
  have HB3:Hid (Below w.heap.size w w3):=hid (HB2.out.trans (hb3.mono HB2.out.size))
  clear hb3 q0 q1 q2 q3 q4 hcv ZCH
  have HR1:=hid hz.1
  have HR3':=hid hz.2.2
  have z8:=hz.2.1
  clear hz
  have hgd:S.good=true:=by rw [HSS.out];exact Khgd.out
  clear Khgd
  rw [hgd]
  have i8:(8:Int)<n:=by omega
  have q0:=cell_of_row (w3) G2 0 _ _ _ HR3'.out
  have q1:=cell_of_row (w3) G2 1 _ _ _ HR3'.out
  have q2:=cell_of_row (w3) G2 2 _ _ _ HR3'.out
  have q3:=cell_of_row (w3) G2 3 _ _ _ HR3'.out
  have q4:=cell_of_row (w3) G2 4 _ _ _ HR3'.out
  simp only [List.getElem?_toArray,List.getElem?_cons_zero,List.getElem?_cons_succ] at q0 q1 q2 q3 q4
  have h1:x8=S.a:=by rw [HX8.out,HSS.out];exact Kh1.out
  clear Kh1
  have HRZ:=hid (show readD l=(S,0) from by rw [HRD.out,if_neg (by simp [HM.out,hgd]),if_neg (fun h=>h.1 h1)])
  clear HRD
  have d1:((x8.toNat:Int) == (S.a.toNat:Int))=true:=by rw [h1];exact beq_self_eq_true _
  have d2:((x8.toNat:Int) != (S.a.toNat:Int))=false:=by rw [h1];exact bne_self_eq_false _
  clear h1
  go_wp2_with (fail)
  go_quiet (fail)
  clear z8
  have c0:=cell_of_row (w3) G1 0 _ _ _ HR1.out
  have c1:=cell_of_row (w3) G1 1 _ _ _ HR1.out
  have c2:=cell_of_row (w3) G1 2 _ _ _ HR1.out
  have c3:=cell_of_row (w3) G1 3 _ _ _ HR1.out
  have c4:=cell_of_row (w3) G1 4 _ _ _ HR1.out
  simp only [List.getElem?_toArray,List.getElem?_cons_zero,List.getElem?_cons_succ] at c0 c1 c2 c3 c4
  have f0:=frozen_of (W:=w3) HR1.out 0
  have f1:=frozen_of (W:=w3) HR1.out 1
  have f2:=frozen_of (W:=w3) HR1.out 2
  have f3:=frozen_of (W:=w3) HR1.out 3
  have f4:=frozen_of (W:=w3) HR1.out 4
  go_wp2_with (fail)
  clear q0 q1 q2 q3 q4
  clear c0 c1 c2 c3 c4 f0 f1 f2 f3 f4
  have hrow:=setFive_row (W:=(w3.drewN nq)) HR1.out (.int .u8 (S.a.toNat:Int)) (.int .u8 (S.b.toNat:Int)) (.int .u8 (S.c.toNat:Int)) (.int .u8 (S.d.toNat:Int)) (.int .u8 (S.e.toNat:Int))
  have hbel:=setFive_below (W:=(w3.drewN nq)) (drawN_below HB3.out nq) HG1.out (.int .u8 (S.a.toNat:Int)) (.int .u8 (S.b.toNat:Int)) (.int .u8 (S.c.toNat:Int)) (.int .u8 (S.d.toNat:Int)) (.int .u8 (S.e.toNat:Int))
  unfold setFive at hrow hbel
  generalize ((((((w3.drewN nq).setCell ⟨G1,0,none⟩ (.int .u8 (S.a.toNat:Int))).setCell ⟨G1,1,none⟩ (.int .u8 (S.b.toNat:Int))).setCell ⟨G1,2,none⟩ (.int .u8 (S.c.toNat:Int))).setCell ⟨G1,3,none⟩ (.int .u8 (S.d.toNat:Int))).setCell ⟨G1,4,none⟩ (.int .u8 (S.e.toNat:Int)))=W5 at hrow hbel ⊢
  have c0:=cell_of_row _ G1 0 _ _ _ hrow
  have c1:=cell_of_row _ G1 1 _ _ _ hrow
  have c2:=cell_of_row _ G1 2 _ _ _ hrow
  have c3:=cell_of_row _ G1 3 _ _ _ hrow
  have c4:=cell_of_row _ G1 4 _ _ _ hrow
  simp only [List.getElem?_toArray,List.getElem?_cons_zero,List.getElem?_cons_succ] at c0 c1 c2 c3 c4
  exact bodyPost_ret (v:=.tuple #[dlm (S.a.toNat:Int) (S.b.toNat:Int) (S.c.toNat:Int) (S.d.toNat:Int) (S.e.toNat:Int),.int .i64 0]) (by simp [results,Tryz.results102,go_sem,c0,c1,c2,c3,c4]) rfl ⟨by rw [HRZ.out],hbel⟩
end
section
open Go.RowKit
set_option maxHeartbeats 1000000 in
set_option maxRecDepth 100000 in
theorem delimRead_tail (A:Option Addr) (n c:Nat) (l:List UInt8) (w:World) (hB:Bs w A n c l) (h9:¬ (n:Int)<9) (hm:l.take 3=[77,83,72]) (hgd:(Sgn.of l).good=true) (h1:¬ l.getD 8 0=l.getD 3 0) (h2:l.getD 8 0=13) :
    Calls Tryz.prog 102 #[.slice A n c] w fun e w'=>e=.returned (.tuple #[(readD l).1.v,.int .i64 (readD l).2])∧Below w.heap.size w w':=by
  have Khm:=hid hm;clear hm
  have Khgd:=hid hgd;clear hgd
  have Kh1:=hid h1;clear h1
  have Kh2:=hid h2;clear h2
  have hn:=hB.nmax
  have HL:=hid hB.len
  have HB:=hid hB;clear hB
  have h8:9≤n:=by omega
  obtain ⟨b,o,rfl,hb,hc⟩:=HB.out.at_ (by omega)
  go_enter Tryz.func102,Tryz.ntmps102
  go_wp2_with (fail)
  have hlen:=HL.out
  have hr1:=heap_alloc_new w (.cells #[.int .u8 0,.int .u8 0,.int .u8 0,.int .u8 0,.int .u8 0] 109)
  have hg1:w.heap.size<(w.alloc (.cells #[.int .u8 0,.int .u8 0,.int .u8 0,.int .u8 0,.int .u8 0] 109)).heap.size:=by simp
  have HB1:Hid (Below w.heap.size w (w.alloc (.cells #[.int .u8 0,.int .u8 0,.int .u8 0,.int .u8 0,.int .u8 0] 109))):=hid ((Below.refl _ w).alloc (Nat.le_refl _) _)
  have HS1:=hid (HB.out.alloc (.cells #[.int .u8 0,.int .u8 0,.int .u8 0,.int .u8 0,.int .u8 0] 109))
  clear HB hb hc
  obtain ⟨G1,hG⟩:∃ G,G=w.heap.size:=⟨_,rfl⟩
  have HG1:Hid (w.heap.size≤G1):=hid (by omega)
  generalize w.alloc (.cells #[.int .u8 0,.int .u8 0,.int .u8 0,.int .u8 0,.int .u8 0] 109)=W1 at *
  rw [← hG] at hr1 hg1 ⊢
  have HB1':Hid (Below w.heap.size w W1):=hid (by first | exact HB1.out | (rw [← hG];exact HB1.out))
  clear hG HB1
  have cell:∀ k,k<n→W1.cell? ⟨b,o+k,none⟩=some (.int .u8 ((l.getD k 0).toNat:Int)):=by
    intro k hk
    obtain ⟨b',o',e,_,hc⟩:=HS1.out.at_ (by omega)
    cases e
    rw [hc k (l.getD k 0) (by rw [List.getD_eq_getElem?_getD,List.getElem?_eq_getElem (by omega)];rfl)]
  obtain ⟨S,hS⟩:∃ S:Sgn,S=Sgn.of l:=⟨_,rfl⟩
  obtain ⟨x8,hx8⟩:∃ x:UInt8,x=l.getD 8 0:=⟨_,rfl⟩
  have z3:W1.cell? ⟨b,o+3,none⟩=some (.int .u8 (S.a.toNat:Int)):=by rw [hS];exact cell 3 (by omega)
  have z4:W1.cell? ⟨b,o+4,none⟩=some (.int .u8 (S.b.toNat:Int)):=by rw [hS];exact cell 4 (by omega)
  have z5:W1.cell? ⟨b,o+5,none⟩=some (.int .u8 (S.c.toNat:Int)):=by rw [hS];exact cell 5 (by omega)
  have z6:W1.cell? ⟨b,o+6,none⟩=some (.int .u8 (S.d.toNat:Int)):=by rw [hS];exact cell 6 (by omega)
  have z7:W1.cell? ⟨b,o+7,none⟩=some (.int .u8 (S.e.toNat:Int)):=by rw [hS];exact cell 7 (by omega)
  have z8:W1.cell? ⟨b,o+8,none⟩=some (.int .u8 (x8.toNat:Int)):=by rw [hx8];exact cell 8 (by omega)
  have HSS:=hid hS
  have HX8:=hid hx8
  clear hS hx8
  clear cell
  have i3:(3:Int)<n:=by omega
  have i4:(4:Int)<n:=by omega
  have i5:(5:Int)<n:=by omega
  have i6:(6:Int)<n:=by omega
  have i7:(7:Int)<n:=by omega
  have HR1:=hid hr1
  have HH1:=hid hg1
  clear hr1 hg1
  have hbw:b<W1.heap.size:=by
    obtain ⟨b',o',e,hb',_⟩:=HS1.out.at_ (by omega)
    cases e
    exact hb'
  have hbne:b≠W1.heap.size:=by omega
  have hbne':¬ W1.heap.size=b:=by omega
  have Z8:=hid z8
  clear z8
  go_region
  have hr2:((W1.alloc (.cells #[.int .u8 (S.a.toNat:Int),.int .u8 (S.b.toNat:Int),.int .u8 (S.c.toNat:Int),.int .u8 (S.d.toNat:Int),.int .u8 (S.e.toNat:Int)] 109)).drew).heap[W1.heap.size]?=some (.cells #[.int .u8 (S.a.toNat:Int),.int .u8 (S.b.toNat:Int),.int .u8 (S.c.toNat:Int),.int .u8 (S.d.toNat:Int),.int .u8 (S.e.toNat:Int)] 109):=heap_alloc_new W1 (.cells #[.int .u8 (S.a.toNat:Int),.int .u8 (S.b.toNat:Int),.int .u8 (S.c.toNat:Int),.int .u8 (S.d.toNat:Int),.int .u8 (S.e.toNat:Int)] 109)
  have HS2:Hid (Bs ((W1.alloc (.cells #[.int .u8 (S.a.toNat:Int),.int .u8 (S.b.toNat:Int),.int .u8 (S.c.toNat:Int),.int .u8 (S.d.toNat:Int),.int .u8 (S.e.toNat:Int)] 109)).drew) (some ⟨b,o,none⟩) n c l):=hid (HS1.out.alloc (.cells #[.int .u8 (S.a.toNat:Int),.int .u8 (S.b.toNat:Int),.int .u8 (S.c.toNat:Int),.int .u8 (S.d.toNat:Int),.int .u8 (S.e.toNat:Int)] 109)).drew
  have hb2:Below W1.heap.size W1 ((W1.alloc (.cells #[.int .u8 (S.a.toNat:Int),.int .u8 (S.b.toNat:Int),.int .u8 (S.c.toNat:Int),.int .u8 (S.d.toNat:Int),.int .u8 (S.e.toNat:Int)] 109)).drew):=((Below.refl _ W1).alloc (Nat.le_refl _) _).drew
  have HB2:Hid (Below w.heap.size w ((W1.alloc (.cells #[.int .u8 (S.a.toNat:Int),.int .u8 (S.b.toNat:Int),.int .u8 (S.c.toNat:Int),.int .u8 (S.d.toNat:Int),.int .u8 (S.e.toNat:Int)] 109)).drew)):=hid (HB1'.out.trans (hb2.mono HB1'.out.size))
  have HR2:Hid (((W1.alloc (.cells #[.int .u8 (S.a.toNat:Int),.int .u8 (S.b.toNat:Int),.int .u8 (S.c.toNat:Int),.int .u8 (S.d.toNat:Int),.int .u8 (S.e.toNat:Int)] 109)).drew).heap[G1]?=some (.cells #[.int .u8 0,.int .u8 0,.int .u8 0,.int .u8 0,.int .u8 0] 109)):=hid (by rw [hb2.block _ HH1.out];exact HR1.out)
  have HG2:Hid (G1<((W1.alloc (.cells #[.int .u8 (S.a.toNat:Int),.int .u8 (S.b.toNat:Int),.int .u8 (S.c.toNat:Int),.int .u8 (S.d.toNat:Int),.int .u8 (S.e.toNat:Int)] 109)).drew).heap.size):=hid (Nat.lt_of_lt_of_le HH1.out hb2.size)
  have HGG:Hid (W1.heap.size<((W1.alloc (.cells #[.int .u8 (S.a.toNat:Int),.int .u8 (S.b.toNat:Int),.int .u8 (S.c.toNat:Int),.int .u8 (S.d.toNat:Int),.int .u8 (S.e.toNat:Int)] 109)).drew).heap.size):=hid (by show _<(W1.alloc (.cells #[.int .u8 (S.a.toNat:Int),.int .u8 (S.b.toNat:Int),.int .u8 (S.c.toNat:Int),.int .u8 (S.d.toNat:Int),.int .u8 (S.e.toNat:Int)] 109)).heap.size;simp)
  have HZ8:Hid (((W1.alloc (.cells #[.int .u8 (S.a.toNat:Int),.int .u8 (S.b.toNat:Int),.int .u8 (S.c.toNat:Int),.int .u8 (S.d.toNat:Int),.int .u8 (S.e.toNat:Int)] 109)).drew).cell? ⟨b,o+8,none⟩=some (.int .u8 (x8.toNat:Int))):=hid (by rw [hb2.cell (p:=⟨b,o+8,none⟩) hbw];exact Z8.out)
  obtain ⟨G2,hG2⟩:∃ G,G=W1.heap.size:=⟨_,rfl⟩
  have HNE:Hid (G2≠G1):=hid (by have:=HH1.out;omega)
  clear hb2 hbne hbne' z3 z4 z5 z6 z7 i3 i4 i5 i6 i7 HS1 HB1' HR1 HH1 Z8
  generalize (W1.alloc (.cells #[.int .u8 (S.a.toNat:Int),.int .u8 (S.b.toNat:Int),.int .u8 (S.c.toNat:Int),.int .u8 (S.d.toNat:Int),.int .u8 (S.e.toNat:Int)] 109)).drew=W2 at *
  rw [← hG2] at hr2 HGG ⊢
  clear hG2
  have q0:=cell_of_row W2 G2 0 _ _ _ hr2
  have q1:=cell_of_row W2 G2 1 _ _ _ hr2
  have q2:=cell_of_row W2 G2 2 _ _ _ hr2
  have q3:=cell_of_row W2 G2 3 _ _ _ hr2
  have q4:=cell_of_row W2 G2 4 _ _ _ hr2
  simp only [List.getElem?_toArray,List.getElem?_cons_zero,List.getElem?_cons_succ] at q0 q1 q2 q3 q4
  have HR3:=hid hr2
  clear hr2
  have hcv:=(Bs.take HS2.out (j:=3) (by omega)).str (P:=Tryz.prog) 40 5 9 Tryz.underlying40 Tryz.underlying5 Tryz.underlying9
  have hc3:(3:Int)≤c:=by have:=HS2.out.le;omega
  have HRD:Hid (readD l=if l.take 3≠[77,83,72]∨S.good=false then (Sgn.zero,11) else if x8≠S.a∧x8≠13 then (Sgn.zero,11) else (S,0)):=hid (by unfold readD;rw [if_neg (by rw [hlen];omega),← HSS.out,← HX8.out,show l.getD 3 0=S.a from by rw [HSS.out];rfl])
  have ZC:∀ w3:World,Below W2.heap.size W2 w3→w3.heap[G1]?=some (.cells #[.int .u8 0,.int .u8 0,.int .u8 0,.int .u8 0,.int .u8 0] 109)∧w3.cell? ⟨b,o+8,none⟩=some (.int .u8 (x8.toNat:Int))∧w3.heap[G2]?=some (.cells #[.int .u8 (S.a.toNat:Int),.int .u8 (S.b.toNat:Int),.int .u8 (S.c.toNat:Int),.int .u8 (S.d.toNat:Int),.int .u8 (S.e.toNat:Int)] 109):=fun w3 h3=>⟨by rw [h3.block _ HG2.out];exact HR2.out,by
    obtain ⟨b',o',e,hb',_⟩:=HS2.out.at_ (by omega)
    cases e
    rw [h3.cell (p:=⟨b,o+8,none⟩) hb'];exact HZ8.out,by rw [h3.block _ HGG.out];exact HR3.out⟩
  have ZCH:=hid ZC
  clear ZC
  have hm:=Khm.out;clear Khm
  rw [hm] at hcv
  have HM:=hid hm
  go_wp2_with (fail)
  refine (delimRight S W2).mono ?_
  rintro e w3 ⟨rfl,hb3⟩
  have hz:=ZCH.out w3 hb3
  have HB3:Hid (Below w.heap.size w w3):=hid (HB2.out.trans (hb3.mono HB2.out.size))
  clear hb3 q0 q1 q2 q3 q4 hcv ZCH
  have HR1:=hid hz.1
  have HR3':=hid hz.2.2
  have z8:=hz.2.1
  clear hz
  have hgd:S.good=true:=by rw [HSS.out];exact Khgd.out
  clear Khgd
  rw [hgd]
  have i8:(8:Int)<n:=by omega
  have q0:=cell_of_row (w3) G2 0 _ _ _ HR3'.out
  have q1:=cell_of_row (w3) G2 1 _ _ _ HR3'.out
  have q2:=cell_of_row (w3) G2 2 _ _ _ HR3'.out
  have q3:=cell_of_row (w3) G2 3 _ _ _ HR3'.out
  have q4:=cell_of_row (w3) G2 4 _ _ _ HR3'.out
  simp only [List.getElem?_toArray,List.getElem?_cons_zero,List.getElem?_cons_succ] at q0 q1 q2 q3 q4
  have h1:¬ x8=S.a:=by rw [HX8.out,HSS.out];exact Kh1.out
  clear Kh1
  have d1:((x8.toNat:Int) == (S.a.toNat:Int))=false:=by rw [beq_eq_false_iff_ne];exact fun h=>h1 (UInt8.toNat_inj.1 (by omega))
  have d2:((x8.toNat:Int) != (S.a.toNat:Int))=true:=by rw [bne_iff_ne];exact fun h=>h1 (UInt8.toNat_inj.1 (by omega))
  have h2:x8=13:=by rw [HX8.out];exact Kh2.out
  clear Kh2
  have HRZ:=hid (show readD l=(S,0) from by rw [HRD.out,if_neg (by simp [HM.out,hgd]),if_neg (fun h=>h.2 h2)])
  clear HRD
  have d3:((x8.toNat:Int) != 13)=false:=by rw [h2];decide
  have d4:((x8.toNat:Int) == 13)=true:=by rw [h2];decide
  clear h1 h2
  go_wp2_with (fail)
  go_quiet (fail)
  clear z8
  have c0:=cell_of_row (w3) G1 0 _ _ _ HR1.out
  have c1:=cell_of_row (w3) G1 1 _ _ _ HR1.out
  have c2:=cell_of_row (w3) G1 2 _ _ _ HR1.out
  have c3:=cell_of_row (w3) G1 3 _ _ _ HR1.out
  have c4:=cell_of_row (w3) G1 4 _ _ _ HR1.out
  simp only [List.getElem?_toArray,List.getElem?_cons_zero,List.getElem?_cons_succ] at c0 c1 c2 c3 c4
  have f0:=frozen_of (W:=w3) HR1.out 0
  have f1:=frozen_of (W:=w3) HR1.out 1
  have f2:=frozen_of (W:=w3) HR1.out 2
  have f3:=frozen_of (W:=w3) HR1.out 3
  have f4:=frozen_of (W:=w3) HR1.out 4
  go_wp2_with (fail)
  clear q0 q1 q2 q3 q4
  clear c0 c1 c2 c3 c4 f0 f1 f2 f3 f4
  have hrow:=setFive_row (W:=(w3.drewN nq)) HR1.out (.int .u8 (S.a.toNat:Int)) (.int .u8 (S.b.toNat:Int)) (.int .u8 (S.c.toNat:Int)) (.int .u8 (S.d.toNat:Int)) (.int .u8 (S.e.toNat:Int))
  have hbel:=setFive_below (W:=(w3.drewN nq)) (drawN_below HB3.out nq) HG1.out (.int .u8 (S.a.toNat:Int)) (.int .u8 (S.b.toNat:Int)) (.int .u8 (S.c.toNat:Int)) (.int .u8 (S.d.toNat:Int)) (.int .u8 (S.e.toNat:Int))
  unfold setFive at hrow hbel
  generalize ((((((w3.drewN nq).setCell ⟨G1,0,none⟩ (.int .u8 (S.a.toNat:Int))).setCell ⟨G1,1,none⟩ (.int .u8 (S.b.toNat:Int))).setCell ⟨G1,2,none⟩ (.int .u8 (S.c.toNat:Int))).setCell ⟨G1,3,none⟩ (.int .u8 (S.d.toNat:Int))).setCell ⟨G1,4,none⟩ (.int .u8 (S.e.toNat:Int)))=W5 at hrow hbel ⊢
  have c0:=cell_of_row _ G1 0 _ _ _ hrow
  have c1:=cell_of_row _ G1 1 _ _ _ hrow
  have c2:=cell_of_row _ G1 2 _ _ _ hrow
  have c3:=cell_of_row _ G1 3 _ _ _ hrow
  have c4:=cell_of_row _ G1 4 _ _ _ hrow
  simp only [List.getElem?_toArray,List.getElem?_cons_zero,List.getElem?_cons_succ] at c0 c1 c2 c3 c4
  exact bodyPost_ret (v:=.tuple #[dlm (S.a.toNat:Int) (S.b.toNat:Int) (S.c.toNat:Int) (S.d.toNat:Int) (S.e.toNat:Int),.int .i64 0]) (by simp [results,Tryz.results102,go_sem,c0,c1,c2,c3,c4]) rfl ⟨by rw [HRZ.out],hbel⟩
end
section
open Go.RowKit
set_option maxHeartbeats 1000000 in
set_option maxRecDepth 100000 in
theorem delimRead_other (A:Option Addr) (n c:Nat) (l:List UInt8) (w:World) (hB:Bs w A n c l) (h9:¬ (n:Int)<9) (hm:l.take 3=[77,83,72]) (hgd:(Sgn.of l).good=true) (h1:¬ l.getD 8 0=l.getD 3 0) (h2:¬ l.getD 8 0=13) :
    Calls Tryz.prog 102 #[.slice A n c] w fun e w'=>e=.returned (.tuple #[(readD l).1.v,.int .i64 (readD l).2])∧Below w.heap.size w w':=by
  have Khm:=hid hm;clear hm
  have Khgd:=hid hgd;clear hgd
  have Kh1:=hid h1;clear h1
  have Kh2:=hid h2;clear h2
  have hn:=hB.nmax
  have HL:=hid hB.len
  have HB:=hid hB;clear hB
  have h8:9≤n:=by omega
  obtain ⟨b,o,rfl,hb,hc⟩:=HB.out.at_ (by omega)
  go_enter Tryz.func102,Tryz.ntmps102
  go_wp2_with (fail)
  have hlen:=HL.out
  have hr1:=heap_alloc_new w (.cells #[.int .u8 0,.int .u8 0,.int .u8 0,.int .u8 0,.int .u8 0] 109)
  have hg1:w.heap.size<(w.alloc (.cells #[.int .u8 0,.int .u8 0,.int .u8 0,.int .u8 0,.int .u8 0] 109)).heap.size:=by simp
  have HB1:Hid (Below w.heap.size w (w.alloc (.cells #[.int .u8 0,.int .u8 0,.int .u8 0,.int .u8 0,.int .u8 0] 109))):=hid ((Below.refl _ w).alloc (Nat.le_refl _) _)
  have HS1:=hid (HB.out.alloc (.cells #[.int .u8 0,.int .u8 0,.int .u8 0,.int .u8 0,.int .u8 0] 109))
  clear HB hb hc
  obtain ⟨G1,hG⟩:∃ G,G=w.heap.size:=⟨_,rfl⟩
  have HG1:Hid (w.heap.size≤G1):=hid (by omega)
  generalize w.alloc (.cells #[.int .u8 0,.int .u8 0,.int .u8 0,.int .u8 0,.int .u8 0] 109)=W1 at *
  rw [← hG] at hr1 hg1 ⊢
  have HB1':Hid (Below w.heap.size w W1):=hid (by first | exact HB1.out | (rw [← hG];exact HB1.out))
  clear hG HB1
  have cell:∀ k,k<n→W1.cell? ⟨b,o+k,none⟩=some (.int .u8 ((l.getD k 0).toNat:Int)):=by
    intro k hk
    obtain ⟨b',o',e,_,hc⟩:=HS1.out.at_ (by omega)
    cases e
    rw [hc k (l.getD k 0) (by rw [List.getD_eq_getElem?_getD,List.getElem?_eq_getElem (by omega)];rfl)]
  obtain ⟨S,hS⟩:∃ S:Sgn,S=Sgn.of l:=⟨_,rfl⟩
  obtain ⟨x8,hx8⟩:∃ x:UInt8,x=l.getD 8 0:=⟨_,rfl⟩
  have z3:W1.cell? ⟨b,o+3,none⟩=some (.int .u8 (S.a.toNat:Int)):=by rw [hS];exact cell 3 (by omega)
  have z4:W1.cell? ⟨b,o+4,none⟩=some (.int .u8 (S.b.toNat:Int)):=by rw [hS];exact cell 4 (by omega)
  have z5:W1.cell? ⟨b,o+5,none⟩=some (.int .u8 (S.c.toNat:Int)):=by rw [hS];exact cell 5 (by omega)
  have z6:W1.cell? ⟨b,o+6,none⟩=some (.int .u8 (S.d.toNat:Int)):=by rw [hS];exact cell 6 (by omega)
  have z7:W1.cell? ⟨b,o+7,none⟩=some (.int .u8 (S.e.toNat:Int)):=by rw [hS];exact cell 7 (by omega)
  have z8:W1.cell? ⟨b,o+8,none⟩=some (.int .u8 (x8.toNat:Int)):=by rw [hx8];exact cell 8 (by omega)
  have HSS:=hid hS
  have HX8:=hid hx8
  clear hS hx8
  clear cell
  have i3:(3:Int)<n:=by omega
  have i4:(4:Int)<n:=by omega
  have i5:(5:Int)<n:=by omega
  have i6:(6:Int)<n:=by omega
  have i7:(7:Int)<n:=by omega
  have HR1:=hid hr1
  have HH1:=hid hg1
  clear hr1 hg1
  have hbw:b<W1.heap.size:=by
    obtain ⟨b',o',e,hb',_⟩:=HS1.out.at_ (by omega)
    cases e
    exact hb'
  have hbne:b≠W1.heap.size:=by omega
  have hbne':¬ W1.heap.size=b:=by omega
  have Z8:=hid z8
  clear z8
  go_region
  have hr2:((W1.alloc (.cells #[.int .u8 (S.a.toNat:Int),.int .u8 (S.b.toNat:Int),.int .u8 (S.c.toNat:Int),.int .u8 (S.d.toNat:Int),.int .u8 (S.e.toNat:Int)] 109)).drew).heap[W1.heap.size]?=some (.cells #[.int .u8 (S.a.toNat:Int),.int .u8 (S.b.toNat:Int),.int .u8 (S.c.toNat:Int),.int .u8 (S.d.toNat:Int),.int .u8 (S.e.toNat:Int)] 109):=heap_alloc_new W1 (.cells #[.int .u8 (S.a.toNat:Int),.int .u8 (S.b.toNat:Int),.int .u8 (S.c.toNat:Int),.int .u8 (S.d.toNat:Int),.int .u8 (S.e.toNat:Int)] 109)
  have HS2:Hid (Bs ((W1.alloc (.cells #[.int .u8 (S.a.toNat:Int),.int .u8 (S.b.toNat:Int),.int .u8 (S.c.toNat:Int),.int .u8 (S.d.toNat:Int),.int .u8 (S.e.toNat:Int)] 109)).drew) (some ⟨b,o,none⟩) n c l):=hid (HS1.out.alloc (.cells #[.int .u8 (S.a.toNat:Int),.int .u8 (S.b.toNat:Int),.int .u8 (S.c.toNat:Int),.int .u8 (S.d.toNat:Int),.int .u8 (S.e.toNat:Int)] 109)).drew
  have hb2:Below W1.heap.size W1 ((W1.alloc (.cells #[.int .u8 (S.a.toNat:Int),.int .u8 (S.b.toNat:Int),.int .u8 (S.c.toNat:Int),.int .u8 (S.d.toNat:Int),.int .u8 (S.e.toNat:Int)] 109)).drew):=((Below.refl _ W1).alloc (Nat.le_refl _) _).drew
  have HB2:Hid (Below w.heap.size w ((W1.alloc (.cells #[.int .u8 (S.a.toNat:Int),.int .u8 (S.b.toNat:Int),.int .u8 (S.c.toNat:Int),.int .u8 (S.d.toNat:Int),.int .u8 (S.e.toNat:Int)] 109)).drew)):=hid (HB1'.out.trans (hb2.mono HB1'.out.size))
  have HR2:Hid (((W1.alloc (.cells #[.int .u8 (S.a.toNat:Int),.int .u8 (S.b.toNat:Int),.int .u8 (S.c.toNat:Int),.int .u8 (S.d.toNat:Int),.int .u8 (S.e.toNat:Int)] 109)).drew).heap[G1]?=some (.cells #[.int .u8 0,.int .u8 0,.int .u8 0,.int .u8 0,.int .u8 0] 109)):=hid (by rw [hb2.block _ HH1.out];exact HR1.out)
  have HG2:Hid (G1<((W1.alloc (.cells #[.int .u8 (S.a.toNat:Int),.int .u8 (S.b.toNat:Int),.int .u8 (S.c.toNat:Int),.int .u8 (S.d.toNat:Int),.int .u8 (S.e.toNat:Int)] 109)).drew).heap.size):=hid (Nat.lt_of_lt_of_le HH1.out hb2.size)
  have HGG:Hid (W1.heap.size<((W1.alloc (.cells #[.int .u8 (S.a.toNat:Int),.int .u8 (S.b.toNat:Int),.int .u8 (S.c.toNat:Int),.int .u8 (S.d.toNat:Int),.int .u8 (S.e.toNat:Int)] 109)).drew).heap.size):=hid (by show _<(W1.alloc (.cells #[.int .u8 (S.a.toNat:Int),.int .u8 (S.b.toNat:Int),.int .u8 (S.c.toNat:Int),.int .u8 (S.d.toNat:Int),.int .u8 (S.e.toNat:Int)] 109)).heap.size;simp)
  have HZ8:Hid (((W1.alloc (.cells #[.int .u8 (S.a.toNat:Int),.int .u8 (S.b.toNat:Int),.int .u8 (S.c.toNat:Int),.int .u8 (S.d.toNat:Int),.int .u8 (S.e.toNat:Int)] 109)).drew).cell? ⟨b,o+8,none⟩=some (.int .u8 (x8.toNat:Int))):=hid (by rw [hb2.cell (p:=⟨b,o+8,none⟩) hbw];exact Z8.out)
  obtain ⟨G2,hG2⟩:∃ G,G=W1.heap.size:=⟨_,rfl⟩
  have HNE:Hid (G2≠G1):=hid (by have:=HH1.out;omega)
  clear hb2 hbne hbne' z3 z4 z5 z6 z7 i3 i4 i5 i6 i7 HS1 HB1' HR1 HH1 Z8
  generalize (W1.alloc (.cells #[.int .u8 (S.a.toNat:Int),.int .u8 (S.b.toNat:Int),.int .u8 (S.c.toNat:Int),.int .u8 (S.d.toNat:Int),.int .u8 (S.e.toNat:Int)] 109)).drew=W2 at *
  rw [← hG2] at hr2 HGG ⊢
  clear hG2
  have q0:=cell_of_row W2 G2 0 _ _ _ hr2
  have q1:=cell_of_row W2 G2 1 _ _ _ hr2
  have q2:=cell_of_row W2 G2 2 _ _ _ hr2
  have q3:=cell_of_row W2 G2 3 _ _ _ hr2
  have q4:=cell_of_row W2 G2 4 _ _ _ hr2
  simp only [List.getElem?_toArray,List.getElem?_cons_zero,List.getElem?_cons_succ] at q0 q1 q2 q3 q4
  have HR3:=hid hr2
  clear hr2
  have hcv:=(Bs.take HS2.out (j:=3) (by omega)).str (P:=Tryz.prog) 40 5 9 Tryz.underlying40 Tryz.underlying5 Tryz.underlying9
  have hc3:(3:Int)≤c:=by have:=HS2.out.le;omega
  have HRD:Hid (readD l=if l.take 3≠[77,83,72]∨S.good=false then (Sgn.zero,11) else if x8≠S.a∧x8≠13 then (Sgn.zero,11) else (S,0)):=hid (by unfold readD;rw [if_neg (by rw [hlen];omega),← HSS.out,← HX8.out,show l.getD 3 0=S.a from by rw [HSS.out];rfl])
  have ZC:∀ w3:World,Below W2.heap.size W2 w3→w3.heap[G1]?=some (.cells #[.int .u8 0,.int .u8 0,.int .u8 0,.int .u8 0,.int .u8 0] 109)∧w3.cell? ⟨b,o+8,none⟩=some (.int .u8 (x8.toNat:Int))∧w3.heap[G2]?=some (.cells #[.int .u8 (S.a.toNat:Int),.int .u8 (S.b.toNat:Int),.int .u8 (S.c.toNat:Int),.int .u8 (S.d.toNat:Int),.int .u8 (S.e.toNat:Int)] 109):=fun w3 h3=>⟨by rw [h3.block _ HG2.out];exact HR2.out,by
    obtain ⟨b',o',e,hb',_⟩:=HS2.out.at_ (by omega)
    cases e
    rw [h3.cell (p:=⟨b,o+8,none⟩) hb'];exact HZ8.out,by rw [h3.block _ HGG.out];exact HR3.out⟩
  have ZCH:=hid ZC
  clear ZC
  have hm:=Khm.out;clear Khm
  rw [hm] at hcv
  have HM:=hid hm
  go_wp2_with (fail)
  refine (delimRight S W2).mono ?_
  rintro e w3 ⟨rfl,hb3⟩
  have hz:=ZCH.out w3 hb3
  have HB3:Hid (Below w.heap.size w w3):=hid (HB2.out.trans (hb3.mono HB2.out.size))
  clear hb3 q0 q1 q2 q3 q4 hcv ZCH
  have HR1:=hid hz.1
  have HR3':=hid hz.2.2
  have z8:=hz.2.1
  clear hz
  have hgd:S.good=true:=by rw [HSS.out];exact Khgd.out
  clear Khgd
  rw [hgd]
  have i8:(8:Int)<n:=by omega
  have q0:=cell_of_row (w3) G2 0 _ _ _ HR3'.out
  have q1:=cell_of_row (w3) G2 1 _ _ _ HR3'.out
  have q2:=cell_of_row (w3) G2 2 _ _ _ HR3'.out
  have q3:=cell_of_row (w3) G2 3 _ _ _ HR3'.out
  have q4:=cell_of_row (w3) G2 4 _ _ _ HR3'.out
  simp only [List.getElem?_toArray,List.getElem?_cons_zero,List.getElem?_cons_succ] at q0 q1 q2 q3 q4
  have h1:¬ x8=S.a:=by rw [HX8.out,HSS.out];exact Kh1.out
  clear Kh1
  have d1:((x8.toNat:Int) == (S.a.toNat:Int))=false:=by rw [beq_eq_false_iff_ne];exact fun h=>h1 (UInt8.toNat_inj.1 (by omega))
  have d2:((x8.toNat:Int) != (S.a.toNat:Int))=true:=by rw [bne_iff_ne];exact fun h=>h1 (UInt8.toNat_inj.1 (by omega))
  have h2:¬ x8=13:=by rw [HX8.out];exact Kh2.out
  clear Kh2
  have HRZ:=hid (show readD l=(Sgn.zero,11) from by rw [HRD.out,if_neg (by simp [HM.out,hgd]),if_pos ⟨h1,h2⟩])
  clear HRD
  have d3:((x8.toNat:Int) != 13)=true:=by rw [bne_iff_ne];exact fun h=>h2 (UInt8.toNat_inj.1 (by show _=13;omega))
  have d4:((x8.toNat:Int) == 13)=false:=by rw [beq_eq_false_iff_ne];exact fun h=>h2 (UInt8.toNat_inj.1 (by show _=13;omega))
  clear h1 h2
  go_wp2_with (fail)
  go_quiet (fail)
  clear z8
  have c0:=cell_of_row (w3) G1 0 _ _ _ HR1.out
  have c1:=cell_of_row (w3) G1 1 _ _ _ HR1.out
  have c2:=cell_of_row (w3) G1 2 _ _ _ HR1.out
  have c3:=cell_of_row (w3) G1 3 _ _ _ HR1.out
  have c4:=cell_of_row (w3) G1 4 _ _ _ HR1.out
  simp only [List.getElem?_toArray,List.getElem?_cons_zero,List.getElem?_cons_succ] at c0 c1 c2 c3 c4
  have f0:=frozen_of (W:=w3) HR1.out 0
  have f1:=frozen_of (W:=w3) HR1.out 1
  have f2:=frozen_of (W:=w3) HR1.out 2
  have f3:=frozen_of (W:=w3) HR1.out 3
  have f4:=frozen_of (W:=w3) HR1.out 4
  go_wp2_with (fail)
  clear q0 q1 q2 q3 q4
  clear c0 c1 c2 c3 c4 f0 f1 f2 f3 f4
  have hrow:=setFive_row (W:=(w3.drewN nq)) HR1.out (.int .u8 0) (.int .u8 0) (.int .u8 0) (.int .u8 0) (.int .u8 0)
  have hbel:=setFive_below (W:=(w3.drewN nq)) (drawN_below HB3.out nq) HG1.out (.int .u8 0) (.int .u8 0) (.int .u8 0) (.int .u8 0) (.int .u8 0)
  unfold setFive at hrow hbel
  generalize ((((((w3.drewN nq).setCell ⟨G1,0,none⟩ (.int .u8 0)).setCell ⟨G1,1,none⟩ (.int .u8 0)).setCell ⟨G1,2,none⟩ (.int .u8 0)).setCell ⟨G1,3,none⟩ (.int .u8 0)).setCell ⟨G1,4,none⟩ (.int .u8 0))=W5 at hrow hbel ⊢
  have c0:=cell_of_row _ G1 0 _ _ _ hrow
  have c1:=cell_of_row _ G1 1 _ _ _ hrow
  have c2:=cell_of_row _ G1 2 _ _ _ hrow
  have c3:=cell_of_row _ G1 3 _ _ _ hrow
  have c4:=cell_of_row _ G1 4 _ _ _ hrow
  simp only [List.getElem?_toArray,List.getElem?_cons_zero,List.getElem?_cons_succ] at c0 c1 c2 c3 c4
  exact bodyPost_ret (v:=.tuple #[dlm 0 0 0 0 0,.int .i64 11]) (by simp [results,Tryz.results102,go_sem,c0,c1,c2,c3,c4]) rfl ⟨by rw [HRZ.out];rfl,hbel⟩
end
section
open Go.RowKit
theorem delimRead (A:Option Addr) (n c:Nat) (l:List UInt8) (w:World) (hB:Bs w A n c l) :
    Calls Tryz.prog 102 #[.slice A n c] w fun e w'=>e=.returned (.tuple #[(readD l).1.v,.int .i64 (readD l).2])∧Below w.heap.size w w':=by
  by_cases h9:(n:Int)<9
  · exact delimRead_short A n c l w hB h9
  by_cases hm:l.take 3=[77,83,72]
  · cases hgd:(Sgn.of l).good
    · exact delimRead_bad A n c l w hB h9 hm hgd
    · by_cases h1:l.getD 8 0=l.getD 3 0
      · exact delimRead_first A n c l w hB h9 hm hgd h1
      · by_cases h2:l.getD 8 0=13
        · exact delimRead_tail A n c l w hB h9 hm hgd h1 h2
        · exact delimRead_other A n c l w hB h9 hm hgd h1 h2
  · exact delimRead_head A n c l w hB h9 hm
end
section
open Go.RowKit
theorem txt_app (a b:List UInt8):txt a++txt b=txt (a++b):=by
  apply ByteArray.ext
  simp [txt]
theorem txt_size (a:List UInt8):(txt a).size=a.length:=by simp [ByteArray.size]
structure Conv (W:World) (base n cap g:Nat) (xs:List UInt8):Prop where
  hb:base≤g
  hg:g<W.heap.size
  hn:xs.length=n
  hc:n≤cap
  hm:cap≤maxLen
  cell:∀ i x,xs[i]?=some x→W.cell? ⟨g,i,none⟩=some (u8 x)
  there:∀ j,j<cap→(W.cell? ⟨g,j,none⟩).isSome=true
  free:∀ j,j<cap→W.frozen? ⟨g,j,none⟩=false
section
variable {P:Program}
theorem Conv.bs {W:World} {base n cap g:Nat} {xs:List UInt8} (h:Conv W base n cap g xs):Bs W (some ⟨g,0,none⟩) n cap xs :=
  ⟨h.hn,h.hc,h.hm,fun _=>⟨g,0,rfl,fun i x hx=>by rw [Nat.zero_add];exact h.cell i x hx⟩⟩
theorem conv_run (w:World) (src dst e:TypeId) (s:ByteArray) {u:TypeDesc} (hs:P.underlying src=some u) (hd:P.underlying dst=some (.slice e)) (he:P.underlying e=some (.int .u8)) (base:Nat) (hb:base≤w.heap.size) (hl:s.size≤maxLen) :
    ∃ cap W,(convert src dst (.string s)).run P w=.ok (.slice (some ⟨w.heap.size,0,none⟩) s.size cap) W∧Conv W base s.size cap w.heap.size s.data.toList∧Below w.heap.size w W:=by
  refine ⟨_,_,Lib.run_convert_string_bytes w src dst e s hs hd he,⟨hb,?_,?_,grownCap_ge _ _ _ _,grownCap_le_maxLen _ _ _ _ hl,?_,?_,?_⟩,?_⟩
  · rw [Lib.bytesWorld_size];omega
  · rw [Array.length_toList];rfl
  · intro i x hx
    have hi:=(List.getElem?_eq_some_iff.1 hx).1
    rw [Lib.bytesWorld_cell w e s i (by rw [Array.length_toList] at hi;exact hi),List.getD_eq_getElem?_getD,hx]
    rfl
  · intro j hj
    have hge:=grownCap_ge w s.size 0 e
    have hz:(Lib.bytesCells w e s).size=grownCap w s.size 0 e:=by
      simp only [Lib.bytesCells,Array.size_append,Array.size_map,Array.size_replicate]
      have:s.data.size=s.size:=rfl
      omega
    rw [cell_of_row _ _ _ _ _ _ (Lib.bytesWorld_at_new w e s),Array.getElem?_eq_getElem (by omega)]
    rfl
  · intro j hj
    have hge:=grownCap_ge w s.size 0 e
    have hz:(Lib.bytesCells w e s).size=grownCap w s.size 0 e:=by
      simp only [Lib.bytesCells,Array.size_append,Array.size_map,Array.size_replicate]
      have:s.data.size=s.size:=rfl
      omega
    simp only [World.frozen?,Lib.bytesWorld_at_new w e s,Bool.and_eq_false_iff,decide_eq_false_iff_not]
    left
    omega
  · refine ⟨rfl,rfl,rfl,?_,fun k hk=>Lib.bytesWorld_at_old w e s k hk⟩
    rw [Lib.bytesWorld_size];omega
theorem conv_list (w:World) (src dst e:TypeId) (l:List UInt8) (N:Nat) {u:TypeDesc} (hs:P.underlying src=some u) (hd:P.underlying dst=some (.slice e)) (he:P.underlying e=some (.int .u8)) (hN:l.length=N) (hl:N≤maxLen) :
    ∃ cap W,(convert src dst (.string (txt l))).run P w=.ok (.slice (some ⟨w.heap.size,0,none⟩) N cap) W∧Conv W w.heap.size N cap w.heap.size l∧Below w.heap.size w W:=by
  have h:=conv_run (P:=P) w src dst e (txt l) hs hd he w.heap.size (Nat.le_refl _) (by rw [txt_size,hN];exact hl)
  rwa [txt_size,hN] at h
theorem Bs.src (src e:TypeId) (hs:P.underlying src=some (.slice e)) {W:World} {A:Option Addr} {m c:Nat} {l:List UInt8} (h:Bs W A m c l):Src P 1 src (.slice A m c) m (u8s l) W:=by
  have hlen:=h.len
  rcases A with _|a
  · have hm:m=0:=by
      rcases Nat.eq_zero_or_pos m with h0|h0
      · exact h0
      · obtain ⟨b,o,e,_⟩:=h.2.2.2 h0
        cases e
    subst hm
    obtain rfl:=h.empty
    exact Src.ofNil W hs c
  · refine Src.ofSlice W hs a m c (u8s l) (by simp [hlen]) (fun j u hu=>?_) (u8s_one l)
    obtain ⟨x,hx,rfl⟩:=u8s_get hu
    have hm:0<m:=by have:=(List.getElem?_eq_some_iff.1 hx).1;omega
    obtain ⟨b,o,e,_,hc⟩:=h.at_ hm
    injection e with e
    subst e
    rw [Addr.add_lit]
    exact hc j x hx
end
end
end Go.Proofs.YtodjilljcjkacaaGreatDoor
