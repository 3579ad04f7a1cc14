/- Laid together: Ref06c, Ref06d, Ref06e, Ref06f. -/
import Derived.Test.YtodjilljcjkacaaGreatDoorPkIB23
import Derived.BigQuiet

namespace Go.Proofs.YtodjilljcjkacaaGreatDoor
open Lib (hid)
section
open Go.RowKit
set_option maxHeartbeats 1000000 in
set_option maxRecDepth 100000 in
theorem refRead_first (A:Option Addr) (n c:Nat) (l:List UInt8) (w:World) (hB:Bs w A n c l) (h9:¬ (n:Int)<9) (hm:l.take 3=[77,83,72]) (hgd:(Sgn.of l).good=true) (h1:l.getD 8 0=l.getD 3 0) :
    Calls Tryz.prog 119 #[.slice A n c] w fun e w'=>e=.returned (.tuple #[(readD l).1.v,.int .i64 (readD l).2])∧Below w.heap.size w w':=by
  have Khm:=hid hm;clear hm
  have Khgd:=hid hgd;clear hgd
  have Kh1:=hid h1;clear h1
  have hn:=hB.nmax
  have HL:=hid hB.len
  have HB:=hid hB;clear hB
  have h8:9≤n:=by omega
  obtain ⟨b,o,rfl,hb,hc⟩:=HB.out.at_ (by omega)
  go_enter Tryz.func119,Tryz.ntmps119
  go_wp2_with (fail)
  have hlen:=HL.out
  have hr1:=heap_alloc_new w (.cells #[.int .u8 0,.int .u8 0,.int .u8 0,.int .u8 0,.int .u8 0] 109)
  have hg1:w.heap.size<(w.alloc (.cells #[.int .u8 0,.int .u8 0,.int .u8 0,.int .u8 0,.int .u8 0] 109)).heap.size:=by simp
  have HB1:Hid (Below w.heap.size w (w.alloc (.cells #[.int .u8 0,.int .u8 0,.int .u8 0,.int .u8 0,.int .u8 0] 109))):=hid ((Below.refl _ w).alloc (Nat.le_refl _) _)
  have HS1:=hid (HB.out.alloc (.cells #[.int .u8 0,.int .u8 0,.int .u8 0,.int .u8 0,.int .u8 0] 109))
  clear HB hb hc
  obtain ⟨G1,hG⟩:∃ G,G=w.heap.size:=⟨_,rfl⟩
  have HG1:Hid (w.heap.size≤G1):=hid (by omega)
  generalize w.alloc (.cells #[.int .u8 0,.int .u8 0,.int .u8 0,.int .u8 0,.int .u8 0] 109)=W1 at *
  rw [← hG] at hr1 hg1 ⊢
  have HB1':Hid (Below w.heap.size w W1):=hid (by first | exact HB1.out | (rw [← hG];exact HB1.out))
  clear hG HB1
  have cell:∀ k,k<n→W1.cell? ⟨b,o+k,none⟩=some (.int .u8 ((l.getD k 0).toNat:Int)):=by
    intro k hk
    obtain ⟨b',o',e,_,hc⟩:=HS1.out.at_ (by omega)
    cases e
    rw [hc k (l.getD k 0) (by rw [List.getD_eq_getElem?_getD,List.getElem?_eq_getElem (by omega)];rfl)]
  obtain ⟨S,hS⟩:∃ S:Sgn,S=Sgn.of l:=⟨_,rfl⟩
  obtain ⟨x8,hx8⟩:∃ x:UInt8,x=l.getD 8 0:=⟨_,rfl⟩
  have z3:W1.cell? ⟨b,o+3,none⟩=some (.int .u8 (S.a.toNat:Int)):=by rw [hS];exact cell 3 (by omega)
  have z4:W1.cell? ⟨b,o+4,none⟩=some (.int .u8 (S.b.toNat:Int)):=by rw [hS];exact cell 4 (by omega)
  have z5:W1.cell? ⟨b,o+5,none⟩=some (.int .u8 (S.c.toNat:Int)):=by rw [hS];exact cell 5 (by omega)
  have z6:W1.cell? ⟨b,o+6,none⟩=some (.int .u8 (S.d.toNat:Int)):=by rw [hS];exact cell 6 (by omega)
  have z7:W1.cell? ⟨b,o+7,none⟩=some (.int .u8 (S.e.toNat:Int)):=by rw [hS];exact cell 7 (by omega)
  have z8:W1.cell? ⟨b,o+8,none⟩=some (.int .u8 (x8.toNat:Int)):=by rw [hx8];exact cell 8 (by omega)
  have HSS:=hid hS
  have HX8:=hid hx8
  clear hS hx8
  clear cell
  have i3:(3:Int)<n:=by omega
  have i4:(4:Int)<n:=by omega
  have i5:(5:Int)<n:=by omega
  have i6:(6:Int)<n:=by omega
  have i7:(7:Int)<n:=by omega
  have HR1:=hid hr1
  have HH1:=hid hg1
  clear hr1 hg1
  have hbw:b<W1.heap.size:=by
    obtain ⟨b',o',e,hb',_⟩:=HS1.out.at_ (by omega)
    cases e
    exact hb'
  have hbne:b≠W1.heap.size:=by omega
  have hbne':¬ W1.heap.size=b:=by omega
  have Z8:=hid z8
  clear z8
  go_region
  have hr2:((W1.alloc (.cells #[.int .u8 (S.a.toNat:Int),.int .u8 (S.b.toNat:Int),.int .u8 (S.c.toNat:Int),.int .u8 (S.d.toNat:Int),.int .u8 (S.e.toNat:Int)] 109)).drew).heap[W1.heap.size]?=some (.cells #[.int .u8 (S.a.toNat:Int),.int .u8 (S.b.toNat:Int),.int .u8 (S.c.toNat:Int),.int .u8 (S.d.toNat:Int),.int .u8 (S.e.toNat:Int)] 109):=heap_alloc_new W1 (.cells #[.int .u8 (S.a.toNat:Int),.int .u8 (S.b.toNat:Int),.int .u8 (S.c.toNat:Int),.int .u8 (S.d.toNat:Int),.int .u8 (S.e.toNat:Int)] 109)
  have HS2:Hid (Bs ((W1.alloc (.cells #[.int .u8 (S.a.toNat:Int),.int .u8 (S.b.toNat:Int),.int .u8 (S.c.toNat:Int),.int .u8 (S.d.toNat:Int),.int .u8 (S.e.toNat:Int)] 109)).drew) (some ⟨b,o,none⟩) n c l):=hid (HS1.out.alloc (.cells #[.int .u8 (S.a.toNat:Int),.int .u8 (S.b.toNat:Int),.int .u8 (S.c.toNat:Int),.int .u8 (S.d.toNat:Int),.int .u8 (S.e.toNat:Int)] 109)).drew
  have hb2:Below W1.heap.size W1 ((W1.alloc (.cells #[.int .u8 (S.a.toNat:Int),.int .u8 (S.b.toNat:Int),.int .u8 (S.c.toNat:Int),.int .u8 (S.d.toNat:Int),.int .u8 (S.e.toNat:Int)] 109)).drew):=((Below.refl _ W1).alloc (Nat.le_refl _) _).drew
  have HB2:Hid (Below w.heap.size w ((W1.alloc (.cells #[.int .u8 (S.a.toNat:Int),.int .u8 (S.b.toNat:Int),.int .u8 (S.c.toNat:Int),.int .u8 (S.d.toNat:Int),.int .u8 (S.e.toNat:Int)] 109)).drew)):=hid (HB1'.out.trans (hb2.mono HB1'.out.size))
  have HR2:Hid (((W1.alloc (.cells #[.int .u8 (S.a.toNat:Int),.int .u8 (S.b.toNat:Int),.int .u8 (S.c.toNat:Int),.int .u8 (S.d.toNat:Int),.int .u8 (S.e.toNat:Int)] 109)).drew).heap[G1]?=some (.cells #[.int .u8 0,.int .u8 0,.int .u8 0,.int .u8 0,.int .u8 0] 109)):=hid (by rw [hb2.block _ HH1.out];exact HR1.out)
  have HG2:Hid (G1<((W1.alloc (.cells #[.int .u8 (S.a.toNat:Int),.int .u8 (S.b.toNat:Int),.int .u8 (S.c.toNat:Int),.int .u8 (S.d.toNat:Int),.int .u8 (S.e.toNat:Int)] 109)).drew).heap.size):=hid (Nat.lt_of_lt_of_le HH1.out hb2.size)
  have HGG:Hid (W1.heap.size<((W1.alloc (.cells #[.int .u8 (S.a.toNat:Int),.int .u8 (S.b.toNat:Int),.int .u8 (S.c.toNat:Int),.int .u8 (S.d.toNat:Int),.int .u8 (S.e.toNat:Int)] 109)).drew).heap.size):=hid (by show _<(W1.alloc (.cells #[.int .u8 (S.a.toNat:Int),.int .u8 (S.b.toNat:Int),.int .u8 (S.c.toNat:Int),.int .u8 (S.d.toNat:Int),.int .u8 (S.e.toNat:Int)] 109)).heap.size;simp)
  have HZ8:Hid (((W1.alloc (.cells #[.int .u8 (S.a.toNat:Int),.int .u8 (S.b.toNat:Int),.int .u8 (S.c.toNat:Int),.int .u8 (S.d.toNat:Int),.int .u8 (S.e.toNat:Int)] 109)).drew).cell? ⟨b,o+8,none⟩=some (.int .u8 (x8.toNat:Int))):=hid (by rw [hb2.cell (p:=⟨b,o+8,none⟩) hbw];exact Z8.out)
  obtain ⟨G2,hG2⟩:∃ G,G=W1.heap.size:=⟨_,rfl⟩
  have HNE:Hid (G2≠G1):=hid (by have:=HH1.out;omega)
  clear hb2 hbne hbne' z3 z4 z5 z6 z7 i3 i4 i5 i6 i7 HS1 HB1' HR1 HH1 Z8
  generalize (W1.alloc (.cells #[.int .u8 (S.a.toNat:Int),.int .u8 (S.b.toNat:Int),.int .u8 (S.c.toNat:Int),.int .u8 (S.d.toNat:Int),.int .u8 (S.e.toNat:Int)] 109)).drew=W2 at *
  rw [← hG2] at hr2 HGG ⊢
  clear hG2
  have HR3:=hid hr2
  clear hr2
  have QL:∀ (k:Nat) (x:Value),(#[.int .u8 (S.a.toNat:Int),.int .u8 (S.b.toNat:Int),.int .u8 (S.c.toNat:Int),.int .u8 (S.d.toNat:Int),.int .u8 (S.e.toNat:Int)]:Array Value)[k]?=some x→∀ n:Later W2,n.u.cell? ⟨G2,k,none⟩=some x:=fun k x hx n=>by
    rw [cell_of_row _ _ _ _ _ _ (by rw [n.h.block _ HGG.out];exact HR3.out)];exact hx
  have q0:=QL 0 _ rfl
  have q1:=QL 1 _ rfl
  have q2:=QL 2 _ rfl
  have q3:=QL 3 _ rfl
  have q4:=QL 4 _ rfl
  clear QL
  have hbw2:b<W2.heap.size:=by
    obtain ⟨b',o',e,hb',_⟩:=HS2.out.at_ (by omega)
    cases e
    exact hb'
  have z8:∀ n:Later W2,n.u.cell? ⟨b,o+8,none⟩=some (.int .u8 (x8.toNat:Int)):=fun n=>by rw [n.h.cell (p:=⟨b,o+8,none⟩) hbw2];exact HZ8.out
  clear hbw2
  have hcv:=fun m:Later W2=>(Later.bs m (Bs.take HS2.out (j:=3) (by omega))).str (P:=Tryz.prog) 40 5 9 Tryz.underlying40 Tryz.underlying5 Tryz.underlying9
  have hc3:(3:Int)≤c:=by have:=HS2.out.le;omega
  have i8:(8:Int)<n:=by omega
  have HRD:Hid (readD l=if l.take 3≠[77,83,72]∨S.good=false then (Sgn.zero,11) else if x8≠S.a∧x8≠13 then (Sgn.zero,11) else (S,0)):=hid (by unfold readD;rw [if_neg (by rw [hlen];omega),← HSS.out,← HX8.out,show l.getD 3 0=S.a from by rw [HSS.out];rfl])
  clear HZ8
  have hm:=Khm.out
  clear Khm
  rw [hm] at hcv
  have HM:=hid hm
  clear hm
  have hgd:S.good=true:=by rw [HSS.out];exact Khgd.out
  clear Khgd
  rw [hgd] at HRD
  have hRt:=fun w=>refRight S w
  rw [hgd] at hRt
  have h1:x8=S.a:=by rw [HX8.out,HSS.out];exact Kh1.out
  clear Kh1
  have HRZ:=hid (show readD l=(S,0) from by rw [HRD.out,if_neg (by simp [HM.out]),if_neg (fun h=>h.1 h1)])
  clear HRD
  have d1:((x8.toNat:Int) == (S.a.toNat:Int))=true:=by rw [h1];exact beq_self_eq_true _
  have d2:((x8.toNat:Int) != (S.a.toNat:Int))=false:=by rw [h1];exact bne_self_eq_false _
  clear h1
  go_wp2_with (fail)
  refine region_later (by kernel_rfl) (by kernel_rfl) ?_
  repeat (go_big_quiet_step ((first | (go_at_call 164;exact Calls.later (hRt _)))))
  refine wpQuiet_nil ?_
  intro nq
  have HR1:Hid (nq.u.heap[G1]?=some (.cells #[.int .u8 0,.int .u8 0,.int .u8 0,.int .u8 0,.int .u8 0] 109)):=hid (by rw [nq.h.block _ HG2.out];exact HR2.out)
  have HR3':Hid (nq.u.heap[G2]?=some (.cells #[.int .u8 (S.a.toNat:Int),.int .u8 (S.b.toNat:Int),.int .u8 (S.c.toNat:Int),.int .u8 (S.d.toNat:Int),.int .u8 (S.e.toNat:Int)] 109)):=hid (by rw [nq.h.block _ HGG.out];exact HR3.out)
  have HB3:Hid (Below w.heap.size w nq.u):=hid (HB2.out.trans (nq.h.mono HB2.out.size))
  clear q0 q1 q2 q3 q4 z8 hcv HR2 HR3 HB2 HG2 HGG HS2
  generalize nq.u=w3 at *
  clear nq
  have q0:=cell_of_row w3 G2 0 _ _ _ HR3'.out
  have q1:=cell_of_row w3 G2 1 _ _ _ HR3'.out
  have q2:=cell_of_row w3 G2 2 _ _ _ HR3'.out
  have q3:=cell_of_row w3 G2 3 _ _ _ HR3'.out
  have q4:=cell_of_row w3 G2 4 _ _ _ HR3'.out
  simp only [List.getElem?_toArray,List.getElem?_cons_zero,List.getElem?_cons_succ] at q0 q1 q2 q3 q4
  have c0:=cell_of_row (w3) G1 0 _ _ _ HR1.out
  have c1:=cell_of_row (w3) G1 1 _ _ _ HR1.out
  have c2:=cell_of_row (w3) G1 2 _ _ _ HR1.out
  have c3:=cell_of_row (w3) G1 3 _ _ _ HR1.out
  have c4:=cell_of_row (w3) G1 4 _ _ _ HR1.out
  simp only [List.getElem?_toArray,List.getElem?_cons_zero,List.getElem?_cons_succ] at c0 c1 c2 c3 c4
  have f0:=frozen_of (W:=w3) HR1.out 0
  have f1:=frozen_of (W:=w3) HR1.out 1
  have f2:=frozen_of (W:=w3) HR1.out 2
  have f3:=frozen_of (W:=w3) HR1.out 3
  have f4:=frozen_of (W:=w3) HR1.out 4
  go_wp2_with (fail)
  clear q0 q1 q2 q3 q4
  clear c0 c1 c2 c3 c4 f0 f1 f2 f3 f4
  have hrow:=setFive_row (W:=w3) HR1.out (.int .u8 (S.a.toNat:Int)) (.int .u8 (S.b.toNat:Int)) (.int .u8 (S.c.toNat:Int)) (.int .u8 (S.d.toNat:Int)) (.int .u8 (S.e.toNat:Int))
  have hbel:=setFive_below (W:=w3) HB3.out HG1.out (.int .u8 (S.a.toNat:Int)) (.int .u8 (S.b.toNat:Int)) (.int .u8 (S.c.toNat:Int)) (.int .u8 (S.d.toNat:Int)) (.int .u8 (S.e.toNat:Int))
  unfold setFive at hrow hbel
  generalize (((((w3.setCell ⟨G1,0,none⟩ (.int .u8 (S.a.toNat:Int))).setCell ⟨G1,1,none⟩ (.int .u8 (S.b.toNat:Int))).setCell ⟨G1,2,none⟩ (.int .u8 (S.c.toNat:Int))).setCell ⟨G1,3,none⟩ (.int .u8 (S.d.toNat:Int))).setCell ⟨G1,4,none⟩ (.int .u8 (S.e.toNat:Int)))=W5 at hrow hbel ⊢
  have c0:=cell_of_row _ G1 0 _ _ _ hrow
  have c1:=cell_of_row _ G1 1 _ _ _ hrow
  have c2:=cell_of_row _ G1 2 _ _ _ hrow
  have c3:=cell_of_row _ G1 3 _ _ _ hrow
  have c4:=cell_of_row _ G1 4 _ _ _ hrow
  simp only [List.getElem?_toArray,List.getElem?_cons_zero,List.getElem?_cons_succ] at c0 c1 c2 c3 c4
  exact bodyPost_ret (v:=.tuple #[dlm (S.a.toNat:Int) (S.b.toNat:Int) (S.c.toNat:Int) (S.d.toNat:Int) (S.e.toNat:Int),.int .i64 0]) (by simp [results,Tryz.results119,go_sem,c0,c1,c2,c3,c4]) rfl ⟨by rw [HRZ.out],hbel⟩
end
section
open Go.RowKit
set_option maxHeartbeats 1000000 in
set_option maxRecDepth 100000 in
theorem refRead_tail (A:Option Addr) (n c:Nat) (l:List UInt8) (w:World) (hB:Bs w A n c l) (h9:¬ (n:Int)<9) (hm:l.take 3=[77,83,72]) (hgd:(Sgn.of l).good=true) (h1:¬ l.getD 8 0=l.getD 3 0) (h2:l.getD 8 0=13) :
    Calls Tryz.prog 119 #[.slice A n c] w fun e w'=>e=.returned (.tuple #[(readD l).1.v,.int .i64 (readD l).2])∧Below w.heap.size w w':=by
  have Khm:=hid hm;clear hm
  have Khgd:=hid hgd;clear hgd
  have Kh1:=hid h1;clear h1
  have Kh2:=hid h2;clear h2
  have hn:=hB.nmax
  have HL:=hid hB.len
  have HB:=hid hB;clear hB
  have h8:9≤n:=by omega
  obtain ⟨b,o,rfl,hb,hc⟩:=HB.out.at_ (by omega)
  go_enter Tryz.func119,Tryz.ntmps119
  go_wp2_with (fail)
  have hlen:=HL.out
  have hr1:=heap_alloc_new w (.cells #[.int .u8 0,.int .u8 0,.int .u8 0,.int .u8 0,.int .u8 0] 109)
  have hg1:w.heap.size<(w.alloc (.cells #[.int .u8 0,.int .u8 0,.int .u8 0,.int .u8 0,.int .u8 0] 109)).heap.size:=by simp
  have HB1:Hid (Below w.heap.size w (w.alloc (.cells #[.int .u8 0,.int .u8 0,.int .u8 0,.int .u8 0,.int .u8 0] 109))):=hid ((Below.refl _ w).alloc (Nat.le_refl _) _)
  have HS1:=hid (HB.out.alloc (.cells #[.int .u8 0,.int .u8 0,.int .u8 0,.int .u8 0,.int .u8 0] 109))
  clear HB hb hc
  obtain ⟨G1,hG⟩:∃ G,G=w.heap.size:=⟨_,rfl⟩
  have HG1:Hid (w.heap.size≤G1):=hid (by omega)
  generalize w.alloc (.cells #[.int .u8 0,.int .u8 0,.int .u8 0,.int .u8 0,.int .u8 0] 109)=W1 at *
  rw [← hG] at hr1 hg1 ⊢
  have HB1':Hid (Below w.heap.size w W1):=hid (by first | exact HB1.out | (rw [← hG];exact HB1.out))
  clear hG HB1
  have cell:∀ k,k<n→W1.cell? ⟨b,o+k,none⟩=some (.int .u8 ((l.getD k 0).toNat:Int)):=by
    intro k hk
    obtain ⟨b',o',e,_,hc⟩:=HS1.out.at_ (by omega)
    cases e
    rw [hc k (l.getD k 0) (by rw [List.getD_eq_getElem?_getD,List.getElem?_eq_getElem (by omega)];rfl)]
  obtain ⟨S,hS⟩:∃ S:Sgn,S=Sgn.of l:=⟨_,rfl⟩
  obtain ⟨x8,hx8⟩:∃ x:UInt8,x=l.getD 8 0:=⟨_,rfl⟩
  have z3:W1.cell? ⟨b,o+3,none⟩=some (.int .u8 (S.a.toNat:Int)):=by rw [hS];exact cell 3 (by omega)
  have z4:W1.cell? ⟨b,o+4,none⟩=some (.int .u8 (S.b.toNat:Int)):=by rw [hS];exact cell 4 (by omega)
  have z5:W1.cell? ⟨b,o+5,none⟩=some (.int .u8 (S.c.toNat:Int)):=by rw [hS];exact cell 5 (by omega)
  have z6:W1.cell? ⟨b,o+6,none⟩=some (.int .u8 (S.d.toNat:Int)):=by rw [hS];exact cell 6 (by omega)
  have z7:W1.cell? ⟨b,o+7,none⟩=some (.int .u8 (S.e.toNat:Int)):=by rw [hS];exact cell 7 (by omega)
  have z8:W1.cell? ⟨b,o+8,none⟩=some (.int .u8 (x8.toNat:Int)):=by rw [hx8];exact cell 8 (by omega)
  have HSS:=hid hS
  have HX8:=hid hx8
  clear hS hx8
  clear cell
  have i3:(3:Int)<n:=by omega
  have i4:(4:Int)<n:=by omega
  have i5:(5:Int)<n:=by omega
  have i6:(6:Int)<n:=by omega
  have i7:(7:Int)<n:=by omega
  have HR1:=hid hr1
  have HH1:=hid hg1
  clear hr1 hg1
  have hbw:b<W1.heap.size:=by
    obtain ⟨b',o',e,hb',_⟩:=HS1.out.at_ (by omega)
    cases e
    exact hb'
  have hbne:b≠W1.heap.size:=by omega
  have hbne':¬ W1.heap.size=b:=by omega
  have Z8:=hid z8
  clear z8
  go_region
  have hr2:((W1.alloc (.cells #[.int .u8 (S.a.toNat:Int),.int .u8 (S.b.toNat:Int),.int .u8 (S.c.toNat:Int),.int .u8 (S.d.toNat:Int),.int .u8 (S.e.toNat:Int)] 109)).drew).heap[W1.heap.size]?=some (.cells #[.int .u8 (S.a.toNat:Int),.int .u8 (S.b.toNat:Int),.int .u8 (S.c.toNat:Int),.int .u8 (S.d.toNat:Int),.int .u8 (S.e.toNat:Int)] 109):=heap_alloc_new W1 (.cells #[.int .u8 (S.a.toNat:Int),.int .u8 (S.b.toNat:Int),.int .u8 (S.c.toNat:Int),.int .u8 (S.d.toNat:Int),.int .u8 (S.e.toNat:Int)] 109)
  have HS2:Hid (Bs ((W1.alloc (.cells #[.int .u8 (S.a.toNat:Int),.int .u8 (S.b.toNat:Int),.int .u8 (S.c.toNat:Int),.int .u8 (S.d.toNat:Int),.int .u8 (S.e.toNat:Int)] 109)).drew) (some ⟨b,o,none⟩) n c l):=hid (HS1.out.alloc (.cells #[.int .u8 (S.a.toNat:Int),.int .u8 (S.b.toNat:Int),.int .u8 (S.c.toNat:Int),.int .u8 (S.d.toNat:Int),.int .u8 (S.e.toNat:Int)] 109)).drew
  have hb2:Below W1.heap.size W1 ((W1.alloc (.cells #[.int .u8 (S.a.toNat:Int),.int .u8 (S.b.toNat:Int),.int .u8 (S.c.toNat:Int),.int .u8 (S.d.toNat:Int),.int .u8 (S.e.toNat:Int)] 109)).drew):=((Below.refl _ W1).alloc (Nat.le_refl _) _).drew
  have HB2:Hid (Below w.heap.size w ((W1.alloc (.cells #[.int .u8 (S.a.toNat:Int),.int .u8 (S.b.toNat:Int),.int .u8 (S.c.toNat:Int),.int .u8 (S.d.toNat:Int),.int .u8 (S.e.toNat:Int)] 109)).drew)):=hid (HB1'.out.trans (hb2.mono HB1'.out.size))
  have HR2:Hid (((W1.alloc (.cells #[.int .u8 (S.a.toNat:Int),.int .u8 (S.b.toNat:Int),.int .u8 (S.c.toNat:Int),.int .u8 (S.d.toNat:Int),.int .u8 (S.e.toNat:Int)] 109)).drew).heap[G1]?=some (.cells #[.int .u8 0,.int .u8 0,.int .u8 0,.int .u8 0,.int .u8 0] 109)):=hid (by rw [hb2.block _ HH1.out];exact HR1.out)
  have HG2:Hid (G1<((W1.alloc (.cells #[.int .u8 (S.a.toNat:Int),.int .u8 (S.b.toNat:Int),.int .u8 (S.c.toNat:Int),.int .u8 (S.d.toNat:Int),.int .u8 (S.e.toNat:Int)] 109)).drew).heap.size):=hid (Nat.lt_of_lt_of_le HH1.out hb2.size)
  have HGG:Hid (W1.heap.size<((W1.alloc (.cells #[.int .u8 (S.a.toNat:Int),.int .u8 (S.b.toNat:Int),.int .u8 (S.c.toNat:Int),.int .u8 (S.d.toNat:Int),.int .u8 (S.e.toNat:Int)] 109)).drew).heap.size):=hid (by show _<(W1.alloc (.cells #[.int .u8 (S.a.toNat:Int),.int .u8 (S.b.toNat:Int),.int .u8 (S.c.toNat:Int),.int .u8 (S.d.toNat:Int),.int .u8 (S.e.toNat:Int)] 109)).heap.size;simp)
  have HZ8:Hid (((W1.alloc (.cells #[.int .u8 (S.a.toNat:Int),.int .u8 (S.b.toNat:Int),.int .u8 (S.c.toNat:Int),.int .u8 (S.d.toNat:Int),.int .u8 (S.e.toNat:Int)] 109)).drew).cell? ⟨b,o+8,none⟩=some (.int .u8 (x8.toNat:Int))):=hid (by rw [hb2.cell (p:=⟨b,o+8,none⟩) hbw];exact Z8.out)
  obtain ⟨G2,hG2⟩:∃ G,G=W1.heap.size:=⟨_,rfl⟩
  have HNE:Hid (G2≠G1):=hid (by have:=HH1.out;omega)
  clear hb2 hbne hbne' z3 z4 z5 z6 z7 i3 i4 i5 i6 i7 HS1 HB1' HR1 HH1 Z8
  generalize (W1.alloc (.cells #[.int .u8 (S.a.toNat:Int),.int .u8 (S.b.toNat:Int),.int .u8 (S.c.toNat:Int),.int .u8 (S.d.toNat:Int),.int .u8 (S.e.toNat:Int)] 109)).drew=W2 at *
  rw [← hG2] at hr2 HGG ⊢
  clear hG2
  have HR3:=hid hr2
  clear hr2
  have QL:∀ (k:Nat) (x:Value),(#[.int .u8 (S.a.toNat:Int),.int .u8 (S.b.toNat:Int),.int .u8 (S.c.toNat:Int),.int .u8 (S.d.toNat:Int),.int .u8 (S.e.toNat:Int)]:Array Value)[k]?=some x→∀ n:Later W2,n.u.cell? ⟨G2,k,none⟩=some x:=fun k x hx n=>by
    rw [cell_of_row _ _ _ _ _ _ (by rw [n.h.block _ HGG.out];exact HR3.out)];exact hx
  have q0:=QL 0 _ rfl
  have q1:=QL 1 _ rfl
  have q2:=QL 2 _ rfl
  have q3:=QL 3 _ rfl
  have q4:=QL 4 _ rfl
  clear QL
  have hbw2:b<W2.heap.size:=by
    obtain ⟨b',o',e,hb',_⟩:=HS2.out.at_ (by omega)
    cases e
    exact hb'
  have z8:∀ n:Later W2,n.u.cell? ⟨b,o+8,none⟩=some (.int .u8 (x8.toNat:Int)):=fun n=>by rw [n.h.cell (p:=⟨b,o+8,none⟩) hbw2];exact HZ8.out
  clear hbw2
  have hcv:=fun m:Later W2=>(Later.bs m (Bs.take HS2.out (j:=3) (by omega))).str (P:=Tryz.prog) 40 5 9 Tryz.underlying40 Tryz.underlying5 Tryz.underlying9
  have hc3:(3:Int)≤c:=by have:=HS2.out.le;omega
  have i8:(8:Int)<n:=by omega
  have HRD:Hid (readD l=if l.take 3≠[77,83,72]∨S.good=false then (Sgn.zero,11) else if x8≠S.a∧x8≠13 then (Sgn.zero,11) else (S,0)):=hid (by unfold readD;rw [if_neg (by rw [hlen];omega),← HSS.out,← HX8.out,show l.getD 3 0=S.a from by rw [HSS.out];rfl])
  clear HZ8
  have hm:=Khm.out
  clear Khm
  rw [hm] at hcv
  have HM:=hid hm
  clear hm
  have hgd:S.good=true:=by rw [HSS.out];exact Khgd.out
  clear Khgd
  rw [hgd] at HRD
  have hRt:=fun w=>refRight S w
  rw [hgd] at hRt
  have h1:¬ x8=S.a:=by rw [HX8.out,HSS.out];exact Kh1.out
  clear Kh1
  have h2:x8=13:=by rw [HX8.out];exact Kh2.out
  clear Kh2
  have HRZ:=hid (show readD l=(S,0) from by rw [HRD.out,if_neg (by simp [HM.out]),if_neg (fun h=>h.2 h2)])
  clear HRD
  have d1:((x8.toNat:Int) == (S.a.toNat:Int))=false:=by rw [beq_eq_false_iff_ne];exact fun h=>h1 (UInt8.toNat_inj.1 (by omega))
  have d2:((x8.toNat:Int) != (S.a.toNat:Int))=true:=by rw [bne_iff_ne];exact fun h=>h1 (UInt8.toNat_inj.1 (by omega))
  have d3:((x8.toNat:Int) != 13)=false:=by rw [h2];decide
  have d4:((x8.toNat:Int) == 13)=true:=by rw [h2];decide
  clear h1 h2
  go_wp2_with (fail)
  refine region_later (by kernel_rfl) (by kernel_rfl) ?_
  repeat (go_big_quiet_step ((first | (go_at_call 164;exact Calls.later (hRt _)))))
  refine wpQuiet_nil ?_
  intro nq
  have HR1:Hid (nq.u.heap[G1]?=some (.cells #[.int .u8 0,.int .u8 0,.int .u8 0,.int .u8 0,.int .u8 0] 109)):=hid (by rw [nq.h.block _ HG2.out];exact HR2.out)
  have HR3':Hid (nq.u.heap[G2]?=some (.cells #[.int .u8 (S.a.toNat:Int),.int .u8 (S.b.toNat:Int),.int .u8 (S.c.toNat:Int),.int .u8 (S.d.toNat:Int),.int .u8 (S.e.toNat:Int)] 109)):=hid (by rw [nq.h.block _ HGG.out];exact HR3.out)
  have HB3:Hid (Below w.heap.size w nq.u):=hid (HB2.out.trans (nq.h.mono HB2.out.size))
  clear q0 q1 q2 q3 q4 z8 hcv HR2 HR3 HB2 HG2 HGG HS2
  generalize nq.u=w3 at *
  clear nq
  have q0:=cell_of_row w3 G2 0 _ _ _ HR3'.out
  have q1:=cell_of_row w3 G2 1 _ _ _ HR3'.out
  have q2:=cell_of_row w3 G2 2 _ _ _ HR3'.out
  have q3:=cell_of_row w3 G2 3 _ _ _ HR3'.out
  have q4:=cell_of_row w3 G2 4 _ _ _ HR3'.out
  simp only [List.getElem?_toArray,List.getElem?_cons_zero,List.getElem?_cons_succ] at q0 q1 q2 q3 q4
  have c0:=cell_of_row (w3) G1 0 _ _ _ HR1.out
  have c1:=cell_of_row (w3) G1 1 _ _ _ HR1.out
  have c2:=cell_of_row (w3) G1 2 _ _ _ HR1.out
  have c3:=cell_of_row (w3) G1 3 _ _ _ HR1.out
  have c4:=cell_of_row (w3) G1 4 _ _ _ HR1.out
  simp only [List.getElem?_toArray,List.getElem?_cons_zero,List.getElem?_cons_succ] at c0 c1 c2 c3 c4
  have f0:=frozen_of (W:=w3) HR1.out 0
  have f1:=frozen_of (W:=w3) HR1.out 1
  have f2:=frozen_of (W:=w3) HR1.out 2
  have f3:=frozen_of (W:=w3) HR1.out 3
  have f4:=frozen_of (W:=w3) HR1.out 4
  go_wp2_with (fail)
  clear q0 q1 q2 q3 q4
  clear c0 c1 c2 c3 c4 f0 f1 f2 f3 f4
  have hrow:=setFive_row (W:=w3) HR1.out (.int .u8 (S.a.toNat:Int)) (.int .u8 (S.b.toNat:Int)) (.int .u8 (S.c.toNat:Int)) (.int .u8 (S.d.toNat:Int)) (.int .u8 (S.e.toNat:Int))
  have hbel:=setFive_below (W:=w3) HB3.out HG1.out (.int .u8 (S.a.toNat:Int)) (.int .u8 (S.b.toNat:Int)) (.int .u8 (S.c.toNat:Int)) (.int .u8 (S.d.toNat:Int)) (.int .u8 (S.e.toNat:Int))
  unfold setFive at hrow hbel
  generalize (((((w3.setCell ⟨G1,0,none⟩ (.int .u8 (S.a.toNat:Int))).setCell ⟨G1,1,none⟩ (.int .u8 (S.b.toNat:Int))).setCell ⟨G1,2,none⟩ (.int .u8 (S.c.toNat:Int))).setCell ⟨G1,3,none⟩ (.int .u8 (S.d.toNat:Int))).setCell ⟨G1,4,none⟩ (.int .u8 (S.e.toNat:Int)))=W5 at hrow hbel ⊢
  have c0:=cell_of_row _ G1 0 _ _ _ hrow
  have c1:=cell_of_row _ G1 1 _ _ _ hrow
  have c2:=cell_of_row _ G1 2 _ _ _ hrow
  have c3:=cell_of_row _ G1 3 _ _ _ hrow
  have c4:=cell_of_row _ G1 4 _ _ _ hrow
  simp only [List.getElem?_toArray,List.getElem?_cons_zero,List.getElem?_cons_succ] at c0 c1 c2 c3 c4
  exact bodyPost_ret (v:=.tuple #[dlm (S.a.toNat:Int) (S.b.toNat:Int) (S.c.toNat:Int) (S.d.toNat:Int) (S.e.toNat:Int),.int .i64 0]) (by simp [results,Tryz.results119,go_sem,c0,c1,c2,c3,c4]) rfl ⟨by rw [HRZ.out],hbel⟩
end
section
open Go.RowKit
set_option maxHeartbeats 1000000 in
set_option maxRecDepth 100000 in
theorem refRead_other (A:Option Addr) (n c:Nat) (l:List UInt8) (w:World) (hB:Bs w A n c l) (h9:¬ (n:Int)<9) (hm:l.take 3=[77,83,72]) (hgd:(Sgn.of l).good=true) (h1:¬ l.getD 8 0=l.getD 3 0) (h2:¬ l.getD 8 0=13) :
    Calls Tryz.prog 119 #[.slice A n c] w fun e w'=>e=.returned (.tuple #[(readD l).1.v,.int .i64 (readD l).2])∧Below w.heap.size w w':=by
  have Khm:=hid hm;clear hm
  have Khgd:=hid hgd;clear hgd
  have Kh1:=hid h1;clear h1
  have Kh2:=hid h2;clear h2
  have hn:=hB.nmax
  have HL:=hid hB.len
  have HB:=hid hB;clear hB
  have h8:9≤n:=by omega
  obtain ⟨b,o,rfl,hb,hc⟩:=HB.out.at_ (by omega)
  go_enter Tryz.func119,Tryz.ntmps119
  go_wp2_with (fail)
  have hlen:=HL.out
  have hr1:=heap_alloc_new w (.cells #[.int .u8 0,.int .u8 0,.int .u8 0,.int .u8 0,.int .u8 0] 109)
  have hg1:w.heap.size<(w.alloc (.cells #[.int .u8 0,.int .u8 0,.int .u8 0,.int .u8 0,.int .u8 0] 109)).heap.size:=by simp
  have HB1:Hid (Below w.heap.size w (w.alloc (.cells #[.int .u8 0,.int .u8 0,.int .u8 0,.int .u8 0,.int .u8 0] 109))):=hid ((Below.refl _ w).alloc (Nat.le_refl _) _)
  have HS1:=hid (HB.out.alloc (.cells #[.int .u8 0,.int .u8 0,.int .u8 0,.int .u8 0,.int .u8 0] 109))
  clear HB hb hc
  obtain ⟨G1,hG⟩:∃ G,G=w.heap.size:=⟨_,rfl⟩
  have HG1:Hid (w.heap.size≤G1):=hid (by omega)
  generalize w.alloc (.cells #[.int .u8 0,.int .u8 0,.int .u8 0,.int .u8 0,.int .u8 0] 109)=W1 at *
  rw [← hG] at hr1 hg1 ⊢
  have HB1':Hid (Below w.heap.size w W1):=hid (by first | exact HB1.out | (rw [← hG];exact HB1.out))
  clear hG HB1
  have cell:∀ k,k<n→W1.cell? ⟨b,o+k,none⟩=some (.int .u8 ((l.getD k 0).toNat:Int)):=by
    intro k hk
    obtain ⟨b',o',e,_,hc⟩:=HS1.out.at_ (by omega)
    cases e
    rw [hc k (l.getD k 0) (by rw [List.getD_eq_getElem?_getD,List.getElem?_eq_getElem (by omega)];rfl)]
  obtain ⟨S,hS⟩:∃ S:Sgn,S=Sgn.of l:=⟨_,rfl⟩
  obtain ⟨x8,hx8⟩:∃ x:UInt8,x=l.getD 8 0:=⟨_,rfl⟩
  have z3:W1.cell? ⟨b,o+3,none⟩=some (.int .u8 (S.a.toNat:Int)):=by rw [hS];exact cell 3 (by omega)
  have z4:W1.cell? ⟨b,o+4,none⟩=some (.int .u8 (S.b.toNat:Int)):=by rw [hS];exact cell 4 (by omega)
  have z5:W1.cell? ⟨b,o+5,none⟩=some (.int .u8 (S.c.toNat:Int)):=by rw [hS];exact cell 5 (by omega)
  have z6:W1.cell? ⟨b,o+6,none⟩=some (.int .u8 (S.d.toNat:Int)):=by rw [hS];exact cell 6 (by omega)
  have z7:W1.cell? ⟨b,o+7,none⟩=some (.int .u8 (S.e.toNat:Int)):=by rw [hS];exact cell 7 (by omega)
  have z8:W1.cell? ⟨b,o+8,none⟩=some (.int .u8 (x8.toNat:Int)):=by rw [hx8];exact cell 8 (by omega)
  have HSS:=hid hS
  have HX8:=hid hx8
  clear hS hx8
  clear cell
  have i3:(3:Int)<n:=by omega
  have i4:(4:Int)<n:=by omega
  have i5:(5:Int)<n:=by omega
  have i6:(6:Int)<n:=by omega
  have i7:(7:Int)<n:=by omega
  have HR1:=hid hr1
  have HH1:=hid hg1
  clear hr1 hg1
  have hbw:b<W1.heap.size:=by
    obtain ⟨b',o',e,hb',_⟩:=HS1.out.at_ (by omega)
    cases e
    exact hb'
  have hbne:b≠W1.heap.size:=by omega
  have hbne':¬ W1.heap.size=b:=by omega
  have Z8:=hid z8
  clear z8
  go_region
  have hr2:((W1.alloc (.cells #[.int .u8 (S.a.toNat:Int),.int .u8 (S.b.toNat:Int),.int .u8 (S.c.toNat:Int),.int .u8 (S.d.toNat:Int),.int .u8 (S.e.toNat:Int)] 109)).drew).heap[W1.heap.size]?=some (.cells #[.int .u8 (S.a.toNat:Int),.int .u8 (S.b.toNat:Int),.int .u8 (S.c.toNat:Int),.int .u8 (S.d.toNat:Int),.int .u8 (S.e.toNat:Int)] 109):=heap_alloc_new W1 (.cells #[.int .u8 (S.a.toNat:Int),.int .u8 (S.b.toNat:Int),.int .u8 (S.c.toNat:Int),.int .u8 (S.d.toNat:Int),.int .u8 (S.e.toNat:Int)] 109)
  have HS2:Hid (Bs ((W1.alloc (.cells #[.int .u8 (S.a.toNat:Int),.int .u8 (S.b.toNat:Int),.int .u8 (S.c.toNat:Int),.int .u8 (S.d.toNat:Int),.int .u8 (S.e.toNat:Int)] 109)).drew) (some ⟨b,o,none⟩) n c l):=hid (HS1.out.alloc (.cells #[.int .u8 (S.a.toNat:Int),.int .u8 (S.b.toNat:Int),.int .u8 (S.c.toNat:Int),.int .u8 (S.d.toNat:Int),.int .u8 (S.e.toNat:Int)] 109)).drew
  have hb2:Below W1.heap.size W1 ((W1.alloc (.cells #[.int .u8 (S.a.toNat:Int),.int .u8 (S.b.toNat:Int),.int .u8 (S.c.toNat:Int),.int .u8 (S.d.toNat:Int),.int .u8 (S.e.toNat:Int)] 109)).drew):=((Below.refl _ W1).alloc (Nat.le_refl _) _).drew
  have HB2:Hid (Below w.heap.size w ((W1.alloc (.cells #[.int .u8 (S.a.toNat:Int),.int .u8 (S.b.toNat:Int),.int .u8 (S.c.toNat:Int),.int .u8 (S.d.toNat:Int),.int .u8 (S.e.toNat:Int)] 109)).drew)):=hid (HB1'.out.trans (hb2.mono HB1'.out.size))
  have HR2:Hid (((W1.alloc (.cells #[.int .u8 (S.a.toNat:Int),.int .u8 (S.b.toNat:Int),.int .u8 (S.c.toNat:Int),.int .u8 (S.d.toNat:Int),.int .u8 (S.e.toNat:Int)] 109)).drew).heap[G1]?=some (.cells #[.int .u8 0,.int .u8 0,.int .u8 0,.int .u8 0,.int .u8 0] 109)):=hid (by rw [hb2.block _ HH1.out];exact HR1.out)
  have HG2:Hid (G1<((W1.alloc (.cells #[.int .u8 (S.a.toNat:Int),.int .u8 (S.b.toNat:Int),.int .u8 (S.c.toNat:Int),.int .u8 (S.d.toNat:Int),.int .u8 (S.e.toNat:Int)] 109)).drew).heap.size):=hid (Nat.lt_of_lt_of_le HH1.out hb2.size)
  have HGG:Hid (W1.heap.size<((W1.alloc (.cells #[.int .u8 (S.a.toNat:Int),.int .u8 (S.b.toNat:Int),.int .u8 (S.c.toNat:Int),.int .u8 (S.d.toNat:Int),.int .u8 (S.e.toNat:Int)] 109)).drew).heap.size):=hid (by show _<(W1.alloc (.cells #[.int .u8 (S.a.toNat:Int),.int .u8 (S.b.toNat:Int),.int .u8 (S.c.toNat:Int),.int .u8 (S.d.toNat:Int),.int .u8 (S.e.toNat:Int)] 109)).heap.size;simp)
  have HZ8:Hid (((W1.alloc (.cells #[.int .u8 (S.a.toNat:Int),.int .u8 (S.b.toNat:Int),.int .u8 (S.c.toNat:Int),.int .u8 (S.d.toNat:Int),.int .u8 (S.e.toNat:Int)] 109)).drew).cell? ⟨b,o+8,none⟩=some (.int .u8 (x8.toNat:Int))):=hid (by rw [hb2.cell (p:=⟨b,o+8,none⟩) hbw];exact Z8.out)
  obtain ⟨G2,hG2⟩:∃ G,G=W1.heap.size:=⟨_,rfl⟩
  have HNE:Hid (G2≠G1):=hid (by have:=HH1.out;omega)
  clear hb2 hbne hbne' z3 z4 z5 z6 z7 i3 i4 i5 i6 i7 HS1 HB1' HR1 HH1 Z8
  generalize (W1.alloc (.cells #[.int .u8 (S.a.toNat:Int),.int .u8 (S.b.toNat:Int),.int .u8 (S.c.toNat:Int),.int .u8 (S.d.toNat:Int),.int .u8 (S.e.toNat:Int)] 109)).drew=W2 at *
  rw [← hG2] at hr2 HGG ⊢
  clear hG2
  have HR3:=hid hr2
  clear hr2
  have QL:∀ (k:Nat) (x:Value),(#[.int .u8 (S.a.toNat:Int),.int .u8 (S.b.toNat:Int),.int .u8 (S.c.toNat:Int),.int .u8 (S.d.toNat:Int),.int .u8 (S.e.toNat:Int)]:Array Value)[k]?=some x→∀ n:Later W2,n.u.cell? ⟨G2,k,none⟩=some x:=fun k x hx n=>by
    rw [cell_of_row _ _ _ _ _ _ (by rw [n.h.block _ HGG.out];exact HR3.out)];exact hx
  have q0:=QL 0 _ rfl
  have q1:=QL 1 _ rfl
  have q2:=QL 2 _ rfl
  have q3:=QL 3 _ rfl
  have q4:=QL 4 _ rfl
  clear QL
  have hbw2:b<W2.heap.size:=by
    obtain ⟨b',o',e,hb',_⟩:=HS2.out.at_ (by omega)
    cases e
    exact hb'
  have z8:∀ n:Later W2,n.u.cell? ⟨b,o+8,none⟩=some (.int .u8 (x8.toNat:Int)):=fun n=>by rw [n.h.cell (p:=⟨b,o+8,none⟩) hbw2];exact HZ8.out
  clear hbw2
  have hcv:=fun m:Later W2=>(Later.bs m (Bs.take HS2.out (j:=3) (by omega))).str (P:=Tryz.prog) 40 5 9 Tryz.underlying40 Tryz.underlying5 Tryz.underlying9
  have hc3:(3:Int)≤c:=by have:=HS2.out.le;omega
  have i8:(8:Int)<n:=by omega
  have HRD:Hid (readD l=if l.take 3≠[77,83,72]∨S.good=false then (Sgn.zero,11) else if x8≠S.a∧x8≠13 then (Sgn.zero,11) else (S,0)):=hid (by unfold readD;rw [if_neg (by rw [hlen];omega),← HSS.out,← HX8.out,show l.getD 3 0=S.a from by rw [HSS.out];rfl])
  clear HZ8
  have hm:=Khm.out
  clear Khm
  rw [hm] at hcv
  have HM:=hid hm
  clear hm
  have hgd:S.good=true:=by rw [HSS.out];exact Khgd.out
  clear Khgd
  rw [hgd] at HRD
  have hRt:=fun w=>refRight S w
  rw [hgd] at hRt
  have h1:¬ x8=S.a:=by rw [HX8.out,HSS.out];exact Kh1.out
  clear Kh1
  have h2:¬ x8=13:=by rw [HX8.out];exact Kh2.out
  clear Kh2
  have HRZ:=hid (show readD l=(Sgn.zero,11) from by rw [HRD.out,if_neg (by simp [HM.out]),if_pos ⟨h1,h2⟩])
  clear HRD
  have d1:((x8.toNat:Int) == (S.a.toNat:Int))=false:=by rw [beq_eq_false_iff_ne];exact fun h=>h1 (UInt8.toNat_inj.1 (by omega))
  have d2:((x8.toNat:Int) != (S.a.toNat:Int))=true:=by rw [bne_iff_ne];exact fun h=>h1 (UInt8.toNat_inj.1 (by omega))
  have d3:((x8.toNat:Int) != 13)=true:=by rw [bne_iff_ne];exact fun h=>h2 (UInt8.toNat_inj.1 (by show _=13;omega))
  have d4:((x8.toNat:Int) == 13)=false:=by rw [beq_eq_false_iff_ne];exact fun h=>h2 (UInt8.toNat_inj.1 (by show _=13;omega))
  clear h1 h2
  go_wp2_with (fail)
  refine region_later (by kernel_rfl) (by kernel_rfl) ?_
  repeat (go_big_quiet_step ((first | (go_at_call 164;exact Calls.later (hRt _)))))
  refine wpQuiet_nil ?_
  intro nq
  have HR1:Hid (nq.u.heap[G1]?=some (.cells #[.int .u8 0,.int .u8 0,.int .u8 0,.int .u8 0,.int .u8 0] 109)):=hid (by rw [nq.h.block _ HG2.out];exact HR2.out)
  have HR3':Hid (nq.u.heap[G2]?=some (.cells #[.int .u8 (S.a.toNat:Int),.int .u8 (S.b.toNat:Int),.int .u8 (S.c.toNat:Int),.int .u8 (S.d.toNat:Int),.int .u8 (S.e.toNat:Int)] 109)):=hid (by rw [nq.h.block _ HGG.out];exact HR3.out)
  have HB3:Hid (Below w.heap.size w nq.u):=hid (HB2.out.trans (nq.h.mono HB2.out.size))
  clear q0 q1 q2 q3 q4 z8 hcv HR2 HR3 HB2 HG2 HGG HS2
  generalize nq.u=w3 at *
  clear nq
  have c0:=cell_of_row (w3) G1 0 _ _ _ HR1.out
  have c1:=cell_of_row (w3) G1 1 _ _ _ HR1.out
  have c2:=cell_of_row (w3) G1 2 _ _ _ HR1.out
  have c3:=cell_of_row (w3) G1 3 _ _ _ HR1.out
  have c4:=cell_of_row (w3) G1 4 _ _ _ HR1.out
  simp only [List.getElem?_toArray,List.getElem?_cons_zero,List.getElem?_cons_succ] at c0 c1 c2 c3 c4
  have f0:=frozen_of (W:=w3) HR1.out 0
  have f1:=frozen_of (W:=w3) HR1.out 1
  have f2:=frozen_of (W:=w3) HR1.out 2
  have f3:=frozen_of (W:=w3) HR1.out 3
  have f4:=frozen_of (W:=w3) HR1.out 4
  go_wp2_with (fail)
  clear c0 c1 c2 c3 c4 f0 f1 f2 f3 f4
  have hrow:=setFive_row (W:=w3) HR1.out (.int .u8 0) (.int .u8 0) (.int .u8 0) (.int .u8 0) (.int .u8 0)
  have hbel:=setFive_below (W:=w3) HB3.out HG1.out (.int .u8 0) (.int .u8 0) (.int .u8 0) (.int .u8 0) (.int .u8 0)
  unfold setFive at hrow hbel
  generalize (((((w3.setCell ⟨G1,0,none⟩ (.int .u8 0)).setCell ⟨G1,1,none⟩ (.int .u8 0)).setCell ⟨G1,2,none⟩ (.int .u8 0)).setCell ⟨G1,3,none⟩ (.int .u8 0)).setCell ⟨G1,4,none⟩ (.int .u8 0))=W5 at hrow hbel ⊢
  have c0:=cell_of_row _ G1 0 _ _ _ hrow
  have c1:=cell_of_row _ G1 1 _ _ _ hrow
  have c2:=cell_of_row _ G1 2 _ _ _ hrow
  have c3:=cell_of_row _ G1 3 _ _ _ hrow
  have c4:=cell_of_row _ G1 4 _ _ _ hrow
  simp only [List.getElem?_toArray,List.getElem?_cons_zero,List.getElem?_cons_succ] at c0 c1 c2 c3 c4
  exact bodyPost_ret (v:=.tuple #[dlm 0 0 0 0 0,.int .i64 11]) (by simp [results,Tryz.results119,go_sem,c0,c1,c2,c3,c4]) rfl ⟨by rw [HRZ.out];rfl,hbel⟩
end
section
open Go.RowKit
theorem refRead (A:Option Addr) (n c:Nat) (l:List UInt8) (w:World) (hB:Bs w A n c l) :
    Calls Tryz.prog 119 #[.slice A n c] w fun e w'=>e=.returned (.tuple #[(readD l).1.v,.int .i64 (readD l).2])∧Below w.heap.size w w':=by
  by_cases h9:(n:Int)<9
  · exact refRead_short A n c l w hB h9
  by_cases hm:l.take 3=[77,83,72]
  · cases hgd:(Sgn.of l).good
    · exact refRead_bad A n c l w hB h9 hm hgd
    · by_cases h1:l.getD 8 0=l.getD 3 0
      · exact refRead_first A n c l w hB h9 hm hgd h1
      · by_cases h2:l.getD 8 0=13
        · exact refRead_tail A n c l w hB h9 hm hgd h1 h2
        · exact refRead_other A n c l w hB h9 hm hgd h1 h2
  · exact refRead_head A n c l w hB h9 hm
end
end Go.Proofs.YtodjilljcjkacaaGreatDoor
