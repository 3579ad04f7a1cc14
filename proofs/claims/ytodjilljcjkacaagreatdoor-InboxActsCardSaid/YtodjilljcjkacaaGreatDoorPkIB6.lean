/- Laid together: Dk8, Dk14, Dk10, Dk15. -/
import Derived.Test.YtodjilljcjkacaaGreatDoorPkIB5

namespace Go.Proofs.YtodjilljcjkacaaGreatDoor
open Lib (hid)
section
open Go.RowKit Go.MapKept
section
variable {w w':World} {B D M:Nat} {d:Dk} {F:List Ent}
def trFl (n:Nat) (f:Fl):Fl:=⟨f.bs.take n,min f.safe n⟩
set_option maxHeartbeats 2000000 in
set_option maxRecDepth 100000 in
theorem dkTruncate1 {P Q:List Ent} {nm:ByteArray} {g:Nat} {A0:Option Addr} {c0:Nat} {f:Fl} (h:DkAt w B D M d (P++⟨nm,g,.slice A0 f.bs.length c0,f⟩ :: Q)) (n:Nat) (hn:n≤f.bs.length) (hu:(f.bs.length:Int)≤d.used∧d.used≤1073741824) (X Y Z:Nat) (hX:X≠D∧X≠g) (hY:Y≠D∧Y≠g) (hZ:Z≠D∧Z≠g)
    (hx:w.cell? ⟨X,0,none⟩=some (pD D)) (hy:w.cell? ⟨Y,0,none⟩=some (pf g)) (hz:w.cell? ⟨Z,0,none⟩=some (.int .i64 (n:Int))) :
    Calls Tryz.prog 136 #[.pointer (some ⟨X,0,none⟩),.pointer (some ⟨Y,0,none⟩),.pointer (some ⟨Z,0,none⟩)] w fun e w'=>e=.returned (.tuple #[])∧DkAt w' B D M { d with used:=d.used-((f.bs.length:Int)-(n:Int)) } (P++⟨nm,g,.slice A0 n c0,trFl n f⟩ :: Q)∧DkCh D M (P++⟨nm,g,.slice A0 f.bs.length c0,f⟩ :: Q) (P++⟨nm,g,.slice A0 n c0,trFl n f⟩ :: Q) w w':=by
  have H:=hid h
  have HFA:=hid (h.files ⟨nm,g,.slice A0 f.bs.length c0,f⟩ (by simp))
  have y0:w.cell? ⟨g,0,none⟩=some (.slice A0 f.bs.length c0):=HFA.out.cell 0
  have y1:w.cell? ⟨g,1,none⟩=some (.int .i64 f.safe):=HFA.out.cell 1
  have c2:w.cell? ⟨D,2,none⟩=some (.int .i64 d.used):=h.cell 2
  have f2:=h.frozen 2
  have hgd:=(HFA.out.neD h.row).1
  simp only at hgd
  have hdg:D≠g:=fun e=>hgd e.symm
  obtain ⟨r,hr⟩:∃ r:Int,r=(f.bs.length:Int)-(n:Int):=⟨_,rfl⟩
  obtain ⟨u,hu'⟩:∃ u:Int,u=d.used-r:=⟨_,rfl⟩
  have e1:(f.bs.length:Int)-(n:Int)=r:=hr.symm
  have e2:d.used-r=u:=hu'.symm
  have hu1:=hu.1
  have hu2:=hu.2
  rw [e1,e2]
  have HN:=hid hn
  have hrb:0≤r∧r≤d.used:=by omega
  have hX1:=hX.1
  have hX2:=hX.2
  have hY1:=hY.1
  have hY2:=hY.2
  have hZ1:=hZ.1
  have hZ2:=hZ.2
  clear h hu hr hu' hX hY hZ
  go_enter Tryz.func136,Tryz.ntmps136
  go_wp2_with (fail)
  go_region
  all_goals
    have hch:Ch (At1 D) w (w.setCell ⟨D,2,none⟩ (.int .i64 u)).drew:=((Ch.refl _ w).set1 2 _).drew
    have H2:Hid (DkAt (w.setCell ⟨D,2,none⟩ (.int .i64 u)).drew B D M { d with used:=u } (P++⟨nm,g,.slice A0 f.bs.length c0,f⟩ :: Q)):=hid (H.out.nums hch (heap_set_row H.out.row _))
    have HCH2:Hid (DkCh D M (P++⟨nm,g,.slice A0 f.bs.length c0,f⟩ :: Q) (P++⟨nm,g,.slice A0 f.bs.length c0,f⟩ :: Q) w (w.setCell ⟨D,2,none⟩ (.int .i64 u)).drew):=hid (DkCh.of1 hch)
    have x2:∀ (V:Nat) (x:Value),V≠D→w.cell? ⟨V,0,none⟩=some x→(w.setCell ⟨D,2,none⟩ (.int .i64 u)).drew.cell? ⟨V,0,none⟩=some x:=fun V x hV hx=>by
      rw [World.cell?_of_block (w:=w) (a:=⟨V,0,none⟩) (hch.block V (World.block_lt_of_cell? w _ hx) hV)];exact hx
    have x20:=x2 X _ hX1 hx
    have x21:=x2 Y _ hY1 hy
    have x22:=x2 Z _ hZ1 hz
    clear x2 hch hx hy hz y0 y1 c2 f2
    generalize (w.setCell ⟨D,2,none⟩ (.int .i64 u)).drew=w2 at *
    have HFA2:=hid (H2.out.files ⟨nm,g,.slice A0 f.bs.length c0,f⟩ (by simp))
    have y0:w2.cell? ⟨g,0,none⟩=some (.slice A0 f.bs.length c0):=HFA2.out.cell 0
    have y1:w2.cell? ⟨g,1,none⟩=some (.int .i64 f.safe):=HFA2.out.cell 1
    have f0:w2.frozen? ⟨g,0,none⟩=false:=HFA2.out.frozen 0
    have hnc:(n:Int)≤(c0:Int):=by
      obtain ⟨A',c',hv',hb',_⟩:=Own.bs HFA2.out.own
      injection hv' with hv1 hv2 hv3
      have:=hb'.le
      omega
    have HC3:=hid (H2.out.cut rfl n HN.out)
    go_wp2_with (fail)
    go_region
    all_goals
      have H3:Hid (DkAt (w2.setCell ⟨g,0,none⟩ (.slice A0 n c0)).drew B D M { d with used:=u } (P++⟨nm,g,.slice A0 n c0,⟨f.bs.take n,f.safe⟩⟩ :: Q)):=hid (HC3.out.1.below (Below.refl _ _).drew)
      have HCH3:Hid (DkCh D M (P++⟨nm,g,.slice A0 f.bs.length c0,f⟩ :: Q) (P++⟨nm,g,.slice A0 n c0,⟨f.bs.take n,f.safe⟩⟩ :: Q) w (w2.setCell ⟨g,0,none⟩ (.slice A0 n c0)).drew):=hid (HCH2.out.trans (HC3.out.2.trans (DkCh.of_below (Below.refl _ _).drew)))
      have x3:∀ (V:Nat) (x:Value),V≠g→w2.cell? ⟨V,0,none⟩=some x→(w2.setCell ⟨g,0,none⟩ (.slice A0 n c0)).drew.cell? ⟨V,0,none⟩=some x:=fun V x hV hx=>by
        rw [World.cell?_of_block (w:=w2) (a:=⟨V,0,none⟩) (((Ch.refl (fun k=>k=g) w2).set (a:=⟨g,0,none⟩) rfl (.slice A0 n c0)).drew.block V (World.block_lt_of_cell? w2 _ hx) hV)];exact hx
      have x30:=x3 X _ hX2 x20
      have x31:=x3 Y _ hY2 x21
      have x32:=x3 Z _ hZ2 x22
      clear x3 x20 x21 x22 y0 y1 f0
      generalize (w2.setCell ⟨g,0,none⟩ (.slice A0 n c0)).drew=w3 at *
      have HFA3:=hid (H3.out.files ⟨nm,g,.slice A0 n c0,⟨f.bs.take n,f.safe⟩⟩ (by simp))
      have y1:w3.cell? ⟨g,1,none⟩=some (.int .i64 f.safe):=HFA3.out.cell 1
      have f1:w3.frozen? ⟨g,1,none⟩=false:=HFA3.out.frozen 1
      obtain ⟨s,hsm⟩:∃ s,s=min f.safe n:=⟨_,rfl⟩
      have e3:min (f.safe:Int) (n:Int)=(s:Int):=by rw [hsm];omega
      have HS:Hid (trFl n f=⟨f.bs.take n,s⟩):=hid (by unfold trFl;rw [hsm])
      have HC4:=hid (H3.out.safe s)
      clear hsm
      go_wp2_with (fail)
      go_region
      all_goals
        go_end0
        rw [HS.out]
        exact ⟨rfl,HC4.out.1.below (Below.refl _ _).drew,HCH3.out.trans (HC4.out.2.trans (DkCh.of_below (Below.refl _ _).drew))⟩
set_option maxHeartbeats 2000000 in
set_option maxRecDepth 100000 in
theorem dkTruncate_none (h:DkAt w B D M d F) (nm:ByteArray) (n:Int) (hn:∀ e ∈ F,e.nm≠nm):Calls Tryz.prog 97 #[pD D,.string nm,.int .i64 n] w fun e w'=>e=.returned (.int .i64 6)∧Below w.heap.size w w':=by
  have hb1:Below w.heap.size w ((w.alloc (.cells #[pD D] 26)).alloc (.cells #[.int .i64 n] 3)):=((Below.refl _ _).alloc (Nat.le_refl _) _).alloc (by simp) _
  have hr1:((w.alloc (.cells #[pD D] 26)).alloc (.cells #[.int .i64 n] 3)).heap[w.heap.size]?=some (.cells #[pD D] 26)∧((w.alloc (.cells #[pD D] 26)).alloc (.cells #[.int .i64 n] 3)).heap[w.heap.size+1]?=some (.cells #[.int .i64 n] 3)∧((w.alloc (.cells #[pD D] 26)).alloc (.cells #[.int .i64 n] 3)).heap.size=w.heap.size+2:=by
    have h1:=heap_alloc_new w (.cells #[pD D] 26)
    have h2:=heap_alloc_new (w.alloc (.cells #[pD D] 26)) (.cells #[.int .i64 n] 3)
    refine ⟨?_,by simpa using h2,by simp⟩
    rw [((Below.refl (w.alloc (.cells #[pD D] 26)).heap.size (w.alloc (.cells #[pD D] 26))).alloc (Nat.le_refl _) _).block _ (by simp)]
    exact h1
  have h1:=h.below hb1
  have c0':((w.alloc (.cells #[pD D] 26)).alloc (.cells #[.int .i64 n] 3)).cell? ⟨D,0,none⟩=some (.map (some M)):=h1.cell 0
  have x0:((w.alloc (.cells #[pD D] 26)).alloc (.cells #[.int .i64 n] 3)).cell? ⟨w.heap.size,0,none⟩=some (pD D):=cell_of_row _ _ 0 _ _ _ hr1.1
  have hz:(zeroValue 119).run Tryz.prog ((w.alloc (.cells #[pD D] 26)).alloc (.cells #[.int .i64 n] 3))=.ok (.pointer none) ((w.alloc (.cells #[pD D] 26)).alloc (.cells #[.int .i64 n] 3)):=by kernel_rfl
  have HNO:=hid (aget_none hn)
  have H:=hid h1
  have HB1:=hid hb1
  have tok1:Hid True:=hid trivial
  clear h hn h1 hb1 hr1
  go_enter Tryz.func97,Tryz.ntmps97
  go_wp2_with (first | (at_lookup;have _t:=tok1;refine wpList_lookupL rfl kS (.tmp 13) (.tmp 14) 116 119 false rfl Tryz.underlying116 M (mapL F) rfl H.out.map nm rfl (.pointer none) hz ?_;rw [HNO.out];simp only [Option.getD_none,Bool.false_eq_true,if_false];clear tok1 _t))
  go_ret
  exact ⟨rfl,HB1.out.alloc HB1.out.size _⟩
set_option maxHeartbeats 2000000 in
set_option maxRecDepth 100000 in
theorem dkTruncate_neg {P Q:List Ent} {nm:ByteArray} {g:Nat} {A0:Option Addr} {c0:Nat} {f:Fl} (h:DkAt w B D M d (P++⟨nm,g,.slice A0 f.bs.length c0,f⟩ :: Q)) (hfi:∀ x ∈ P,x.nm≠nm) (n:Int) (hn:n<0) :
    Calls Tryz.prog 97 #[pD D,.string nm,.int .i64 n] w fun e w'=>e=.returned (.int .i64 3)∧Below w.heap.size w w':=by
  have d1:decide (n<0)=true:=by simpa using hn
  clear hn
  have hb1:Below w.heap.size w ((w.alloc (.cells #[pD D] 26)).alloc (.cells #[.int .i64 n] 3)):=((Below.refl _ _).alloc (Nat.le_refl _) _).alloc (by simp) _
  have hr1:((w.alloc (.cells #[pD D] 26)).alloc (.cells #[.int .i64 n] 3)).heap[w.heap.size]?=some (.cells #[pD D] 26)∧((w.alloc (.cells #[pD D] 26)).alloc (.cells #[.int .i64 n] 3)).heap[w.heap.size+1]?=some (.cells #[.int .i64 n] 3)∧((w.alloc (.cells #[pD D] 26)).alloc (.cells #[.int .i64 n] 3)).heap.size=w.heap.size+2:=by
    have h1:=heap_alloc_new w (.cells #[pD D] 26)
    have h2:=heap_alloc_new (w.alloc (.cells #[pD D] 26)) (.cells #[.int .i64 n] 3)
    refine ⟨?_,by simpa using h2,by simp⟩
    rw [((Below.refl (w.alloc (.cells #[pD D] 26)).heap.size (w.alloc (.cells #[pD D] 26))).alloc (Nat.le_refl _) _).block _ (by simp)]
    exact h1
  have h1:=h.below hb1
  have c0':((w.alloc (.cells #[pD D] 26)).alloc (.cells #[.int .i64 n] 3)).cell? ⟨D,0,none⟩=some (.map (some M)):=h1.cell 0
  have x0:((w.alloc (.cells #[pD D] 26)).alloc (.cells #[.int .i64 n] 3)).cell? ⟨w.heap.size,0,none⟩=some (pD D):=cell_of_row _ _ 0 _ _ _ hr1.1
  have hz:(zeroValue 119).run Tryz.prog ((w.alloc (.cells #[pD D] 26)).alloc (.cells #[.int .i64 n] 3))=.ok (.pointer none) ((w.alloc (.cells #[pD D] 26)).alloc (.cells #[.int .i64 n] 3)):=by kernel_rfl
  have HYES:Hid (aget (mapL (P++⟨nm,g,.slice A0 f.bs.length c0,f⟩ :: Q)) nm=some (pf g)):=hid (aget_at (e:=⟨nm,g,.slice A0 f.bs.length c0,f⟩) hfi)
  have H:=hid h1
  have hb2:Below ((w.alloc (.cells #[pD D] 26)).alloc (.cells #[.int .i64 n] 3)).heap.size ((w.alloc (.cells #[pD D] 26)).alloc (.cells #[.int .i64 n] 3)) (((w.alloc (.cells #[pD D] 26)).alloc (.cells #[.int .i64 n] 3)).alloc (.cells #[pf g] 119)):=(Below.refl _ _).alloc (Nat.le_refl _) _
  have H2:=hid (h1.below hb2)
  have HB2:Hid (Below w.heap.size w (((w.alloc (.cells #[pD D] 26)).alloc (.cells #[.int .i64 n] 3)).alloc (.cells #[pf g] 119))):=hid (hb1.trans (hb2.mono hb1.size))
  have HR2:Hid ((((w.alloc (.cells #[pD D] 26)).alloc (.cells #[.int .i64 n] 3)).alloc (.cells #[pf g] 119)).heap[w.heap.size]?=some (.cells #[pD D] 26)∧(((w.alloc (.cells #[pD D] 26)).alloc (.cells #[.int .i64 n] 3)).alloc (.cells #[pf g] 119)).heap[w.heap.size+1]?=some (.cells #[.int .i64 n] 3)∧(((w.alloc (.cells #[pD D] 26)).alloc (.cells #[.int .i64 n] 3)).alloc (.cells #[pf g] 119)).heap[w.heap.size+2]?=some (.cells #[pf g] 119)):=hid (by
    have h3:=heap_alloc_new ((w.alloc (.cells #[pD D] 26)).alloc (.cells #[.int .i64 n] 3)) (.cells #[pf g] 119)
    rw [hr1.2.2] at h3
    exact ⟨(hb2.block _ (by rw [hr1.2.2];omega)).trans hr1.1,(hb2.block _ (by rw [hr1.2.2];omega)).trans hr1.2.1,h3⟩)
  have HDL:Hid (D<w.heap.size∧g<w.heap.size):=hid ⟨h.lt,(h.files ⟨nm,g,.slice A0 f.bs.length c0,f⟩ (by simp)).lt⟩
  have tok1:Hid True:=hid trivial
  clear h hfi h1 hb1 hr1 hb2
  go_enter Tryz.func97,Tryz.ntmps97
  go_wp2_with (first | (at_lookup;have _t:=tok1;refine wpList_lookupL rfl kS (.tmp 13) (.tmp 14) 116 119 false rfl Tryz.underlying116 M (mapL (P++⟨nm,g,.slice A0 f.bs.length c0,f⟩ :: Q)) rfl H.out.map nm rfl (.pointer none) hz ?_;rw [HYES.out];simp only [Option.getD_some,Bool.false_eq_true,if_false];clear tok1 _t))
  generalize (((w.alloc (.cells #[pD D] 26)).alloc (.cells #[.int .i64 n] 3)).alloc (.cells #[pf g] 119))=w2 at *
  have x0:w2.cell? ⟨w.heap.size,0,none⟩=some (pD D):=cell_of_row _ _ 0 _ _ _ HR2.out.1
  have x1:w2.cell? ⟨w.heap.size+1,0,none⟩=some (.int .i64 n):=cell_of_row _ _ 0 _ _ _ HR2.out.2.1
  have x2:w2.cell? ⟨w.heap.size+2,0,none⟩=some (pf g):=cell_of_row _ _ 0 _ _ _ HR2.out.2.2
  have y0:w2.cell? ⟨g,0,none⟩=some (.slice A0 f.bs.length c0):=(H2.out.files ⟨nm,g,.slice A0 f.bs.length c0,f⟩ (by simp)).cell 0
  go_wp2_with (fail)
  go_quiet (fail)
  go_wp2_with (fail)
  go_ret
  exact ⟨rfl,HB2.out.trans (drawN_below ((Below.refl _ _).mono HB2.out.size) _)⟩
set_option maxHeartbeats 2000000 in
set_option maxRecDepth 100000 in
theorem dkTruncate_far {P Q:List Ent} {nm:ByteArray} {g:Nat} {A0:Option Addr} {c0:Nat} {f:Fl} (h:DkAt w B D M d (P++⟨nm,g,.slice A0 f.bs.length c0,f⟩ :: Q)) (hfi:∀ x ∈ P,x.nm≠nm) (n:Int) (hn:(f.bs.length:Int)<n) :
    Calls Tryz.prog 97 #[pD D,.string nm,.int .i64 n] w fun e w'=>e=.returned (.int .i64 3)∧Below w.heap.size w w':=by
  have d1:decide (n<0)=false:=by simp;omega
  have d2:decide ((f.bs.length:Int)<n)=true:=by simpa using hn
  clear hn
  have hb1:Below w.heap.size w ((w.alloc (.cells #[pD D] 26)).alloc (.cells #[.int .i64 n] 3)):=((Below.refl _ _).alloc (Nat.le_refl _) _).alloc (by simp) _
  have hr1:((w.alloc (.cells #[pD D] 26)).alloc (.cells #[.int .i64 n] 3)).heap[w.heap.size]?=some (.cells #[pD D] 26)∧((w.alloc (.cells #[pD D] 26)).alloc (.cells #[.int .i64 n] 3)).heap[w.heap.size+1]?=some (.cells #[.int .i64 n] 3)∧((w.alloc (.cells #[pD D] 26)).alloc (.cells #[.int .i64 n] 3)).heap.size=w.heap.size+2:=by
    have h1:=heap_alloc_new w (.cells #[pD D] 26)
    have h2:=heap_alloc_new (w.alloc (.cells #[pD D] 26)) (.cells #[.int .i64 n] 3)
    refine ⟨?_,by simpa using h2,by simp⟩
    rw [((Below.refl (w.alloc (.cells #[pD D] 26)).heap.size (w.alloc (.cells #[pD D] 26))).alloc (Nat.le_refl _) _).block _ (by simp)]
    exact h1
  have h1:=h.below hb1
  have c0':((w.alloc (.cells #[pD D] 26)).alloc (.cells #[.int .i64 n] 3)).cell? ⟨D,0,none⟩=some (.map (some M)):=h1.cell 0
  have x0:((w.alloc (.cells #[pD D] 26)).alloc (.cells #[.int .i64 n] 3)).cell? ⟨w.heap.size,0,none⟩=some (pD D):=cell_of_row _ _ 0 _ _ _ hr1.1
  have hz:(zeroValue 119).run Tryz.prog ((w.alloc (.cells #[pD D] 26)).alloc (.cells #[.int .i64 n] 3))=.ok (.pointer none) ((w.alloc (.cells #[pD D] 26)).alloc (.cells #[.int .i64 n] 3)):=by kernel_rfl
  have HYES:Hid (aget (mapL (P++⟨nm,g,.slice A0 f.bs.length c0,f⟩ :: Q)) nm=some (pf g)):=hid (aget_at (e:=⟨nm,g,.slice A0 f.bs.length c0,f⟩) hfi)
  have H:=hid h1
  have hb2:Below ((w.alloc (.cells #[pD D] 26)).alloc (.cells #[.int .i64 n] 3)).heap.size ((w.alloc (.cells #[pD D] 26)).alloc (.cells #[.int .i64 n] 3)) (((w.alloc (.cells #[pD D] 26)).alloc (.cells #[.int .i64 n] 3)).alloc (.cells #[pf g] 119)):=(Below.refl _ _).alloc (Nat.le_refl _) _
  have H2:=hid (h1.below hb2)
  have HB2:Hid (Below w.heap.size w (((w.alloc (.cells #[pD D] 26)).alloc (.cells #[.int .i64 n] 3)).alloc (.cells #[pf g] 119))):=hid (hb1.trans (hb2.mono hb1.size))
  have HR2:Hid ((((w.alloc (.cells #[pD D] 26)).alloc (.cells #[.int .i64 n] 3)).alloc (.cells #[pf g] 119)).heap[w.heap.size]?=some (.cells #[pD D] 26)∧(((w.alloc (.cells #[pD D] 26)).alloc (.cells #[.int .i64 n] 3)).alloc (.cells #[pf g] 119)).heap[w.heap.size+1]?=some (.cells #[.int .i64 n] 3)∧(((w.alloc (.cells #[pD D] 26)).alloc (.cells #[.int .i64 n] 3)).alloc (.cells #[pf g] 119)).heap[w.heap.size+2]?=some (.cells #[pf g] 119)):=hid (by
    have h3:=heap_alloc_new ((w.alloc (.cells #[pD D] 26)).alloc (.cells #[.int .i64 n] 3)) (.cells #[pf g] 119)
    rw [hr1.2.2] at h3
    exact ⟨(hb2.block _ (by rw [hr1.2.2];omega)).trans hr1.1,(hb2.block _ (by rw [hr1.2.2];omega)).trans hr1.2.1,h3⟩)
  have HDL:Hid (D<w.heap.size∧g<w.heap.size):=hid ⟨h.lt,(h.files ⟨nm,g,.slice A0 f.bs.length c0,f⟩ (by simp)).lt⟩
  have tok1:Hid True:=hid trivial
  clear h hfi h1 hb1 hr1 hb2
  go_enter Tryz.func97,Tryz.ntmps97
  go_wp2_with (first | (at_lookup;have _t:=tok1;refine wpList_lookupL rfl kS (.tmp 13) (.tmp 14) 116 119 false rfl Tryz.underlying116 M (mapL (P++⟨nm,g,.slice A0 f.bs.length c0,f⟩ :: Q)) rfl H.out.map nm rfl (.pointer none) hz ?_;rw [HYES.out];simp only [Option.getD_some,Bool.false_eq_true,if_false];clear tok1 _t))
  generalize (((w.alloc (.cells #[pD D] 26)).alloc (.cells #[.int .i64 n] 3)).alloc (.cells #[pf g] 119))=w2 at *
  have x0:w2.cell? ⟨w.heap.size,0,none⟩=some (pD D):=cell_of_row _ _ 0 _ _ _ HR2.out.1
  have x1:w2.cell? ⟨w.heap.size+1,0,none⟩=some (.int .i64 n):=cell_of_row _ _ 0 _ _ _ HR2.out.2.1
  have x2:w2.cell? ⟨w.heap.size+2,0,none⟩=some (pf g):=cell_of_row _ _ 0 _ _ _ HR2.out.2.2
  have y0:w2.cell? ⟨g,0,none⟩=some (.slice A0 f.bs.length c0):=(H2.out.files ⟨nm,g,.slice A0 f.bs.length c0,f⟩ (by simp)).cell 0
  go_wp2_with (fail)
  go_quiet (fail)
  go_wp2_with (fail)
  go_ret
  exact ⟨rfl,HB2.out.trans (drawN_below ((Below.refl _ _).mono HB2.out.size) _)⟩
def TrR (B D M:Nat) (d:Dk) (P Q:List Ent) (nm:ByteArray) (g:Nat) (A0:Option Addr) (c0:Nat) (f:Fl) (k:Nat) (w w':World):Prop:=DkAt w' B D M { d.begin with used:=d.used-((f.bs.length:Int)-(k:Int)) } (P++⟨nm,g,.slice A0 k c0,trFl k f⟩ :: Q)∧DkCh D M (P++⟨nm,g,.slice A0 f.bs.length c0,f⟩ :: Q) (P++⟨nm,g,.slice A0 k c0,trFl k f⟩ :: Q) w w'
set_option maxHeartbeats 2000000 in
set_option maxRecDepth 100000 in
theorem dkTruncate {P Q:List Ent} {nm:ByteArray} {g:Nat} {A0:Option Addr} {c0:Nat} {f:Fl} (h:DkAt w B D M d (P++⟨nm,g,.slice A0 f.bs.length c0,f⟩ :: Q)) (hfi:∀ x ∈ P,x.nm≠nm) (k:Nat) (hk:k≤f.bs.length) (ok:d.Ok) (hu:(f.bs.length:Int)≤d.used) :
    Calls Tryz.prog 97 #[pD D,.string nm,.int .i64 (k:Int)] w (ChOut (.int .i64 0) d (TrR B D M d P Q nm g A0 c0 f k w) (NoR B D M d (P++⟨nm,g,.slice A0 f.bs.length c0,f⟩ :: Q) w)):=by
  have d1:decide ((k:Int)<0)=false:=by rw [decide_eq_false_iff_not];omega
  have d2:decide (f.bs.length<k)=false:=by rw [decide_eq_false_iff_not];omega
  have HK:=hid hk
  have OK:=hid ok
  have HU:=hid hu
  clear hk ok hu
  have hb1:Below w.heap.size w ((w.alloc (.cells #[pD D] 26)).alloc (.cells #[.int .i64 (k:Int)] 3)):=((Below.refl _ _).alloc (Nat.le_refl _) _).alloc (by simp) _
  have hr1:((w.alloc (.cells #[pD D] 26)).alloc (.cells #[.int .i64 (k:Int)] 3)).heap[w.heap.size]?=some (.cells #[pD D] 26)∧((w.alloc (.cells #[pD D] 26)).alloc (.cells #[.int .i64 (k:Int)] 3)).heap[w.heap.size+1]?=some (.cells #[.int .i64 (k:Int)] 3)∧((w.alloc (.cells #[pD D] 26)).alloc (.cells #[.int .i64 (k:Int)] 3)).heap.size=w.heap.size+2:=by
    have h1:=heap_alloc_new w (.cells #[pD D] 26)
    have h2:=heap_alloc_new (w.alloc (.cells #[pD D] 26)) (.cells #[.int .i64 (k:Int)] 3)
    refine ⟨?_,by simpa using h2,by simp⟩
    rw [((Below.refl (w.alloc (.cells #[pD D] 26)).heap.size (w.alloc (.cells #[pD D] 26))).alloc (Nat.le_refl _) _).block _ (by simp)]
    exact h1
  have h1:=h.below hb1
  have c0':((w.alloc (.cells #[pD D] 26)).alloc (.cells #[.int .i64 (k:Int)] 3)).cell? ⟨D,0,none⟩=some (.map (some M)):=h1.cell 0
  have x0:((w.alloc (.cells #[pD D] 26)).alloc (.cells #[.int .i64 (k:Int)] 3)).cell? ⟨w.heap.size,0,none⟩=some (pD D):=cell_of_row _ _ 0 _ _ _ hr1.1
  have hz:(zeroValue 119).run Tryz.prog ((w.alloc (.cells #[pD D] 26)).alloc (.cells #[.int .i64 (k:Int)] 3))=.ok (.pointer none) ((w.alloc (.cells #[pD D] 26)).alloc (.cells #[.int .i64 (k:Int)] 3)):=by kernel_rfl
  have HYES:Hid (aget (mapL (P++⟨nm,g,.slice A0 f.bs.length c0,f⟩ :: Q)) nm=some (pf g)):=hid (aget_at (e:=⟨nm,g,.slice A0 f.bs.length c0,f⟩) hfi)
  have H:=hid h1
  have hb2:Below ((w.alloc (.cells #[pD D] 26)).alloc (.cells #[.int .i64 (k:Int)] 3)).heap.size ((w.alloc (.cells #[pD D] 26)).alloc (.cells #[.int .i64 (k:Int)] 3)) (((w.alloc (.cells #[pD D] 26)).alloc (.cells #[.int .i64 (k:Int)] 3)).alloc (.cells #[pf g] 119)):=(Below.refl _ _).alloc (Nat.le_refl _) _
  have H2:=hid (h1.below hb2)
  have HB2:Hid (Below w.heap.size w (((w.alloc (.cells #[pD D] 26)).alloc (.cells #[.int .i64 (k:Int)] 3)).alloc (.cells #[pf g] 119))):=hid (hb1.trans (hb2.mono hb1.size))
  have HR2:Hid ((((w.alloc (.cells #[pD D] 26)).alloc (.cells #[.int .i64 (k:Int)] 3)).alloc (.cells #[pf g] 119)).heap[w.heap.size]?=some (.cells #[pD D] 26)∧(((w.alloc (.cells #[pD D] 26)).alloc (.cells #[.int .i64 (k:Int)] 3)).alloc (.cells #[pf g] 119)).heap[w.heap.size+1]?=some (.cells #[.int .i64 (k:Int)] 3)∧(((w.alloc (.cells #[pD D] 26)).alloc (.cells #[.int .i64 (k:Int)] 3)).alloc (.cells #[pf g] 119)).heap[w.heap.size+2]?=some (.cells #[pf g] 119)):=hid (by
    have h3:=heap_alloc_new ((w.alloc (.cells #[pD D] 26)).alloc (.cells #[.int .i64 (k:Int)] 3)) (.cells #[pf g] 119)
    rw [hr1.2.2] at h3
    exact ⟨(hb2.block _ (by rw [hr1.2.2];omega)).trans hr1.1,(hb2.block _ (by rw [hr1.2.2];omega)).trans hr1.2.1,h3⟩)
  have HDL:Hid (D<w.heap.size∧g<w.heap.size):=hid ⟨h.lt,(h.files ⟨nm,g,.slice A0 f.bs.length c0,f⟩ (by simp)).lt⟩
  have tok1:Hid True:=hid trivial
  clear h hfi h1 hb1 hr1 hb2
  go_enter Tryz.func97,Tryz.ntmps97
  go_wp2_with (first | (at_lookup;have _t:=tok1;refine wpList_lookupL rfl kS (.tmp 13) (.tmp 14) 116 119 false rfl Tryz.underlying116 M (mapL (P++⟨nm,g,.slice A0 f.bs.length c0,f⟩ :: Q)) rfl H.out.map nm rfl (.pointer none) hz ?_;rw [HYES.out];simp only [Option.getD_some,Bool.false_eq_true,if_false];clear tok1 _t))
  generalize (((w.alloc (.cells #[pD D] 26)).alloc (.cells #[.int .i64 (k:Int)] 3)).alloc (.cells #[pf g] 119))=w2 at *
  have x0:w2.cell? ⟨w.heap.size,0,none⟩=some (pD D):=cell_of_row _ _ 0 _ _ _ HR2.out.1
  have x1:w2.cell? ⟨w.heap.size+1,0,none⟩=some (.int .i64 (k:Int)):=cell_of_row _ _ 0 _ _ _ HR2.out.2.1
  have x2:w2.cell? ⟨w.heap.size+2,0,none⟩=some (pf g):=cell_of_row _ _ 0 _ _ _ HR2.out.2.2
  have y0:w2.cell? ⟨g,0,none⟩=some (.slice A0 f.bs.length c0):=(H2.out.files ⟨nm,g,.slice A0 f.bs.length c0,f⟩ (by simp)).cell 0
  go_wp2_with (fail)
  go_quiet (fail)
  have hdr:Below w2.heap.size w2 (w2.drewN nq):=drawN_below (Below.refl _ w2) nq
  have H3:=hid (H2.out.below hdr)
  have HCH3:Hid (DkCh D M (P++⟨nm,g,.slice A0 f.bs.length c0,f⟩ :: Q) (P++⟨nm,g,.slice A0 f.bs.length c0,f⟩ :: Q) w (w2.drewN nq)):=hid ((DkCh.of_below HB2.out).trans (DkCh.of_below hdr))
  have HR3:Hid ((w2.drewN nq).heap[w.heap.size]?=some (.cells #[pD D] 26)∧(w2.drewN nq).heap[w.heap.size+1]?=some (.cells #[.int .i64 (k:Int)] 3)∧(w2.drewN nq).heap[w.heap.size+2]?=some (.cells #[pf g] 119)):=HR2
  have z0:(w2.drewN nq).cell? ⟨w.heap.size,0,none⟩=some (pD D):=cell_of_row _ _ 0 _ _ _ HR3.out.1
  clear x0 x1 x2 y0 hdr c0'
  generalize w2.drewN nq=w3 at *
  go_wp2_with (fail)
  refine (dkChange H3.out OK.out _ _ okTruncate1 (TrR B D M d P Q nm g A0 c0 f k w) (fun w4 h4 hc4=>?_) (fun w5 h5=>h5.1.cell 3)).mono ?_
  · have hdl:=HDL.out
    have hx:w4.cell? ⟨w.heap.size,0,none⟩=some (pD D):=cell_of_row _ _ 0 _ _ _ (hc4.row HR3.out.1 (by simp only [At1];omega))
    have hy:w4.cell? ⟨w.heap.size+2,0,none⟩=some (pf g):=cell_of_row _ _ 0 _ _ _ (hc4.row HR3.out.2.2 (by simp only [At1];omega))
    have hz:w4.cell? ⟨w.heap.size+1,0,none⟩=some (.int .i64 (k:Int)):=cell_of_row _ _ 0 _ _ _ (hc4.row HR3.out.2.1 (by simp only [At1];omega))
    refine (dkTruncate1 h4 k HK.out ⟨HU.out,OK.out.used.2⟩ _ _ _ ⟨by omega,by omega⟩ ⟨by omega,by omega⟩ ⟨by omega,by omega⟩ hx hy hz).mono ?_
    rintro e w5 ⟨rfl,h5,hc5⟩
    exact ⟨rfl,h5,HCH3.out.trans ((DkCh.of1 hc4).trans hc5)⟩
  · rintro e w6 h6
    rcases h6 with ⟨ha,rfl,hr⟩|⟨ha,rfl,hr⟩
    · have HR:=hid (And.intro ha hr)
      clear ha hr
      go_wp2_with (fail)
      go_ret
      exact .inl ⟨HR.out.1,rfl,HR.out.2⟩
    · have HR:Hid (d.armedIn=1∧((dOdd d=true∧TrR B D M d P Q nm g A0 c0 f k w w6)∨(dOdd d=false∧NoR B D M d (P++⟨nm,g,.slice A0 f.bs.length c0,f⟩ :: Q) w w6))):=hid ⟨ha,hr.imp id (fun h=>⟨h.1,h.2.1,HCH3.out.trans (DkCh.of1 h.2.2)⟩)⟩
      clear ha hr
      go_wp2_with (fail)
      exact ⟨rfl,.inr ⟨HR.out.1,rfl,HR.out.2⟩⟩
end
end
section
open Go.RowKit Go.MapKept
def ftotal (fs:Fs):Nat:=(fs.map fun e=>e.2.bs.length).sum
theorem ftotal_of (F:List Ent):ftotal (fsOf F)=total F:=by
  unfold ftotal total fsOf
  rw [List.map_map];rfl
theorem ftotal_app (a b:Fs):ftotal (a++b)=ftotal a+ftotal b:=by simp [ftotal]
theorem ftotal_cons (a:ByteArray × Fl) (b:Fs):ftotal (a :: b)=a.2.bs.length+ftotal b:=by simp [ftotal]
structure FsOk (d:Dk) (fs:Fs):Prop where
  ok:d.Ok
  tot:d.used=(ftotal fs:Int)
  safe:∀ e ∈ fs,e.2.safe≤e.2.bs.length
  names:(fs.map (·.1)).Nodup
theorem FsOk.dk {d:Dk} {F:List Ent} (h:FsOk d (fsOf F)):DkOk d F :=
  ⟨h.ok,by rw [h.tot,ftotal_of],fun e he=>h.safe (e.nm,e.f) (List.mem_map.2 ⟨e,he,rfl⟩)⟩
theorem FsOk.len {d:Dk} {fs:Fs} (h:FsOk d fs) {n:ByteArray} {f:Fl} (hf:fget fs n=some f):(f.bs.length:Int)≤d.used:=by
  rw [h.tot]
  have:f.bs.length≤ftotal fs:=by
    clear h
    induction fs with
    | nil=>cases hf
    | cons a r ih =>
      rw [ftotal_cons]
      unfold fget at hf
      split at hf
      · injection hf with hf;subst hf;omega
      · have:=ih hf;omega
  omega
theorem fget_mid {F:List Ent} {n:ByteArray} {f:Fl} (h:fget (fsOf F) n=some f):∃ P g v Q,F=P++⟨n,g,v,f⟩ :: Q∧∀ x ∈ P,x.nm≠n:=by
  rcases aget_split F n with ⟨_,h2⟩|⟨P,e,Q,rfl,rfl,_,h3⟩
  · rw [fget_none h2] at h;cases h
  · rw [fget_at h3] at h
    injection h with h
    subst h
    exact ⟨P,e.g,e.v,Q,rfl,h3⟩
theorem fget_no {F:List Ent} {n:ByteArray} (h:fget (fsOf F) n=none):∀ e ∈ F,e.nm≠n:=by
  rcases aget_split F n with ⟨_,h2⟩|⟨P,e,Q,rfl,rfl,_,h3⟩
  · exact h2
  · rw [fget_at h3] at h;cases h
abbrev Out:=(Int ⊕ Int) × Dk × Fs
def opChange (d:Dk) (fs:Fs) (x:Int) (d1 d2:Dk) (done:Fs):Out :=
  if d.armedIn=1 then (.inr (d.ops+1),if dOdd d then (d1,done) else (d2,fs)) else (.inl x,d1,done)
def opTrunc (d:Dk) (fs:Fs) (nm:ByteArray) (n:Int):Out :=
  match fget fs nm with
  | none=>(.inl 6,d,fs)
  | some f=>if n<0∨(f.bs.length:Int)<n then (.inl 3,d,fs) else opChange d fs 0 { d.begin with used:=d.used-((f.bs.length:Int)-(n.toNat:Int)) } d.begin (fput fs nm (trFl n.toNat f))
def opSync (d:Dk) (fs:Fs) (nm:ByteArray):Out :=
  match fget fs nm with
  | none=>(.inl 6,d,fs)
  | some f=>opChange d fs (syncErr (d.failIn == 1)) d.syncs.begin d.syncs.begin (fput fs nm (syncFl (d.failIn == 1) f))
def opRemove (d:Dk) (fs:Fs) (nm:ByteArray):Out :=
  match fget fs nm with
  | none=>(.inl 6,d,fs)
  | some f=>opChange d fs 0 { d.begin with used:=d.used-(f.bs.length:Int) } d.begin (fdel fs nm)
def flen (fs:Fs) (nm:ByteArray):Nat:=match fget fs nm with | some f=>f.bs.length | none=>0
def opRename (d:Dk) (fs:Fs) (nm to:ByteArray):Out :=
  match fget fs nm with
  | none=>(.inl 6,d,fs)
  | some f=>if nameD to=false then (.inl 16,d,fs) else if nm=to then opChange d fs 0 d.begin d.begin fs
    else opChange d fs 0 { d.begin with used:=d.used-(flen fs to:Int) } d.begin (fdel (fdel fs to) nm++[(to,f)])
def opSetRoom (d:Dk) (fs:Fs) (n:Int):Out:=if 0≤n∧n≤1073741824 then (.inl 0,{ d with room:=n },fs) else (.inl 3,d,fs)
def opFail (d:Dk) (fs:Fs) (n:Int):Out:=if n<1 then (.inl 3,d,fs) else (.inl 0,{ d with failIn:=n },fs)
def opArm (d:Dk) (fs:Fs) (n k:Int):Out:=if n<1 then (.inl 3,d,fs) else (.inl 0,{ d with armedIn:=n,armKeep:=k },fs)
def powFs (keep:Int) (fs:Fs):Fs:=fs.map fun e=>(e.1,powFl keep e.2)
def opPower (d:Dk) (fs:Fs) (keep:Int):Out:=(.inl 0,{ d with used:=(ftotal (powFs keep fs):Int),failIn:=0,armedIn:=0 },powFs keep fs)
def endM:Int ⊕ Int→Ending
  | .inl x=>.returned (.int .i64 x)
  | .inr op=>.panicked [{ v:=crashI op,recovered:=false }]
def MEnds (B D M:Nat) (F:List Ent) (w:World) (r:Out) (e:Ending) (w':World):Prop :=
  ∃ F',e=endM r.1∧DkAt w' B D M r.2.1 F'∧DkCh D M F F' w w'∧fsOf F'=r.2.2
section
variable {w:World} {B D M:Nat} {d:Dk} {F:List Ent}
theorem MEnds.same {d:Dk} {w':World} {x:Int} (h:DkAt w B D M d F) (hb:Below w.heap.size w w'):MEnds B D M F w (.inl x,d,fsOf F) (.returned (.int .i64 x)) w':=⟨F,rfl,h.below hb,DkCh.of_below hb,rfl⟩
theorem MEnds.change {d1 d2:Dk} {F1:List Ent} {e:Ending} {w':World} {x:Int} {Rgo Rno:World→Prop} (h:ChOut (.int .i64 x) d Rgo Rno e w')
    (h1:Rgo w'→DkAt w' B D M d1 F1∧DkCh D M F F1 w w') (h2:Rno w'→DkAt w' B D M d2 F∧DkCh D M F F w w') {fs:Fs} (hf:fsOf F1=fs):MEnds B D M F w (opChange d (fsOf F) x d1 d2 fs) e w':=by
  subst hf
  unfold opChange
  rcases h with ⟨ha,rfl,hr⟩|⟨ha,rfl,⟨ho,hr⟩|⟨ho,hr⟩⟩
  · rw [if_neg ha]
    exact ⟨F1,rfl,(h1 hr).1,(h1 hr).2,rfl⟩
  · rw [if_pos ha,if_pos ho]
    exact ⟨F1,rfl,(h1 hr).1,(h1 hr).2,rfl⟩
  · rw [if_pos ha,if_neg (by rw [ho];decide)]
    exact ⟨F,rfl,(h2 hr).1,(h2 hr).2,rfl⟩
theorem mSync (h:DkAt w B D M d F) (ok:FsOk d (fsOf F)) (nm:ByteArray):Calls Tryz.prog 67 #[pD D,.string nm] w (MEnds B D M F w (opSync d (fsOf F) nm)):=by
  unfold opSync
  cases hg:fget (fsOf F) nm with
  | none=>exact (dkSync_none h nm (fget_no hg)).mono fun e w' ⟨he,hb⟩=>by subst he;exact MEnds.same h hb
  | some f =>
    obtain ⟨P,g,v,Q,rfl,hfi⟩:=fget_mid hg
    have e1:fsOf (P++⟨nm,g,v,syncFl (d.failIn == 1) f⟩ :: Q)=fput (fsOf (P++⟨nm,g,v,f⟩ :: Q)) nm (syncFl (d.failIn == 1) f):=(fput_at (e:=⟨nm,g,v,f⟩) _ hfi g v).symm
    by_cases ha:d.armedIn=1
    · cases ho:dOdd d
      · refine (dkSync_even h ok.ok ha ho hfi).mono fun e w' ⟨he,h1,h2⟩=>?_
        simp only [opChange,if_pos ha,ho]
        exact ⟨_,he,h1,h2,rfl⟩
      · refine (dkSync_odd h ok.ok ha ho hfi).mono fun e w' ⟨he,h1,h2⟩=>?_
        simp only [opChange,if_pos ha,ho]
        exact ⟨_,he,h1,h2,e1⟩
    · refine (dkSync_go h ok.ok ha hfi).mono fun e w' ⟨he,h1,h2⟩=>?_
      simp only [opChange,if_neg ha]
      exact ⟨_,he,h1,h2,e1⟩
theorem mTrunc (h:DkAt w B D M d F) (ok:FsOk d (fsOf F)) (nm:ByteArray) (n:Int):Calls Tryz.prog 97 #[pD D,.string nm,.int .i64 n] w (MEnds B D M F w (opTrunc d (fsOf F) nm n)):=by
  unfold opTrunc
  cases hg:fget (fsOf F) nm with
  | none=>exact (dkTruncate_none h nm n (fget_no hg)).mono fun e w' ⟨he,hb⟩=>by subst he;exact MEnds.same h hb
  | some f =>
    have hl:=ok.len hg
    obtain ⟨P,g,v,Q,rfl,hfi⟩:=fget_mid hg
    obtain ⟨A0,c0,rfl⟩:=own_form (show w.ownsRow B 5 1 v f.bs.length (u8s f.bs) from (h.files ⟨nm,g,v,f⟩ (by simp)).own)
    simp only
    by_cases h1:n<0
    · rw [if_pos (.inl h1)]
      exact (dkTruncate_neg h hfi n h1).mono fun e w' ⟨he,hb⟩=>by subst he;exact MEnds.same h hb
    · by_cases h2:(f.bs.length:Int)<n
      · rw [if_pos (.inr h2)]
        exact (dkTruncate_far h hfi n h2).mono fun e w' ⟨he,hb⟩=>by subst he;exact MEnds.same h hb
      · rw [if_neg (by omega)]
        have hk:=dkTruncate h hfi n.toNat (by omega) ok.ok hl
        rw [show ((n.toNat:Nat):Int)=n by omega] at hk
        refine hk.mono fun e w' hr=>?_
        rw [show ((n.toNat:Nat):Int)=n by omega]
        exact MEnds.change hr (fun hh=>by unfold TrR at hh;rw [show ((n.toNat:Nat):Int)=n by omega] at hh;exact hh) id (fput_at (e:=⟨nm,g,_,f⟩) _ hfi g _).symm
end
end
section
open Go.RowKit Go.MapKept
section
variable {w:World} {B D M:Nat} {d:Dk} {F:List Ent}
def appE (d:Dk) (m:Nat):Int:=if appN d m<m then 4 else 0
end
end
section
open Go.RowKit Go.MapKept
abbrev OutN:=(Int × (Int ⊕ Int)) × Dk × Fs
section
variable {w:World} {B D M:Nat} {d:Dk} {F:List Ent}
end
end
end Go.Proofs.YtodjilljcjkacaaGreatDoor
