/- Laid together: DfReadI. -/
import Derived.Test.YtodjilljcjkacaaGreatDoorPkIB35

namespace Go.Proofs.YtodjilljcjkacaaGreatDoor
open Lib (hid)
section
open Go.RowKit
theorem new_up (m:Nat):St.Up m 0 newS:=⟨Nat.le_refl _,Nat.le_refl _,Nat.le_refl _,Nat.zero_le _⟩
def RowsB (B:Nat) (S:Nat→Prop) (w:World) (v:Value) (L:List (List UInt8)):Prop :=
  ∃ vs:List Value,vs.length=L.length∧w.ownsRow B 40 1 v L.length vs∧(∀ u ∈ vs,u.oneCell'=true) ∧
    ∀ (i:Nat) (u:Value) (x:List UInt8),vs[i]?=some u→L[i]?=some x→Own 5 w B u x∧∀ k,u.ownBlock=some k→¬ S k
theorem RowsB.nil (B:Nat) (S:Nat→Prop) (w:World):RowsB B S w (.slice none 0 0) []:=⟨[],rfl,World.ownsRow_nil w B 40 1,(fun u h=>by cases h),(fun i u x h=>by cases h)⟩
theorem RowsB.ch {B:Nat} {S S' T:Nat→Prop} {w w':World} {v:Value} {L:List (List UInt8)} (h:RowsB B S w v L) (c:Ch S' w w') (hv:∀ k,v.ownBlock=some k→¬ S' k) (hu:∀ k cur,w.heap[k]?=some (.cells cur 5 (0,0))→¬ S k→¬ S' k)
    (hT:∀ k,k<w.heap.size→T k→S k):RowsB B T w' v L:=by
  obtain ⟨vs,hl,ho,h1,hg⟩:=h
  refine ⟨vs,hl,⟨ho.1,?_⟩,h1,fun i u x a b=>?_⟩
  · rcases ho.2 with hn|⟨g,cap,cur,e,q1,q2,q3⟩
    · exact .inl hn
    · exact .inr ⟨g,cap,cur,e,q1,c.row q2 (hv g (by rw [e];rfl)),q3⟩
  · obtain ⟨p,q⟩:=hg i u x a b
    refine ⟨p.ch c (fun k hk=>?_),fun k hk ht=>q k hk (hT k (Own.lt p k hk).2 ht)⟩
    obtain ⟨cur,hc⟩:=own_ty p k hk
    exact hu k cur hc (q k hk)
theorem RowsB.rd {B:Nat} {S:Nat→Prop} {w:World} {v:Value} {L:List (List UInt8)} (h:RowsB B S w v L):∃ A c,v=.slice A L.length c∧Rd w A L.length c L:=by
  obtain ⟨vs,hl,ho,_,hg⟩:=h
  rcases ho.2 with ⟨rfl,h0⟩|⟨g,cap,cur,rfl,h1,h2,h3,h4,h5,h6⟩
  · exact ⟨none,0,by rw [h0],rfl,by omega,by simp [maxLen],fun hn=>by omega⟩
  · refine ⟨_,cap,rfl,rfl,h3,h4,fun _=>⟨g,0,rfl,(Array.getElem?_eq_some_iff.1 h2).1,fun i x hi=>?_⟩⟩
    have hil:i<L.length:=(List.getElem?_eq_some_iff.1 hi).1
    have hgl:i<vs.length:=by rw [hl];exact hil
    obtain ⟨hown,_⟩:=hg i vs[i] x (List.getElem?_eq_getElem hgl) hi
    obtain ⟨A,c,e,hb,_⟩:=Own.bs hown
    refine ⟨A,c,?_,hb⟩
    rw [Nat.zero_add,cell_of_row w g i cur _ _ h2]
    have e2:(cur.toList.take (L.length*1))[i]?=vs[i]?:=by rw [h6]
    rw [Nat.mul_one,List.getElem?_take,if_pos hil,List.getElem?_eq_getElem hgl,e] at e2
    simpa using e2
end
section
open Go.RowKit
abbrev told (fv:Value) (h j o b:Int):Array Value:=#[fv,.int .i64 h,.int .i64 j,.int .i64 o,.int .i64 b]
abbrev OfV (v:Value):Nat→Prop:=fun k=>v.ownBlock=some k
def RefSt (B T:Nat) (t:St) (fs:List (List UInt8)) (inV eV nowV:Value) (wr:World):Prop :=
  ∃ (e:Bool) (nl:List UInt8) (fv:Value),inV=.bool t.md.begun∧eV=.bool e∧Own 5 wr B nowV nl∧(t.md.begun=true→e=t.md.ending∧nl=t.fr)∧nl.length≤1000000 ∧
    wr.heap[T]?=some (.cells (told fv 0 t.junk t.over t.broken) 106)∧RowsB B (OfV nowV) wr fv fs
def ReadPost (w:World) (p:St × List (List UInt8)) (e:Ending) (w':World):Prop :=
  ∃ A c,e=.returned (.agg (told (.slice A p.2.length c) (heldD p.1) p.1.junk p.1.over p.1.broken))∧Rd w' A p.2.length c p.2∧Below w.heap.size w w'∧RowsB w.heap.size (fun _=>False) w' (.slice A p.2.length c) p.2
theorem RowsB.ownT {B:Nat} {S:Nat→Prop} {w:World} {v:Value} {L:List (List UInt8)} {g:Nat} {cs:Array Value} {t:TypeId} {fr:Nat × Nat} (h:RowsB B S w v L) (hg:w.heap[g]?=some (.cells cs t fr)) (ht:t≠40):¬ v.ownBlock=some g:=by
  obtain ⟨vs,_,ho,_⟩:=h
  exact fun e=>own_ne ho hg ht e.symm
theorem keepT {B T:Nat} {wo wo':World} {cs:Array Value} (hT:wo.heap[T]?=some (.cells cs 106)) (c:Ch (At1 T) wo wo') :
    (∀ v nl,Own 5 wo B v nl→Own 5 wo' B v nl)∧∀ S v L,RowsB B S wo v L→RowsB B S wo' v L:=by
  refine ⟨fun v nl h=>h.ch c (fun k hk hk2=>?_),fun S v L h=>h.ch c (fun k hk hk2=>?_) (fun k cur hk _ hk2=>?_) (fun _ _ h=>h)⟩
  · rw [hk2] at hk
    exact own_ne (show wo.ownsRow B 5 1 v nl.length (u8s nl) from h) hT (by decide) hk.symm
  · rw [hk2] at hk
    exact h.ownT hT (by decide) hk
  · rw [hk2,hT] at hk
    injection hk with hk
    injection hk with _ hk
    exact absurd hk (by decide)
theorem nowMore {B T:Nat} {wa w5:World} {V v5 fv:Value} {nl:List UInt8} {X:List (List UInt8)} {cs:Array Value} {y:UInt8} (hown:Own 5 wa B V nl) (hT:wa.heap[T]?=some (.cells cs 106)) (hrows:RowsB B (OfV V) wa fv X)
    (hown':w5.ownsRow B 5 1 v5 (nl.length+1) (u8s nl++[u8 y])) (hgr:(wa.alloc (.cells #[u8 y] 5)).grownBy w5 V.ownBlock) (hfr:v5.ownBlock=V.ownBlock∨v5.ownBlock=some (wa.alloc (.cells #[u8 y] 5)).heap.size) (hB:B≤wa.heap.size) :
    Own 5 w5 B v5 (nl++[y])∧w5.heap[T]?=some (.cells cs 106)∧RowsB B (OfV v5) w5 fv X∧Below B wa w5∧∀ (g:Nat) (rx:Array Value),wa.heap[g]?=some (.cells rx 106)→w5.heap[g]?=some (.cells rx 106):=by
  have hb:Below wa.heap.size wa (wa.alloc (.cells #[u8 y] 5)):=(Below.refl _ wa).alloc (Nat.le_refl _) _
  have hTl:T<wa.heap.size:=(Array.getElem?_eq_some_iff.1 hT).1
  have hT1:(wa.alloc (.cells #[u8 y] 5)).heap[T]?=some (.cells cs 106):=(hb.block T hTl).trans hT
  have hown1:=hown.below hb
  have hTn:¬ V.ownBlock=some T:=fun e=>own_ne (show (wa.alloc (.cells #[u8 y] 5)).ownsRow B 5 1 V nl.length (u8s nl) from hown1) hT1 (by decide) e.symm
  have hch:Ch (OfV V) (wa.alloc (.cells #[u8 y] 5)) w5:=Ch.of_grown hgr (fun k hk=>hk)
  have hrows1:RowsB B (OfV V) (wa.alloc (.cells #[u8 y] 5)) fv X:=hrows.ch (Ch.of_below (S:=fun _=>False) hb) (fun _ _ h=>h) (fun _ _ _ _ h=>h) (fun _ _ h=>h)
  refine ⟨?_,hch.row hT1 hTn,hrows1.ch hch (fun k hk hk2=>?_) (fun k cur _ hn hk2=>hn hk2) (fun k hk hk2=>?_),(hb.mono hB).trans (hch.below (fun k hk=>(Own.lt hown1 k hk).1) (Nat.le_trans hB hb.size)),fun g rx hg=>?_⟩
  · unfold Own
    rw [List.length_append]
    simpa using hown'
  · obtain ⟨cur,hc⟩:=own_ty (show (wa.alloc (.cells #[u8 y] 5)).ownsRow B 5 1 V nl.length (u8s nl) from hown1) k hk2
    exact hrows1.ownT hc (by decide) hk
  · rcases hfr with e|e
    · show V.ownBlock=some k
      rw [← e];exact hk2
    · have hk3:v5.ownBlock=some k:=hk2
      rw [e] at hk3
      injection hk3 with hk3
      omega
  · have hg1:(wa.alloc (.cells #[u8 y] 5)).heap[g]?=some (.cells rx 106):=(hb.block g (Array.getElem?_eq_some_iff.1 hg).1).trans hg
    exact hch.row hg1 (fun e=>own_ne (show (wa.alloc (.cells #[u8 y] 5)).ownsRow B 5 1 V nl.length (u8s nl) from hown1) hg1 (by decide) e.symm)
theorem own_len {B:Nat} {w:World} {v:Value} {a:List UInt8} {y:UInt8} (h:Own 5 w B v (a++[y])):w.ownsRow B 5 1 v (a.length+1) (u8s (a++[y])):=by
  unfold Own at h
  rw [List.length_append] at h
  exact h
def setFive05 (W:World) (G:Nat) (a b c d e:Value):World:=((((W.setCell ⟨G,0,none⟩ a).setCell ⟨G,1,none⟩ b).setCell ⟨G,2,none⟩ c).setCell ⟨G,3,none⟩ d).setCell ⟨G,4,none⟩ e
theorem setFive05_row {W:World} {G:Nat} {a' b' c' d' e':Value} {t:TypeId} (h:W.heap[G]?=some (.cells #[a',b',c',d',e'] t)) (a b c d e:Value):(setFive05 W G a b c d e).heap[G]?=some (.cells #[a,b,c,d,e] t) :=
  heap_setCell_same _ G 4 _ _ e (heap_setCell_same _ G 3 _ _ d (heap_setCell_same _ G 2 _ _ c (heap_setCell_same _ G 1 _ _ b (heap_setCell_same _ G 0 _ _ a h))))
abbrev Two (T R:Nat):Nat→Prop:=fun k=>k=T∨k=R
theorem setFive05_ch {S:Nat→Prop} {W W':World} {G:Nat} (h:Ch S W W') (hG:S G) (a b c d e:Value):Ch S W (setFive05 W' G a b c d e) :=
  ((((h.set (a:=⟨G,0,none⟩) hG a).set (a:=⟨G,1,none⟩) hG b).set (a:=⟨G,2,none⟩) hG c).set (a:=⟨G,3,none⟩) hG d).set (a:=⟨G,4,none⟩) hG e
theorem keep2 {B T R:Nat} {S:Nat→Prop} {wo wo':World} {v:Value} {L:List (List UInt8)} {cs cr:Array Value} (hT:wo.heap[T]?=some (.cells cs 106)) (hR:wo.heap[R]?=some (.cells cr 106)) (c:Ch (Two T R) wo wo') (h:RowsB B S wo v L):RowsB B S wo' v L:=by
  refine h.ch c (fun k hk hk2=>?_) (fun k cur hk _ hk2=>?_) (fun _ _ h=>h)
  · rcases hk2 with hk2|hk2
    · rw [hk2] at hk;exact h.ownT hT (by decide) hk
    · rw [hk2] at hk;exact h.ownT hR (by decide) hk
  · rcases hk2 with hk2|hk2
    · rw [hk2,hT] at hk
      injection hk with hk
      injection hk with _ hk
      exact absurd hk (by decide)
    · rw [hk2,hR] at hk
      injection hk with hk
      injection hk with _ hk
      exact absurd hk (by decide)
theorem readEnd {w wo W:World} {T R:Nat} {p:St × List (List UInt8)} {S:Nat→Prop} {A:Option Addr} {c:Nat} {cs cr:Array Value} {r0 r1 r2 r3 r4:Value} {hd:Int} (hT:wo.heap[T]?=some (.cells cs 106)) (hR:wo.heap[R]?=some (.cells cr 106)) (hRW:W.heap[R]?=some (.cells #[r0,r1,r2,r3,r4] 106)) (hch:Ch (Two T R) wo W)
    (hrows:RowsB w.heap.size S wo (.slice A p.2.length c) p.2) (hB:Below w.heap.size w wo) (hwT:w.heap.size≤T) (hwR:w.heap.size≤R) (hh:hd=heldD p.1) (W5:World) (hW5:W5=setFive05 W R (.slice A p.2.length c) (.int .i64 hd) (.int .i64 p.1.junk) (.int .i64 p.1.over) (.int .i64 p.1.broken)) :
    W5.heap[R]?=some (.cells (told (.slice A p.2.length c) hd p.1.junk p.1.over p.1.broken) 106)∧ReadPost w p (.returned (.agg (told (.slice A p.2.length c) hd p.1.junk p.1.over p.1.broken))) W5:=by
  subst hW5 hh
  have h5:=setFive05_ch (S:=Two T R) hch (.inr rfl) (.slice A p.2.length c) (.int .i64 (heldD p.1)) (.int .i64 p.1.junk) (.int .i64 p.1.over) (.int .i64 p.1.broken)
  refine ⟨setFive05_row hRW _ _ _ _ _,?_⟩
  have hkk:=keep2 hT hR h5 hrows
  obtain ⟨A',c',e,hrd⟩:=hkk.rd
  injection e with e1 e2 e3
  subst e1 e3
  exact ⟨A,c,rfl,hrd,hB.trans (h5.below (fun k hk=>by
    rcases hk with hk|hk
    · rw [hk];exact hwT
    · rw [hk];exact hwR) hB.size),hkk.ch (S':=fun _=>False) (Ch.refl _ _) (fun _ _ h=>h) (fun _ _ _ _ h=>h) (fun _ _ h=>h.elim)⟩
theorem rowsMore {B T:Nat} {wo w1 w2:World} {V fv v1 v2:Value} {fr:List UInt8} {X:List (List UInt8)} {vs:List Value} {cs:Array Value} (hown:Own 5 wo B V fr) (hT:wo.heap[T]?=some (.cells cs 106)) (hvl:vs.length=X.length) (hvo:wo.ownsRow B 40 1 fv X.length vs) (hv1:∀ u ∈ vs,u.oneCell'=true)
    (hvg:∀ (i:Nat) (u:Value) (x:List UInt8),vs[i]?=some u→X[i]?=some x→Own 5 wo B u x∧∀ k,u.ownBlock=some k→¬ OfV V k) (h1:Own 5 w1 wo.heap.size v1 fr) (hb1:Below wo.heap.size wo w1) (hone:v1.oneCell'=true) (hB:B≤wo.heap.size)
    (h2:w2.ownsRow B 40 1 v2 (X.length+1) (vs++[v1])) (hgr:(w1.alloc (.cells #[v1] 40)).grownBy w2 fv.ownBlock) :
    RowsB B (OfV V) w2 v2 (X++[fr])∧w2.heap[T]?=some (.cells cs 106)∧Own 5 w2 B V fr∧Below B wo w2∧∀ (g:Nat) (rx:Array Value),wo.heap[g]?=some (.cells rx 106)→w2.heap[g]?=some (.cells rx 106):=by
  have hb2:Below wo.heap.size wo (w1.alloc (.cells #[v1] 40)):=hb1.alloc hb1.size _
  have hvo2:=own_below hvo hb2
  have hch:Ch (OfV fv) (w1.alloc (.cells #[v1] 40)) w2:=Ch.of_grown hgr (fun k hk=>hk)
  have h106:∀ (g:Nat) (rx:Array Value),wo.heap[g]?=some (.cells rx 106)→w2.heap[g]?=some (.cells rx 106):=fun g rx hg=>by
    have hg1:(w1.alloc (.cells #[v1] 40)).heap[g]?=some (.cells rx 106):=(hb2.block g (Array.getElem?_eq_some_iff.1 hg).1).trans hg
    exact hch.row hg1 (fun e=>own_ne hvo2 hg1 (by decide) e.symm)
  have keep:∀ (C:Nat) (u:Value) (x:List UInt8),Own 5 (w1.alloc (.cells #[v1] 40)) C u x→Own 5 w2 C u x:=fun C u x h=>h.ch hch (fun k hk hk2=>by
    obtain ⟨cur,hc⟩:=own_ty (show (w1.alloc (.cells #[v1] 40)).ownsRow C 5 1 u x.length (u8s x) from h) k hk
    exact own_ne hvo2 hc (by decide) hk2.symm)
  refine ⟨⟨vs++[v1],by simp [hvl],?_,?_,?_⟩,h106 T cs hT,keep _ _ _ (hown.below hb2),(hb2.mono hB).trans (hch.below (fun k hk=>(World.ownsRow.lt hvo2 k hk).1) (Nat.le_trans hB hb2.size)),h106⟩
  · rw [List.length_append];exact h2
  · intro u hu
    rcases List.mem_append.1 hu with hu|hu
    · exact hv1 u hu
    · simp at hu;rw [hu];exact hone
  · intro i u x a b
    by_cases hi:i<X.length
    · rw [List.getElem?_append_left (by rw [hvl];exact hi)] at a
      rw [List.getElem?_append_left hi] at b
      obtain ⟨p,q⟩:=hvg i u x a b
      exact ⟨keep _ _ _ (p.below hb2),q⟩
    · rw [List.getElem?_append_right (by rw [hvl];omega),hvl] at a
      rw [List.getElem?_append_right (by omega)] at b
      have:i-X.length=0:=by
        rcases Nat.lt_or_ge (i-X.length) 1 with h|h
        · omega
        · rw [List.getElem?_eq_none (by simpa using h)] at b;cases b
      rw [this] at a b
      simp at a b
      subst a b
      have h1':Own 5 (w1.alloc (.cells #[v1] 40)) wo.heap.size v1 fr:=h1.below ((Below.refl _ w1).alloc (Nat.le_refl _) _)
      refine ⟨own_base (keep _ _ _ h1') hB,fun k hk hk2=>?_⟩
      have:=(Own.lt h1' k hk).1
      have:=(Own.lt hown k hk2).2
      omega
set_option maxHeartbeats 8000000 in
set_option maxRecDepth 100000 in
theorem refRead05 (most:Nat) (hm:most≤65536) (A:Option Addr) (n c:Nat) (l:List UInt8) (w:World) (hB:Bs w A n c l) (hn:n≤1099511627000):Calls Tryz.prog 55 #[.slice A n c,.int .i64 (most:Int)] w (ReadPost w (feedD most newS l)):=by
  have HBS:=hid hB
  have hmax:=hB.nmax
  have HLN:=hid hB.len
  have HN:=hid hn
  clear hB hn
  go_enter Tryz.func55,Tryz.ntmps55
  go_wp2_with (fail)
  have HB0:Hid (Below w.heap.size w ((w.alloc (.cells (told (.slice none 0 0) 0 0 0 0) 106)).alloc (.cells (told (.slice none 0 0) 0 0 0 0) 106))):=hid (((Below.refl _ w).alloc (Nat.le_refl _) _).alloc (by simp) _)
  have HT0:Hid (((w.alloc (.cells (told (.slice none 0 0) 0 0 0 0) 106)).alloc (.cells (told (.slice none 0 0) 0 0 0 0) 106)).heap[w.heap.size+1]?=some (.cells (told (.slice none 0 0) 0 0 0 0) 106)):=hid (by
    have:=heap_alloc_new (w.alloc (.cells (told (.slice none 0 0) 0 0 0 0) 106)) (.cells (told (.slice none 0 0) 0 0 0 0) 106)
    simpa using this)
  have HR0:Hid (∃ x,((w.alloc (.cells (told (.slice none 0 0) 0 0 0 0) 106)).alloc (.cells (told (.slice none 0 0) 0 0 0 0) 106)).heap[w.heap.size]?=some (.cells x 106)∧x.size=5):=hid ⟨told (.slice none 0 0) 0 0 0 0,by
    have h1:=heap_alloc_new w (.cells (told (.slice none 0 0) 0 0 0 0) 106)
    have h2:=((Below.refl (w.alloc (.cells (told (.slice none 0 0) 0 0 0 0) 106)).heap.size (w.alloc (.cells (told (.slice none 0 0) 0 0 0 0) 106))).alloc (Nat.le_refl _) (.cells (told (.slice none 0 0) 0 0 0 0) 106)).block w.heap.size (by simp)
    exact h2.trans h1,rfl⟩
  obtain ⟨T,hT⟩:∃ T,T=w.heap.size+1:=⟨_,rfl⟩
  have HTB:=hid hT
  rw [← hT] at HT0 ⊢
  clear hT
  generalize ((w.alloc (.cells (told (.slice none 0 0) 0 0 0 0) 106)).alloc (.cells (told (.slice none 0 0) 0 0 0 0) 106))=w0 at *
  obtain ⟨R,hR⟩:∃ R,R=w.heap.size:=⟨_,rfl⟩
  have HRB:=hid hR
  rw [← hR] at HR0 ⊢
  clear hR
  go_loopw [6,7,8,9,10] (fun x y z i _ wr=>∃ k:Nat,k≤n∧i=.int .i64 k∧RefSt w.heap.size T (feedD most newS (l.take k)).1 (feedD most newS (l.take k)).2 x y z wr∧Below w.heap.size w wr∧(∃ x,wr.heap[R]?=some (.cells x 106)∧x.size=5)) (fun _ _ _ i _ _=>n-(intOf i).toNat)
  case atStart=>exact ⟨0,Nat.zero_le _,rfl,by rw [List.take_zero];exact ⟨false,[],_,rfl,rfl,Own.nil _ _ _,fun h=>by simp [feedD,newS,Md.begun] at h,Nat.zero_le _,HT0.out,RowsB.nil _ _ _⟩,HB0.out,HR0.out⟩
  case round =>
    clear HB0 HT0 HR0
    obtain ⟨wo,rfl⟩:∃ wo:World,wo=wr:=⟨_,rfl⟩
    obtain ⟨k,hk,rfl,⟨e,nl,fv,rfl,rfl,hown,hen,hnl,hT,hrows⟩,hb,hres⟩:=hrel
    have HB:=hid hb
    have HOWN:=hid hown
    have HT:=hid hT
    have HROWS:=hid hrows
    have HEN:=hid hen
    have HNL:=hid hnl
    have HRES:=hid hres
    have hRT:R≠T:=by have:=HRB.out;have:=HTB.out;omega
    have HRT:=hid hRT
    clear hb hown hT hrows hen hnl hres hRT
    by_cases hlt:k<n
    · have hlk:k<l.length:=by rw [HLN.out];exact hlt
      obtain ⟨b,o,rfl,hbl,hcell⟩:=(HBS.out.below HB.out).at_ (by omega)
      have hcc:=hcell k l[k] (List.getElem?_eq_getElem hlk)
      have e1:(k:Int)<(n:Int):=by omega
      have hup:=feed_up (new_up most) l k (by omega)
      have hfl:=feed_len most newS l k (by omega)
      have HSN:=hid (show feedD most newS (l.take (k+1))=eatD most (feedD most newS (l.take k)) l[k] by rw [List.take_succ_eq_append_getElem hlk,feedD_snoc])
      obtain ⟨x,hx⟩:∃ x,x=l[k]:=⟨_,rfl⟩
      obtain ⟨t,X,ht⟩:∃ t X,feedD most newS (l.take k)=(t,X):=⟨_,_,rfl⟩
      rw [← hx] at hcc HSN
      rw [ht] at HT HROWS HEN HSN hfl hup ⊢
      simp only at HT HROWS HEN HSN hfl hup ⊢
      have HUP:=hid hup
      have HFL:=hid hfl
      have HLT:=hid hlt
      have HBL:=hid hbl
      have hj:(t.junk:Int)≤1099511627776∧(t.over:Int)≤1099511627776∧(t.broken:Int)≤1099511627776:=by have:=hup.junk;have:=hup.over;have:=hup.broken;have:=HN.out;omega
      obtain ⟨hj1,hj2,hj3⟩:=hj
      have hTl:T<wo.heap.size:=(Array.getElem?_eq_some_iff.1 HT.out).1
      have HTL:=hid hTl
      have HSZ:Hid (w.heap.size≤wo.heap.size):=hid HB.out.size
      have HTW:Hid (w.heap.size≤T):=hid (by have:=HTB.out;omega)
      clear hcell hlk hx ht hup hfl hlt hbl hTl
      cases hmd:t.md
      · have HMD:=hid hmd
        rw [show Md.begun .out=false from rfl]
        clear hmd
        by_cases hx11:x=11
        · have d11:(((x.toNat:Nat):Int) == 11)=true:=by rw [hx11];rfl
          have HX:=hid hx11
          clear hx11
          go_wp2_with (fail)
          exact ⟨⟨k+1,HLT.out,by go_num,by
            rw [HSN.out,show eatD most (t,X) x=(enterS t,X) by simp [eatD,stepD,HMD.out,HX.out]]
            exact ⟨false,[],fv,rfl,rfl,Own.nil _ _ _,fun _=>⟨rfl,rfl⟩,Nat.zero_le _,HT.out,HROWS.out.ch (Ch.refl (fun _=>False) wo) (fun _ _ h=>h) (fun _ _ _ _ h=>h) (fun k _ h=>by cases h)⟩,HB.out,HRES.out⟩,by have:=HLT.out;simp [intOf];omega⟩
        · have d11:(((x.toNat:Nat):Int) == 11)=false:=ne_num hx11
          have c2:=cell_of_row wo T 2 _ _ _ HT.out
          simp only [told,List.getElem?_toArray,List.getElem?_cons_zero,List.getElem?_cons_succ] at c2
          have f2:wo.frozen? ⟨T,2,none⟩=false:=by simp [World.frozen?,HT.out]
          have HX:=hid hx11
          clear hx11
          go_wp2_with (fail)
          have hch:=(Ch.refl (At1 T) wo).set1 2 (.int .i64 ((t.junk:Int)+1))
          have hkeep:=keepT (B:=w.heap.size) HT.out hch
          refine ⟨⟨k+1,HLT.out,by go_num,?_,HB.out.trans (hch.below (fun y hy=>by rw [hy];exact HTW.out) HSZ.out),(by obtain ⟨rx,h1,h2⟩:=HRES.out;exact ⟨rx,hch.row h1 HRT.out,h2⟩)⟩,by have:=HLT.out;simp [intOf];omega⟩
          rw [HSN.out,show eatD most (t,X) x=({ t with junk:=t.junk+1 },X) by simp [eatD,stepD,HMD.out,HX.out]]
          exact ⟨e,nl,fv,(by first | rfl | simp [HMD.out,Md.begun]),rfl,hkeep.1 _ _ HOWN.out,fun h=>by simp [HMD.out,Md.begun] at h,HNL.out,heap_setCell_same wo T 2 _ _ _ HT.out,hkeep.2 _ _ _ HROWS.out⟩
      · have HMD:=hid hmd
        have hee:=HEN.out (by rw [hmd];rfl)
        rw [hmd] at hee
        obtain ⟨rfl,rfl⟩:=hee
        have HBEG:Hid (t.md.begun=true):=hid (by rw [hmd];rfl)
        rw [show Md.begun .inn=true from rfl,show Md.ending .inn=false from rfl]
        clear hmd HEN
        by_cases hx11:x=11
        · have d11:(((x.toNat:Nat):Int) == 11)=true:=by rw [hx11];rfl
          have c4:=cell_of_row wo T 4 _ _ _ HT.out
          simp only [told,List.getElem?_toArray,List.getElem?_cons_zero,List.getElem?_cons_succ] at c4
          have f4:wo.frozen? ⟨T,4,none⟩=false:=by simp [World.frozen?,HT.out]
          have HX:=hid hx11
          clear hx11
          go_wp2_with (fail)
          have hch:=(Ch.refl (At1 T) wo).set1 4 (.int .i64 ((t.broken:Int)+1))
          have hkeep:=keepT (B:=w.heap.size) HT.out hch
          refine ⟨⟨k+1,HLT.out,by go_num,?_,HB.out.trans (hch.below (fun y hy=>by rw [hy];exact HTW.out) HSZ.out),(by obtain ⟨rx,h1,h2⟩:=HRES.out;exact ⟨rx,hch.row h1 HRT.out,h2⟩)⟩,by have:=HLT.out;simp [intOf];omega⟩
          rw [HSN.out,show eatD most (t,X) x=(enterS { t with broken:=t.broken+1 },X) by simp [eatD,stepD,HMD.out,HX.out]]
          exact ⟨false,[],fv,(by first | rfl | simp [HMD.out,Md.begun]),rfl,Own.nil _ _ _,fun _=>⟨rfl,rfl⟩,Nat.zero_le _,heap_setCell_same wo T 4 _ _ _ HT.out,(hkeep.2 _ _ _ HROWS.out).ch (Ch.refl (fun _=>False) _) (fun _ _ h=>h) (fun _ _ _ _ h=>h) (fun k _ h=>by cases h)⟩
        · have d11:(((x.toNat:Nat):Int) == 11)=false:=ne_num hx11
          by_cases hx28:x=28
          · have d28:(((x.toNat:Nat):Int) == 28)=true:=by rw [hx28];rfl
            have hfr:=HUP.out.fr
            have hcap:t.fr.length≤9223372036854775807:=by omega
            obtain ⟨A8,c8,rfl,hb8,_⟩:=Own.bs HOWN.out
            have d3:decide (most<t.fr.length)=false:=by simp;omega
            have HX:=hid hx28
            clear hx11 hx28 hb8 hfr
            go_wp2_with (fail)
            refine ⟨⟨k+1,HLT.out,by go_num,?_,HB.out,HRES.out⟩,by have:=HLT.out;simp [intOf];omega⟩
            rw [HSN.out,show eatD most (t,X) x=({ t with md:=.beh },X) by simp [eatD,stepD,HMD.out,HX.out]]
            exact ⟨true,t.fr,fv,rfl,rfl,HOWN.out,fun _=>⟨rfl,rfl⟩,HNL.out,HT.out,HROWS.out⟩
          · have d28:(((x.toNat:Nat):Int) == 28)=false:=ne_num hx28
            have HX:=hid hx11
            have HX2:=hid hx28
            have hfr:=HUP.out.fr
            have HLE:Hid ((t.fr++[x]).length≤1000000):=hid (by rw [List.length_append];simp;omega)
            clear hx11 hx28
            by_cases hov:(most:Int)<(t.fr.length:Int)+1
            · have tok1:Hid True:=hid trivial
              have HNW1:=hid (newRow wo x)
              have HON1:=hid (oneRow x)
              have HOA1:=hid (HOWN.out.below ((Below.refl wo.heap.size wo).alloc (Nat.le_refl _) (.cells #[.int .u8 (x.toNat:Int)] 5)))
              go_wp2_with (at_builtin;have _t:=tok1;go_loud ((refine wpList_appAt rfl (.tmp 57) (.tmp 59) 40 rfl w.heap.size 5 (.int .u8 0) 1 Tryz.underlying40 byteInfo rfl (by decide) u8 t.fr.length (u8s t.fr) rfl HOA1.out ⟨wo.heap.size,0,none⟩ 1 1 [.int .u8 (x.toNat:Int)] rfl rfl HNW1.out HON1.out (by have:=HNL.out;omega) (Nat.le_trans HSZ.out (by simp)) ?_;intro v5 w5 hown' hgr hfresh;have HMO5:=hid (nowMore (B:=w.heap.size) (y:=x) HOWN.out HT.out HROWS.out hown' hgr hfresh HSZ.out);have cT5:=cell_of_row w5 T 3 _ _ _ HMO5.out.2.1;simp only [told,List.getElem?_toArray,List.getElem?_cons_zero,List.getElem?_cons_succ] at cT5;have fT5:w5.frozen? ⟨T,3,none⟩=false:=(by simp [World.frozen?,HMO5.out.2.1]);obtain ⟨A5,c5,rfl⟩:=own_form hown';clear tok1 hown' hgr hfresh _t)))
              have hbl2:Below w.heap.size w w5:=HB.out.trans (HMO5.out.2.2.2.1)
              have hsz2:=Nat.le_trans HSZ.out (HMO5.out.2.2.2.1).size
              have hres2:∃ rx,w5.heap[R]?=some (.cells rx 106)∧rx.size=5:=by
                obtain ⟨rx,h1,h2⟩:=HRES.out
                exact ⟨rx,HMO5.out.2.2.2.2 R rx (h1),h2⟩
              have hch:=(Ch.refl (At1 T) w5).set1 3 (.int .i64 ((t.over:Int)+1))
              have hkeep:=keepT (B:=w.heap.size) HMO5.out.2.1 hch
              refine ⟨⟨k+1,HLT.out,by go_num,?_,hbl2.trans (hch.below (fun y hy=>by rw [hy];exact HTW.out) hsz2),(by obtain ⟨rx,h1,h2⟩:=hres2;exact ⟨rx,hch.row h1 HRT.out,h2⟩)⟩,by have:=HLT.out;simp [intOf];omega⟩
              rw [HSN.out,show eatD most (t,X) x=(leaveS { t with over:=t.over+1 },X) by simp [eatD,stepD,layS,leaveS,HMD.out,HX.out,HX2.out];omega]
              exact ⟨_,_,fv,rfl,rfl,hkeep.1 _ _ HMO5.out.1,(fun h=>by simp [leaveS,Md.begun] at h),HLE.out,heap_setCell_same w5 T 3 _ _ _ HMO5.out.2.1,hkeep.2 _ _ _ HMO5.out.2.2.1⟩
            · have tok1:Hid True:=hid trivial
              have HNW1:=hid (newRow wo x)
              have HON1:=hid (oneRow x)
              have HOA1:=hid (HOWN.out.below ((Below.refl wo.heap.size wo).alloc (Nat.le_refl _) (.cells #[.int .u8 (x.toNat:Int)] 5)))
              go_wp2_with (at_builtin;have _t:=tok1;go_loud ((refine wpList_appAt rfl (.tmp 57) (.tmp 59) 40 rfl w.heap.size 5 (.int .u8 0) 1 Tryz.underlying40 byteInfo rfl (by decide) u8 t.fr.length (u8s t.fr) rfl HOA1.out ⟨wo.heap.size,0,none⟩ 1 1 [.int .u8 (x.toNat:Int)] rfl rfl HNW1.out HON1.out (by have:=HNL.out;omega) (Nat.le_trans HSZ.out (by simp)) ?_;intro v5 w5 hown' hgr hfresh;have HMO5:=hid (nowMore (B:=w.heap.size) (y:=x) HOWN.out HT.out HROWS.out hown' hgr hfresh HSZ.out);have cT5:=cell_of_row w5 T 3 _ _ _ HMO5.out.2.1;simp only [told,List.getElem?_toArray,List.getElem?_cons_zero,List.getElem?_cons_succ] at cT5;have fT5:w5.frozen? ⟨T,3,none⟩=false:=(by simp [World.frozen?,HMO5.out.2.1]);obtain ⟨A5,c5,rfl⟩:=own_form hown';clear tok1 hown' hgr hfresh _t)))
              have hbl2:Below w.heap.size w w5:=HB.out.trans (HMO5.out.2.2.2.1)
              have hsz2:=Nat.le_trans HSZ.out (HMO5.out.2.2.2.1).size
              have hres2:∃ rx,w5.heap[R]?=some (.cells rx 106)∧rx.size=5:=by
                obtain ⟨rx,h1,h2⟩:=HRES.out
                exact ⟨rx,HMO5.out.2.2.2.2 R rx (h1),h2⟩
              refine ⟨⟨k+1,HLT.out,by go_num,?_,hbl2,hres2⟩,by have:=HLT.out;simp [intOf];omega⟩
              rw [HSN.out,show eatD most (t,X) x=({ t with fr:=t.fr++[x] },X) by simp [eatD,stepD,layS,HMD.out,HX.out,HX2.out];omega]
              exact ⟨_,_,fv,(by first | rfl | simp [HMD.out,Md.begun]),rfl,HMO5.out.1,(fun _=>⟨by simp [HMD.out,Md.ending],(by first | rfl | simp)⟩),HLE.out,HMO5.out.2.1,HMO5.out.2.2.1⟩
      · have HMD:=hid hmd
        have hee:=HEN.out (by rw [hmd];rfl)
        rw [hmd] at hee
        obtain ⟨rfl,rfl⟩:=hee
        rw [show Md.begun .beh=true from rfl,show Md.ending .beh=true from rfl]
        clear hmd HEN
        by_cases hx13:x=13
        · have d11:(((x.toNat:Nat):Int) == 11)=false:=by rw [hx13];rfl
          have d13:(((x.toNat:Nat):Int) == 13)=true:=by rw [hx13];rfl
          have HX:=hid hx13
          clear hx13
          obtain ⟨A8,c8,rfl,hb8,_⟩:=Own.bs HOWN.out
          obtain ⟨vs,hvl,hvo,hv1,hvg⟩:=HROWS.out
          obtain ⟨A7,c7,rfl⟩:=own_form hvo
          have c0:=cell_of_row wo T 0 _ _ _ HT.out
          simp only [told,List.getElem?_toArray,List.getElem?_cons_zero] at c0
          have f0:wo.frozen? ⟨T,0,none⟩=false:=by simp [World.frozen?,HT.out]
          have HB8:=hid hb8
          have HVO:=hid hvo
          have HVG:=hid hvg
          have HV1:=hid hv1
          have HVL:=hid hvl
          have hTl:=HTL.out
          clear hb8 hvo hvg hv1 hvl
          go_wp2_with (fail)
          have HOE:Hid (Own 5 (wo.alloc (.cells #[] 5)).drew wo.heap.size (.slice (some ⟨wo.heap.size,0,none⟩) 0 0) []):=hid ((Own.lit 5 wo [] (Nat.le_refl _) (by simp [maxLen])).below (Below.refl _ _).drew)
          have HBE:Hid (Below wo.heap.size wo (wo.alloc (.cells #[] 5)).drew):=hid ((Below.refl _ wo).alloc (Nat.le_refl _) _).drew
          have tok1:Hid True:=hid trivial
          have tok2:Hid True:=hid trivial
          go_region_law (first | (have _t:=tok1;refine step_app rfl (.tmp 43) (.tmp 44) rfl wo.heap.size (.slice (some ⟨wo.heap.size,0,none⟩) 0 0) [] rfl HOE.out A8 t.fr.length c8 t.fr rfl (HB8.out.below HBE.out) (by have:=HNL.out;simp;omega) HBE.out.size ?_;intro v1 w1 h1 hb1 _;rw [List.nil_append] at h1;obtain ⟨A1,c1,rfl⟩:=own_form (show w1.ownsRow wo.heap.size 5 1 v1 t.fr.length (u8s t.fr) from h1);have H1:=hid h1;have HB1:=hid (HBE.out.trans hb1);have cT0:w1.cell? ⟨T,0,none⟩=some (.slice A7 X.length c7):=((HBE.out.trans hb1).cell (p:=⟨T,0,none⟩) HTL.out).trans c0;have cT1:(w1.alloc (.cells #[.slice A1 t.fr.length c1] 40)).cell? ⟨T,0,none⟩=some (.slice A7 X.length c7):=(((HBE.out.trans hb1).alloc (HBE.out.trans hb1).size _).cell (p:=⟨T,0,none⟩) HTL.out).trans c0;clear tok1 h1 hb1 _t) | (have _t:=tok2;refine step_appRow rfl (.tmp 42) (.tmp 46) rfl w.heap.size (.slice A7 X.length c7) X.length vs rfl (own_below HVO.out (HB1.out.alloc HB1.out.size _)) w1.heap.size (.slice A1 t.fr.length c1) rfl rfl (heap_alloc_new w1 _) (by have:=HFL.out;have:=HLT.out;have:=HN.out;omega) (Nat.le_trans HSZ.out (HB1.out.alloc HB1.out.size _).size) ?_;intro v2 w2 h2 hg2 _;have HMO:=hid (rowsMore HOWN.out HT.out HVL.out HVO.out HV1.out HVG.out H1.out HB1.out rfl HSZ.out h2 hg2);obtain ⟨A2,c2,rfl⟩:=own_form h2;have cT:=cell_of_row w2 T 0 _ _ _ HMO.out.2.1;simp only [told,List.getElem?_toArray,List.getElem?_cons_zero] at cT;have fT:w2.frozen? ⟨T,0,none⟩=false:=(by simp [World.frozen?,HMO.out.2.1]);clear tok2 h2 hg2 _t))
          all_goals
            have hch:=(Ch.refl (At1 T) w2).set1 0 (.slice A2 (X.length+1) c2)
            have hkeep:=keepT (B:=w.heap.size) HMO.out.2.1 hch
            go_wp2_with (fail)
            refine ⟨⟨k+1,HLT.out,by go_num,?_,(HB.out.trans (HMO.out.2.2.2.1)).trans (hch.below (fun y hy=>by rw [hy];exact HTW.out) (Nat.le_trans HSZ.out (HMO.out.2.2.2.1).size)),(by obtain ⟨rx,h1,h2⟩:=HRES.out;exact ⟨rx,hch.row (HMO.out.2.2.2.2 R rx h1) HRT.out,h2⟩)⟩,by have:=HLT.out;simp [intOf];omega⟩
            rw [HSN.out,show eatD most (t,X) x=(leaveS t,X++[t.fr]) by simp [eatD,stepD,HMD.out,HX.out]]
            exact ⟨true,t.fr,.slice A2 (X.length+1) c2,rfl,rfl,hkeep.1 _ _ HMO.out.2.2.1,(fun h=>by simp [leaveS,Md.begun] at h),HNL.out,heap_setCell_same w2 T 0 _ _ _ HMO.out.2.1,hkeep.2 _ _ _ HMO.out.1⟩
        have d13:(((x.toNat:Nat):Int) == 13)=false:=ne_num hx13
        have HX3:=hid hx13
        clear hx13
        by_cases hx11:x=11
        · have d11:(((x.toNat:Nat):Int) == 11)=true:=by rw [hx11];rfl
          have c4:=cell_of_row wo T 4 _ _ _ HT.out
          simp only [told,List.getElem?_toArray,List.getElem?_cons_zero,List.getElem?_cons_succ] at c4
          have f4:wo.frozen? ⟨T,4,none⟩=false:=by simp [World.frozen?,HT.out]
          have HX:=hid hx11
          clear hx11
          go_wp2_with (fail)
          have hch:=(Ch.refl (At1 T) wo).set1 4 (.int .i64 ((t.broken:Int)+1))
          have hkeep:=keepT (B:=w.heap.size) HT.out hch
          refine ⟨⟨k+1,HLT.out,by go_num,?_,HB.out.trans (hch.below (fun y hy=>by rw [hy];exact HTW.out) HSZ.out),(by obtain ⟨rx,h1,h2⟩:=HRES.out;exact ⟨rx,hch.row h1 HRT.out,h2⟩)⟩,by have:=HLT.out;simp [intOf];omega⟩
          rw [HSN.out,show eatD most (t,X) x=(enterS { t with broken:=t.broken+1 },X) by simp [eatD,stepD,HMD.out,HX.out]]
          exact ⟨false,[],fv,(by first | rfl | simp [HMD.out,Md.begun]),rfl,Own.nil _ _ _,fun _=>⟨rfl,rfl⟩,Nat.zero_le _,heap_setCell_same wo T 4 _ _ _ HT.out,(hkeep.2 _ _ _ HROWS.out).ch (Ch.refl (fun _=>False) _) (fun _ _ h=>h) (fun _ _ _ _ h=>h) (fun k _ h=>by cases h)⟩
        · have d11:(((x.toNat:Nat):Int) == 11)=false:=ne_num hx11
          have hfr:=HUP.out.fr
          have HX:=hid hx11
          clear hx11
          by_cases hx28:x=28
          · have d28:(((x.toNat:Nat):Int) == 28)=true:=by rw [hx28];rfl
            have HX2:=hid hx28
            have HLE:Hid ((t.fr++[28]).length≤1000000):=hid (by rw [List.length_append];simp;omega)
            clear hx28
            by_cases hov:(most:Int)<(t.fr.length:Int)+1
            · have tok1:Hid True:=hid trivial
              have HNW1:=hid (newRow wo 28)
              have HON1:=hid (oneRow 28)
              have HOA1:=hid (HOWN.out.below ((Below.refl wo.heap.size wo).alloc (Nat.le_refl _) (.cells #[.int .u8 28] 5)))
              go_wp2_with (at_builtin;have _t:=tok1;go_loud ((refine wpList_appAt rfl (.tmp 50) (.tmp 51) 40 rfl w.heap.size 5 (.int .u8 0) 1 Tryz.underlying40 byteInfo rfl (by decide) u8 t.fr.length (u8s t.fr) rfl HOA1.out ⟨wo.heap.size,0,none⟩ 1 1 [.int .u8 28] rfl rfl HNW1.out HON1.out (by have:=HNL.out;omega) (Nat.le_trans HSZ.out (by simp)) ?_;intro v5 w5 hown' hgr hfresh;have HMO5:=hid (nowMore (B:=w.heap.size) (y:=28) HOWN.out HT.out HROWS.out hown' hgr hfresh HSZ.out);have cT5:=cell_of_row w5 T 3 _ _ _ HMO5.out.2.1;simp only [told,List.getElem?_toArray,List.getElem?_cons_zero,List.getElem?_cons_succ] at cT5;have fT5:w5.frozen? ⟨T,3,none⟩=false:=(by simp [World.frozen?,HMO5.out.2.1]);obtain ⟨A5,c5,rfl⟩:=own_form hown';clear tok1 hown' hgr hfresh _t)))
              have hbl2:Below w.heap.size w w5:=HB.out.trans (HMO5.out.2.2.2.1)
              have hsz2:=Nat.le_trans HSZ.out (HMO5.out.2.2.2.1).size
              have hres2:∃ rx,w5.heap[R]?=some (.cells rx 106)∧rx.size=5:=by
                obtain ⟨rx,h1,h2⟩:=HRES.out
                exact ⟨rx,HMO5.out.2.2.2.2 R rx (h1),h2⟩
              have hch:=(Ch.refl (At1 T) w5).set1 3 (.int .i64 ((t.over:Int)+1))
              have hkeep:=keepT (B:=w.heap.size) HMO5.out.2.1 hch
              refine ⟨⟨k+1,HLT.out,by go_num,?_,hbl2.trans (hch.below (fun y hy=>by rw [hy];exact HTW.out) hsz2),(by obtain ⟨rx,h1,h2⟩:=hres2;exact ⟨rx,hch.row h1 HRT.out,h2⟩)⟩,by have:=HLT.out;simp [intOf];omega⟩
              rw [HSN.out,show eatD most (t,X) x=(leaveS { t with over:=t.over+1 },X) by simp [eatD,stepD,layS,leaveS,HMD.out,HX2.out];omega]
              exact ⟨_,_,fv,rfl,rfl,hkeep.1 _ _ HMO5.out.1,(fun h=>by simp [leaveS,Md.begun] at h),HLE.out,heap_setCell_same w5 T 3 _ _ _ HMO5.out.2.1,hkeep.2 _ _ _ HMO5.out.2.2.1⟩
            · have tok1:Hid True:=hid trivial
              have HNW1:=hid (newRow wo 28)
              have HON1:=hid (oneRow 28)
              have HOA1:=hid (HOWN.out.below ((Below.refl wo.heap.size wo).alloc (Nat.le_refl _) (.cells #[.int .u8 28] 5)))
              go_wp2_with (at_builtin;have _t:=tok1;go_loud ((refine wpList_appAt rfl (.tmp 50) (.tmp 51) 40 rfl w.heap.size 5 (.int .u8 0) 1 Tryz.underlying40 byteInfo rfl (by decide) u8 t.fr.length (u8s t.fr) rfl HOA1.out ⟨wo.heap.size,0,none⟩ 1 1 [.int .u8 28] rfl rfl HNW1.out HON1.out (by have:=HNL.out;omega) (Nat.le_trans HSZ.out (by simp)) ?_;intro v5 w5 hown' hgr hfresh;have HMO5:=hid (nowMore (B:=w.heap.size) (y:=28) HOWN.out HT.out HROWS.out hown' hgr hfresh HSZ.out);have cT5:=cell_of_row w5 T 3 _ _ _ HMO5.out.2.1;simp only [told,List.getElem?_toArray,List.getElem?_cons_zero,List.getElem?_cons_succ] at cT5;have fT5:w5.frozen? ⟨T,3,none⟩=false:=(by simp [World.frozen?,HMO5.out.2.1]);obtain ⟨A5,c5,rfl⟩:=own_form hown';clear tok1 hown' hgr hfresh _t)))
              have hbl2:Below w.heap.size w w5:=HB.out.trans (HMO5.out.2.2.2.1)
              have hsz2:=Nat.le_trans HSZ.out (HMO5.out.2.2.2.1).size
              have hres2:∃ rx,w5.heap[R]?=some (.cells rx 106)∧rx.size=5:=by
                obtain ⟨rx,h1,h2⟩:=HRES.out
                exact ⟨rx,HMO5.out.2.2.2.2 R rx (h1),h2⟩
              refine ⟨⟨k+1,HLT.out,by go_num,?_,hbl2,hres2⟩,by have:=HLT.out;simp [intOf];omega⟩
              rw [HSN.out,show eatD most (t,X) x=({ t with fr:=t.fr++[28] },X) by simp [eatD,stepD,layS,HMD.out,HX2.out];omega]
              exact ⟨_,_,fv,(by first | rfl | simp [HMD.out,Md.begun]),rfl,HMO5.out.1,(fun _=>⟨by simp [HMD.out,Md.ending],(by first | rfl | simp)⟩),HLE.out,HMO5.out.2.1,HMO5.out.2.2.1⟩
          · have d28:(((x.toNat:Nat):Int) == 28)=false:=ne_num hx28
            have HX2:=hid hx28
            have HLE:Hid (((t.fr++[28])++[x]).length≤1000000):=hid (by rw [List.length_append,List.length_append];simp;omega)
            clear hx28
            by_cases hov:(most:Int)<(t.fr.length:Int)+1+1
            · have tok1:Hid True:=hid trivial
              have HNW1:=hid (newRow wo 28)
              have HON1:=hid (oneRow 28)
              have HOA1:=hid (HOWN.out.below ((Below.refl wo.heap.size wo).alloc (Nat.le_refl _) (.cells #[.int .u8 28] 5)))
              go_wp2_with (first | (at_builtin;have _t:=tok1;go_loud ((refine wpList_appAt rfl (.tmp 50) (.tmp 51) 40 rfl w.heap.size 5 (.int .u8 0) 1 Tryz.underlying40 byteInfo rfl (by decide) u8 t.fr.length (u8s t.fr) rfl HOA1.out ⟨wo.heap.size,0,none⟩ 1 1 [.int .u8 28] rfl rfl HNW1.out HON1.out (by have:=HNL.out;omega) (Nat.le_trans HSZ.out (by simp)) ?_;intro v5 w5 hown' hgr hfresh;have HMO5:=hid (nowMore (B:=w.heap.size) (y:=28) HOWN.out HT.out HROWS.out hown' hgr hfresh HSZ.out);have cT5:=cell_of_row w5 T 3 _ _ _ HMO5.out.2.1;simp only [told,List.getElem?_toArray,List.getElem?_cons_zero,List.getElem?_cons_succ] at cT5;have fT5:w5.frozen? ⟨T,3,none⟩=false:=(by simp [World.frozen?,HMO5.out.2.1]);obtain ⟨A5,c5,rfl⟩:=own_form hown';clear tok1 hown' hgr hfresh _t;have tok2:Hid True:=hid trivial;have HNW2:=hid (newRow w5 x);have HON2:=hid (oneRow x);have HOA2:Hid ((w5.alloc (.cells #[.int .u8 (x.toNat:Int)] 5)).ownsRow w.heap.size 5 1 (.slice A5 (t.fr.length+1) c5) (t.fr.length+1) (u8s (t.fr++[28]))):=hid (own_len (HMO5.out.1.below ((Below.refl w5.heap.size w5).alloc (Nat.le_refl _) (.cells #[.int .u8 (x.toNat:Int)] 5))))))) | (at_builtin;have _t:=tok2;go_loud ((refine wpList_appAt rfl (.tmp 57) (.tmp 59) 40 rfl w.heap.size 5 (.int .u8 0) 1 Tryz.underlying40 byteInfo rfl (by decide) (.slice A5 (t.fr.length+1) c5) (t.fr.length+1) (u8s (t.fr++[28])) rfl HOA2.out ⟨w5.heap.size,0,none⟩ 1 1 [.int .u8 (x.toNat:Int)] rfl rfl HNW2.out HON2.out (by have:=HNL.out;omega) (Nat.le_trans (Nat.le_trans HSZ.out HMO5.out.2.2.2.1.size) (by simp)) ?_;intro v6 w6 hown' hgr hfresh;have HMO6:=hid (nowMore (B:=w.heap.size) (y:=x) HMO5.out.1 HMO5.out.2.1 HMO5.out.2.2.1 (by rw [List.length_append];exact hown') hgr hfresh (Nat.le_trans HSZ.out HMO5.out.2.2.2.1.size));have cT6:=cell_of_row w6 T 3 _ _ _ HMO6.out.2.1;simp only [told,List.getElem?_toArray,List.getElem?_cons_zero,List.getElem?_cons_succ] at cT6;have fT6:w6.frozen? ⟨T,3,none⟩=false:=(by simp [World.frozen?,HMO6.out.2.1]);obtain ⟨A6,c6,rfl⟩:=own_form hown';clear tok2 hown' hgr hfresh _t))))
              have hbl2:Below w.heap.size w w6:=HB.out.trans ((HMO5.out.2.2.2.1).trans (HMO6.out.2.2.2.1))
              have hsz2:=Nat.le_trans HSZ.out ((HMO5.out.2.2.2.1).trans (HMO6.out.2.2.2.1)).size
              have hres2:∃ rx,w6.heap[R]?=some (.cells rx 106)∧rx.size=5:=by
                obtain ⟨rx,h1,h2⟩:=HRES.out
                exact ⟨rx,HMO6.out.2.2.2.2 R rx (HMO5.out.2.2.2.2 R rx (h1)),h2⟩
              have hch:=(Ch.refl (At1 T) w6).set1 3 (.int .i64 ((t.over:Int)+1))
              have hkeep:=keepT (B:=w.heap.size) HMO6.out.2.1 hch
              refine ⟨⟨k+1,HLT.out,by go_num,?_,hbl2.trans (hch.below (fun y hy=>by rw [hy];exact HTW.out) hsz2),(by obtain ⟨rx,h1,h2⟩:=hres2;exact ⟨rx,hch.row h1 HRT.out,h2⟩)⟩,by have:=HLT.out;simp [intOf];omega⟩
              rw [HSN.out,show eatD most (t,X) x=(leaveS { t with over:=t.over+1 },X) by simp [eatD,stepD,layS,leaveS,HMD.out,HX.out,HX2.out,HX3.out];omega]
              exact ⟨_,_,fv,rfl,rfl,hkeep.1 _ _ HMO6.out.1,(fun h=>by simp [leaveS,Md.begun] at h),HLE.out,heap_setCell_same w6 T 3 _ _ _ HMO6.out.2.1,hkeep.2 _ _ _ HMO6.out.2.2.1⟩
            · have tok1:Hid True:=hid trivial
              have HNW1:=hid (newRow wo 28)
              have HON1:=hid (oneRow 28)
              have HOA1:=hid (HOWN.out.below ((Below.refl wo.heap.size wo).alloc (Nat.le_refl _) (.cells #[.int .u8 28] 5)))
              go_wp2_with (first | (at_builtin;have _t:=tok1;go_loud ((refine wpList_appAt rfl (.tmp 50) (.tmp 51) 40 rfl w.heap.size 5 (.int .u8 0) 1 Tryz.underlying40 byteInfo rfl (by decide) u8 t.fr.length (u8s t.fr) rfl HOA1.out ⟨wo.heap.size,0,none⟩ 1 1 [.int .u8 28] rfl rfl HNW1.out HON1.out (by have:=HNL.out;omega) (Nat.le_trans HSZ.out (by simp)) ?_;intro v5 w5 hown' hgr hfresh;have HMO5:=hid (nowMore (B:=w.heap.size) (y:=28) HOWN.out HT.out HROWS.out hown' hgr hfresh HSZ.out);have cT5:=cell_of_row w5 T 3 _ _ _ HMO5.out.2.1;simp only [told,List.getElem?_toArray,List.getElem?_cons_zero,List.getElem?_cons_succ] at cT5;have fT5:w5.frozen? ⟨T,3,none⟩=false:=(by simp [World.frozen?,HMO5.out.2.1]);obtain ⟨A5,c5,rfl⟩:=own_form hown';clear tok1 hown' hgr hfresh _t;have tok2:Hid True:=hid trivial;have HNW2:=hid (newRow w5 x);have HON2:=hid (oneRow x);have HOA2:Hid ((w5.alloc (.cells #[.int .u8 (x.toNat:Int)] 5)).ownsRow w.heap.size 5 1 (.slice A5 (t.fr.length+1) c5) (t.fr.length+1) (u8s (t.fr++[28]))):=hid (own_len (HMO5.out.1.below ((Below.refl w5.heap.size w5).alloc (Nat.le_refl _) (.cells #[.int .u8 (x.toNat:Int)] 5))))))) | (at_builtin;have _t:=tok2;go_loud ((refine wpList_appAt rfl (.tmp 57) (.tmp 59) 40 rfl w.heap.size 5 (.int .u8 0) 1 Tryz.underlying40 byteInfo rfl (by decide) (.slice A5 (t.fr.length+1) c5) (t.fr.length+1) (u8s (t.fr++[28])) rfl HOA2.out ⟨w5.heap.size,0,none⟩ 1 1 [.int .u8 (x.toNat:Int)] rfl rfl HNW2.out HON2.out (by have:=HNL.out;omega) (Nat.le_trans (Nat.le_trans HSZ.out HMO5.out.2.2.2.1.size) (by simp)) ?_;intro v6 w6 hown' hgr hfresh;have HMO6:=hid (nowMore (B:=w.heap.size) (y:=x) HMO5.out.1 HMO5.out.2.1 HMO5.out.2.2.1 (by rw [List.length_append];exact hown') hgr hfresh (Nat.le_trans HSZ.out HMO5.out.2.2.2.1.size));have cT6:=cell_of_row w6 T 3 _ _ _ HMO6.out.2.1;simp only [told,List.getElem?_toArray,List.getElem?_cons_zero,List.getElem?_cons_succ] at cT6;have fT6:w6.frozen? ⟨T,3,none⟩=false:=(by simp [World.frozen?,HMO6.out.2.1]);obtain ⟨A6,c6,rfl⟩:=own_form hown';clear tok2 hown' hgr hfresh _t))))
              have hbl2:Below w.heap.size w w6:=HB.out.trans ((HMO5.out.2.2.2.1).trans (HMO6.out.2.2.2.1))
              have hsz2:=Nat.le_trans HSZ.out ((HMO5.out.2.2.2.1).trans (HMO6.out.2.2.2.1)).size
              have hres2:∃ rx,w6.heap[R]?=some (.cells rx 106)∧rx.size=5:=by
                obtain ⟨rx,h1,h2⟩:=HRES.out
                exact ⟨rx,HMO6.out.2.2.2.2 R rx (HMO5.out.2.2.2.2 R rx (h1)),h2⟩
              refine ⟨⟨k+1,HLT.out,by go_num,?_,hbl2,hres2⟩,by have:=HLT.out;simp [intOf];omega⟩
              rw [HSN.out,show eatD most (t,X) x=({ t with md:=.inn,fr:=t.fr++[28,x] },X) by simp [eatD,stepD,layS,HMD.out,HX.out,HX2.out,HX3.out];omega]
              exact ⟨_,_,fv,(by first | rfl | simp [HMD.out,Md.begun]),rfl,HMO6.out.1,(fun _=>⟨by simp [Md.ending],(by first | rfl | simp)⟩),HLE.out,HMO6.out.2.1,HMO6.out.2.2.1⟩
    · obtain rfl:k=n:=by omega
      rw [List.take_of_length_le (by rw [HLN.out];exact Nat.le_refl _)] at HT HROWS HEN ⊢
      generalize feedD most newS l=p at *
      obtain ⟨A7,c7,rfl,_⟩:=HROWS.out.rd
      have HTW2:Hid (w.heap.size≤T):=hid (by have:=HTB.out;omega)
      have HRW2:Hid (w.heap.size≤R):=hid (by have:=HRB.out;omega)
      obtain ⟨rx,hr1,hr2⟩:=HRES.out
      match rx,hr2 with
      | ⟨[r0,r1,r2,r3,r4]⟩,_ =>
      have HR1:=hid hr1
      have q0:=cell_of_row wo R 0 _ _ _ hr1
      have q1:=cell_of_row wo R 1 _ _ _ hr1
      have q2:=cell_of_row wo R 2 _ _ _ hr1
      have q3:=cell_of_row wo R 3 _ _ _ hr1
      have q4:=cell_of_row wo R 4 _ _ _ hr1
      simp only [List.getElem?_toArray,List.getElem?_cons_zero,List.getElem?_cons_succ] at q0 q1 q2 q3 q4
      have g0:wo.frozen? ⟨R,0,none⟩=false:=by simp [World.frozen?,hr1]
      have g1:wo.frozen? ⟨R,1,none⟩=false:=by simp [World.frozen?,hr1]
      have g2:wo.frozen? ⟨R,2,none⟩=false:=by simp [World.frozen?,hr1]
      have g3:wo.frozen? ⟨R,3,none⟩=false:=by simp [World.frozen?,hr1]
      have g4:wo.frozen? ⟨R,4,none⟩=false:=by simp [World.frozen?,hr1]
      have c0:=cell_of_row wo T 0 _ _ _ HT.out
      have c1:=cell_of_row wo T 1 _ _ _ HT.out
      have c2:=cell_of_row wo T 2 _ _ _ HT.out
      have c3:=cell_of_row wo T 3 _ _ _ HT.out
      have c4:=cell_of_row wo T 4 _ _ _ HT.out
      simp only [told,List.getElem?_toArray,List.getElem?_cons_zero,List.getElem?_cons_succ] at c0 c1 c2 c3 c4
      have hne:=HRT.out
      have hne2:T≠R:=fun e=>HRT.out e.symm
      clear hr1
      cases hmd:p.1.md
      · have HMD:=hid hmd
        rw [show Md.begun .out=false from rfl]
        clear hmd
        go_wp2_with (fail)
        have hE:=readEnd (p:=p) (hd:=0) HT.out HR1.out (r0:=r0) (r1:=r1) (r2:=r2) (r3:=r3) (r4:=r4) (W:=wo) HR1.out (Ch.refl _ _) HROWS.out HB.out HTW2.out HRW2.out (by simp [heldD,HMD.out]) _ rfl
        unfold setFive05 at hE
        obtain ⟨hE1,hE2⟩:=hE
        exact bodyPost_ret (v:=.agg (told (.slice A7 p.2.length c7) 0 p.1.junk p.1.over p.1.broken)) (by
          have e0:=cell_of_row _ R 0 _ _ _ hE1
          have e1:=cell_of_row _ R 1 _ _ _ hE1
          have e2:=cell_of_row _ R 2 _ _ _ hE1
          have e3:=cell_of_row _ R 3 _ _ _ hE1
          have e4:=cell_of_row _ R 4 _ _ _ hE1
          simp only [told,List.getElem?_toArray,List.getElem?_cons_zero,List.getElem?_cons_succ] at e0 e1 e2 e3 e4
          simp [results,Tryz.results55,go_sem,e0,e1,e2,e3,e4]) rfl hE2
      · have HMD:=hid hmd
        have hee:=HEN.out (by rw [hmd];rfl)
        rw [hmd] at hee
        obtain ⟨rfl,rfl⟩:=hee
        have ft1:wo.frozen? ⟨T,1,none⟩=false:=by simp [World.frozen?,HT.out]
        have hnl:=HNL.out
        obtain ⟨A8,c8,rfl,hb8,_⟩:=Own.bs HOWN.out
        clear hb8
        rw [show Md.begun .inn=true from rfl,show Md.ending .inn=false from rfl]
        clear hmd
        go_wp2_with (fail)
        have hE:=readEnd (p:=p) (hd:=(1+(p.1.fr.length:Int))) HT.out HR1.out (r0:=r0) (r1:=r1) (r2:=r2) (r3:=r3) (r4:=r4) (W:=(wo.setCell ⟨T,1,none⟩ (.int .i64 (1+(p.1.fr.length:Int))))) ((heap_setCell_other _ _ _ _ (by show R≠T;exact HRT.out)).trans HR1.out) ((Ch.refl (Two T R) wo).set (a:=⟨T,1,none⟩) (.inl rfl) _) HROWS.out HB.out HTW2.out HRW2.out (by simp [heldD,HMD.out]) _ rfl
        unfold setFive05 at hE
        obtain ⟨hE1,hE2⟩:=hE
        exact bodyPost_ret (v:=.agg (told (.slice A7 p.2.length c7) (1+(p.1.fr.length:Int)) p.1.junk p.1.over p.1.broken)) (by
          have e0:=cell_of_row _ R 0 _ _ _ hE1
          have e1:=cell_of_row _ R 1 _ _ _ hE1
          have e2:=cell_of_row _ R 2 _ _ _ hE1
          have e3:=cell_of_row _ R 3 _ _ _ hE1
          have e4:=cell_of_row _ R 4 _ _ _ hE1
          simp only [told,List.getElem?_toArray,List.getElem?_cons_zero,List.getElem?_cons_succ] at e0 e1 e2 e3 e4
          simp [results,Tryz.results55,go_sem,e0,e1,e2,e3,e4]) rfl hE2
      · have HMD:=hid hmd
        have hee:=HEN.out (by rw [hmd];rfl)
        rw [hmd] at hee
        obtain ⟨rfl,rfl⟩:=hee
        have ft1:wo.frozen? ⟨T,1,none⟩=false:=by simp [World.frozen?,HT.out]
        have hnl:=HNL.out
        obtain ⟨A8,c8,rfl,hb8,_⟩:=Own.bs HOWN.out
        clear hb8
        rw [show Md.begun .beh=true from rfl,show Md.ending .beh=true from rfl]
        clear hmd
        go_wp2_with (fail)
        have hE:=readEnd (p:=p) (hd:=(1+(p.1.fr.length:Int)+1)) HT.out HR1.out (r0:=r0) (r1:=r1) (r2:=r2) (r3:=r3) (r4:=r4) (W:=((wo.setCell ⟨T,1,none⟩ (.int .i64 (1+(p.1.fr.length:Int)))).setCell ⟨T,1,none⟩ (.int .i64 (1+(p.1.fr.length:Int)+1)))) ((heap_setCell_other _ _ _ _ (by show R≠T;exact HRT.out)).trans ((heap_setCell_other _ _ _ _ (by show R≠T;exact HRT.out)).trans HR1.out)) (((Ch.refl (Two T R) wo).set (a:=⟨T,1,none⟩) (.inl rfl) _).set (a:=⟨T,1,none⟩) (.inl rfl) _) HROWS.out HB.out HTW2.out HRW2.out (by simp [heldD,HMD.out]) _ rfl
        unfold setFive05 at hE
        obtain ⟨hE1,hE2⟩:=hE
        exact bodyPost_ret (v:=.agg (told (.slice A7 p.2.length c7) (1+(p.1.fr.length:Int)+1) p.1.junk p.1.over p.1.broken)) (by
          have e0:=cell_of_row _ R 0 _ _ _ hE1
          have e1:=cell_of_row _ R 1 _ _ _ hE1
          have e2:=cell_of_row _ R 2 _ _ _ hE1
          have e3:=cell_of_row _ R 3 _ _ _ hE1
          have e4:=cell_of_row _ R 4 _ _ _ hE1
          simp only [told,List.getElem?_toArray,List.getElem?_cons_zero,List.getElem?_cons_succ] at e0 e1 e2 e3 e4
          simp [results,Tryz.results55,go_sem,e0,e1,e2,e3,e4]) rfl hE2
end
end Go.Proofs.YtodjilljcjkacaaGreatDoor
