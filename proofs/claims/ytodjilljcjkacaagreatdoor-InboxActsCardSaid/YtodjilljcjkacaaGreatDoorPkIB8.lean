/- Laid together: WalC. -/
import Derived.Test.YtodjilljcjkacaaGreatDoorPkIB7
import Derived.Deep.RegionLaw
import Derived.Deep.RegionHeld3

namespace Go.Proofs.YtodjilljcjkacaaGreatDoor
open Lib (hid)
/- Layer 14: what Add and Open do,as plain functions,and what a log's file keeps. -/
section
open Go.RowKit Go.MapKept
def undo_ (x:Int) (r:Out):Out:=match r with
  | (.inl _,s)=>(.inl x,s)
  | (.inr op,s)=>(.inr op,s)
def addS (nm:ByteArray) (g:Nat) (r:Out):Out:=match r with
  | (.inr op,s)=>(.inr op,s)
  | (.inl x,s)=>if x=0 then (.inl 0,s) else undo_ 5 (opTrunc s.1 s.2 nm (g:Int))
def addA (nm:ByteArray) (g m:Nat) (r:OutN):Out:=match r with
  | ((_,.inr op),s)=>(.inr op,s)
  | ((n,.inl _),s)=>if n<(m:Int) then undo_ 4 (opTrunc s.1 s.2 nm (g:Int)) else addS nm g (opSync s.1 s.2 nm)
def addD (d:Dk) (fs:Fs) (nm:ByteArray) (g:Nat) (b:List UInt8):Out :=
  if okLen b.length=true then addA nm g (record b).length (appO d fs nm (record b)) else (.inl 9,d,fs)
def bsOf (fs:Fs) (nm:ByteArray):List UInt8:=match fget fs nm with
  | some f=>f.bs
  | none=>[]
def openT (nm:ByteArray) (r:Out):Out:=match r with
  | (.inr op,s)=>(.inr op,s)
  | (.inl _,s)=>opSync s.1 s.2 nm
def openD (d:Dk) (fs:Fs) (nm:ByteArray):Out :=
  if (scan (bsOf fs nm)).2.1=(bsOf fs nm).length then (.inl 0,d,fs) else openT nm (opTrunc d fs nm ((scan (bsOf fs nm)).2.1:Int))
theorem fget_put_same:∀ (fs:Fs) (k:ByteArray) (v:Fl),fget (fput fs k v) k=some v
  | [],k,v=>by simp [fput,fget]
  | (a,u) :: r,k,v=>by
    unfold fput
    split
    · simp [fget]
    · rename_i h
      unfold fget
      rw [if_neg h]
      exact fget_put_same r k v
theorem trunc_get {d:Dk} {fs:Fs} {nm:ByteArray} {f:Fl} {n:Nat} (h:fget fs nm=some f) (hn:n≤f.bs.length) :
    ((opTrunc d fs nm (n:Int)).1=.inl 0∧fget (opTrunc d fs nm (n:Int)).2.2 nm=some (trFl n f)) ∨
    ∃ op,(opTrunc d fs nm (n:Int)).1=.inr op∧d.armedIn=1∧(fget (opTrunc d fs nm (n:Int)).2.2 nm=some (trFl n f)∨fget (opTrunc d fs nm (n:Int)).2.2 nm=some f):=by
  unfold opTrunc
  rw [h]
  simp only
  rw [if_neg (by omega)]
  unfold opChange
  by_cases ha:d.armedIn=1
  · rw [if_pos ha]
    refine .inr ⟨_,rfl,ha,?_⟩
    by_cases ho:dOdd d=true
    · rw [if_pos ho];left;simp only [Int.toNat_natCast];exact fget_put_same _ _ _
    · rw [if_neg ho];right;exact h
  · rw [if_neg ha]
    refine .inl ⟨rfl,?_⟩
    simp only [Int.toNat_natCast]
    exact fget_put_same _ _ _
theorem sync_get {d:Dk} {fs:Fs} {nm:ByteArray} {f:Fl} (h:fget fs nm=some f) :
    ((opSync d fs nm).1=.inl 0∧fget (opSync d fs nm).2.2 nm=some ⟨f.bs,f.bs.length⟩) ∨
    ((∃ x,x≠0∧(opSync d fs nm).1=.inl x)∧d.failIn=1∧fget (opSync d fs nm).2.2 nm=some f) ∨
    ∃ op,(opSync d fs nm).1=.inr op∧d.armedIn=1∧(fget (opSync d fs nm).2.2 nm=some ⟨f.bs,f.bs.length⟩∨fget (opSync d fs nm).2.2 nm=some f):=by
  unfold opSync
  rw [h]
  simp only
  unfold opChange
  by_cases ha:d.armedIn=1
  · rw [if_pos ha]
    refine .inr (.inr ⟨_,rfl,ha,?_⟩)
    by_cases ho:dOdd d=true
    · rw [if_pos ho]
      simp only [fget_put_same]
      cases (d.failIn == 1)
      · left;rfl
      · right;rfl
    · rw [if_neg ho];right;exact h
  · rw [if_neg ha]
    cases hf:(d.failIn == 1)
    · exact .inl ⟨rfl,fget_put_same _ _ _⟩
    · exact .inr (.inl ⟨⟨_,by decide,rfl⟩,by simpa using hf,fget_put_same _ _ _⟩)
theorem app_get {d:Dk} {fs:Fs} {nm:ByteArray} {l:List UInt8} (hn:nameD nm=true) {c:List UInt8} {s:Nat} (h:(fget fs nm=none∧c=[]∧s=0)∨fget fs nm=some ⟨c,s⟩) :
    ∃ k,k≤l.length∧fget (appO d fs nm l).2.2 nm=some ⟨c++l.take k,s⟩∧((∃ x,(appO d fs nm l).1=((k:Int),.inl x))∨∃ op,(appO d fs nm l).1.2=.inr op):=by
  have hl:∀ b,fget (layF fs nm b) nm=some ⟨c++b,s⟩:=fun b=>by
    unfold layF
    rw [fget_put_same]
    rcases h with ⟨h,rfl,rfl⟩|h
    · rw [h];rfl
    · rw [h]
  unfold appO
  rw [if_neg (by rw [hn];decide)]
  by_cases ha:d.armedIn=1
  · rw [if_pos ha]
    exact ⟨appK d l.length,by unfold appK appN;omega,hl _,.inr ⟨_,rfl⟩⟩
  · rw [if_neg ha]
    exact ⟨appN d l.length,by unfold appN;omega,hl _,.inl ⟨_,rfl⟩⟩
def WalFs (fs:Fs) (nm:ByteArray) (rs:List (List UInt8)):Prop :=
  (∀ x ∈ rs,okLen x.length=true)∧((fget fs nm=none∧rs=[])∨fget fs nm=some ⟨recs rs,(recs rs).length⟩)
def HalfFs (fs:Fs) (nm:ByteArray) (rs:List (List UInt8)) (b:List UInt8):Prop :=
  okLen b.length=true∧(∀ x ∈ rs,okLen x.length=true)∧∃ k s,k≤(record b).length∧(recs rs).length≤s∧s≤(recs rs).length+k∧fget fs nm=some ⟨recs rs++(record b).take k,s⟩
def AddEnd (nm:ByteArray) (rs:List (List UInt8)) (b:List UInt8) (r:Out):Prop:=match r with
  | (.inl x,s)=>if x=0 then okLen b.length=true∧WalFs s.2 nm (rs++[b]) else WalFs s.2 nm rs
  | (.inr _,s)=>HalfFs s.2 nm rs b
theorem trFl_back (X Y:List UInt8):trFl X.length ⟨X++Y,X.length⟩=⟨X,X.length⟩:=by
  unfold trFl
  simp
theorem undo_end {d:Dk} {fs:Fs} {nm:ByteArray} {rs:List (List UInt8)} {b:List UInt8} {k:Nat} {x:Int} (hx:x≠0) (hb:okLen b.length=true) (hok:∀ x ∈ rs,okLen x.length=true) (hk:k≤(record b).length)
    (h:fget fs nm=some ⟨recs rs++(record b).take k,(recs rs).length⟩):AddEnd nm rs b (undo_ x (opTrunc d fs nm ((recs rs).length:Int))):=by
  have ht:=trunc_get (d:=d) (n:=(recs rs).length) h (by simp)
  rw [trFl_back] at ht
  generalize opTrunc d fs nm ((recs rs).length:Int)=r at ht
  obtain ⟨y,d',fs'⟩:=r
  rcases ht with ⟨h1,h2⟩|⟨op,h1,_,h2⟩
  · obtain rfl:y=.inl 0:=h1
    show if x=0 then _ else WalFs fs' nm rs
    rw [if_neg hx]
    exact ⟨hok,.inr h2⟩
  · obtain rfl:y=.inr op:=h1
    rcases h2 with h2|h2
    · exact ⟨hb,hok,0,_,Nat.zero_le _,Nat.le_refl _,by omega,by rw [show (record b).take 0=[] from rfl,List.append_nil];exact h2⟩
    · exact ⟨hb,hok,k,_,hk,Nat.le_refl _,by omega,h2⟩
theorem addD_keeps (d:Dk) {fs:Fs} {nm:ByteArray} {rs:List (List UInt8)} (b:List UInt8) (hn:nameD nm=true) (hw:WalFs fs nm rs):AddEnd nm rs b (addD d fs nm (recs rs).length b):=by
  obtain ⟨hok,hf⟩:=hw
  unfold addD
  by_cases hb:okLen b.length=true
  · rw [if_pos hb]
    obtain ⟨k,hk,hg,he⟩:=app_get (d:=d) (l:=record b) hn (c:=recs rs) (s:=(recs rs).length) (by
      rcases hf with ⟨h,rfl⟩|h
      · exact .inl ⟨h,rfl,rfl⟩
      · exact .inr h)
    generalize appO d fs nm (record b)=r at hg he
    obtain ⟨⟨n,y⟩,d1,fs1⟩:=r
    rcases he with ⟨x,he⟩|⟨op,he⟩
    · obtain ⟨rfl,rfl⟩:=Prod.mk.inj he
      show AddEnd nm rs b (if (k:Int)<((record b).length:Int) then undo_ 4 (opTrunc d1 fs1 nm ((recs rs).length:Int)) else addS nm (recs rs).length (opSync d1 fs1 nm))
      by_cases hlt:(k:Int)<((record b).length:Int)
      · rw [if_pos hlt]
        exact undo_end (by decide) hb hok hk hg
      · rw [if_neg hlt]
        have hs:=sync_get (d:=d1) hg
        generalize opSync d1 fs1 nm=r at hs
        obtain ⟨y,d2,fs2⟩:=r
        have hkk:k=(record b).length:=by omega
        rcases hs with ⟨h1,h2⟩|⟨⟨z,hz,h1⟩,_,h2⟩|⟨op,h1,_,h2⟩
        · obtain rfl:y=.inl 0:=h1
          refine ⟨hb,fun x hx=>?_,.inr ?_⟩
          · rcases List.mem_append.1 hx with hx|hx
            · exact hok x hx
            · rw [List.mem_singleton.1 hx];exact hb
          · rw [h2,hkk,List.take_of_length_le (Nat.le_refl _),recs_snoc]
        · obtain rfl:y=.inl z:=h1
          show AddEnd nm rs b (if z=0 then (.inl 0,(d2,fs2)) else undo_ 5 (opTrunc d2 fs2 nm ((recs rs).length:Int)))
          rw [if_neg hz]
          exact undo_end (by decide) hb hok hk h2
        · obtain rfl:y=.inr op:=h1
          rcases h2 with h2|h2
          · refine ⟨hb,hok,k,_,hk,?_,?_,h2⟩
            · simp
            · rw [List.length_append,List.length_take];omega
          · exact ⟨hb,hok,k,_,hk,Nat.le_refl _,by omega,h2⟩
    · obtain rfl:y=.inr op:=he
      exact ⟨hb,hok,k,_,hk,Nat.le_refl _,by omega,hg⟩
  · rw [if_neg hb]
    show if (9:Int)=0 then okLen b.length=true∧WalFs fs nm (rs++[b]) else WalFs fs nm rs
    rw [if_neg (by decide)]
    exact ⟨hok,hf⟩
theorem scan_whole {rs:List (List UInt8)} (hok:∀ x ∈ rs,okLen x.length=true):scan (recs rs)=(rs,(recs rs).length,0):=by
  have h:=cut_scan rs (recs rs).length hok (Nat.le_refl _)
  have hc:∀ rs:List (List UInt8),cutI rs (recs rs).length=(rs.length,(recs rs).length):=by
    intro rs
    induction rs with
    | nil=>rfl
    | cons a r ih =>
      have hl:(recs (a :: r)).length=8+a.length+(recs r).length:=by rw [recs_cons,List.length_append,record_length]
      simp only [cutI]
      rw [if_neg (by omega),show (recs (a :: r)).length-(8+a.length)=(recs r).length from by omega,ih]
      simp [hl]
  rw [hc rs,List.take_of_length_le (Nat.le_refl _),List.take_of_length_le (Nat.le_refl _)] at h
  simpa using h
theorem walFs_bs {fs:Fs} {nm:ByteArray} {rs:List (List UInt8)} (h:WalFs fs nm rs):bsOf fs nm=recs rs:=by
  unfold bsOf
  rcases h.2 with ⟨h1,rfl⟩|h1
  · rw [h1];rfl
  · rw [h1]
theorem openD_whole (d:Dk) {fs:Fs} {nm:ByteArray} {rs:List (List UInt8)} (h:WalFs fs nm rs):openD d fs nm=(.inl 0,d,fs)∧(scan (bsOf fs nm)).1=rs∧(scan (bsOf fs nm)).2.1=(recs rs).length:=by
  have hs:=scan_whole h.1
  unfold openD
  rw [walFs_bs h,hs]
  exact ⟨if_pos rfl,rfl,rfl⟩
theorem begin_rest {d:Dk} (ha:d.armedIn=0):d.begin.armedIn=0:=by unfold Dk.begin;simp [ha]
theorem syncs_rest {d:Dk} (hf:d.failIn=0):d.syncs.failIn=0:=by unfold Dk.syncs;simp [hf]
theorem sync_rest {d:Dk} {fs:Fs} {nm:ByteArray} (ha:d.armedIn=0) (hf:d.failIn=0):(opSync d fs nm).2.1.armedIn=0∧(opSync d fs nm).2.1.failIn=0:=by
  unfold opSync
  split
  · exact ⟨ha,hf⟩
  · unfold opChange
    rw [if_neg (by omega)]
    exact ⟨begin_rest (d:=d.syncs) ha,syncs_rest hf⟩
end
/- Layer 14: a log,and the methods that only read it,walked. -/
section
open Go.RowKit Go.MapKept
abbrev TL:TypeId:=128
abbrev pL (L:Nat):Value:=.pointer (some ⟨L,0,none⟩)
abbrev lgCells (D:Nat) (nm:ByteArray) (v:Value) (g:Nat):Array Value:=#[pD D,.string nm,v,.int .i64 (g:Int)]
def LT (L D M:Nat) (F:List Ent) (k:Nat):Prop:=k=L∨DFoot D M F k
structure LgAt (E:Nat→Prop) (w:World) (B L D M:Nat) (F:List Ent) (nm:ByteArray) (rs:List (List UInt8)) (g:Nat) (v:Value):Prop where
  row:w.heap[L]?=some (.cells (lgCells D nm v g) TL)
  base:B≤L
  off:¬ DFoot D M F L
  rw:Rw B (fun k=>LT L D M F k∨E k) w v rs
section
variable {E:Nat→Prop} {w w':World} {B L D M g:Nat} {d d':Dk} {F F':List Ent} {nm:ByteArray} {rs:List (List UInt8)} {v:Value}
theorem LgAt.lt (h:LgAt E w B L D M F nm rs g v):L<w.heap.size:=(Array.getElem?_eq_some_iff.1 h.row).1
theorem LgAt.cell (h:LgAt E w B L D M F nm rs g v) (j:Nat):w.cell? ⟨L,j,none⟩=(lgCells D nm v g)[j]?:=cell_of_row w L j _ _ _ h.row
theorem LgAt.frozen (h:LgAt E w B L D M F nm rs g v) (j:Nat):w.frozen? ⟨L,j,none⟩=false:=by simp [World.frozen?,h.row]
theorem DkCh.dfoot (c:DkCh D M F F' w w') {k:Nat} (hk:DFoot D M F' k):DFoot D M F k∨w.heap.size≤k:=by
  rcases hk with hk|hk|hk
  · exact .inl (.inl hk)
  · exact .inl (.inr (.inl hk))
  · rcases c.foot k hk with h|h
    · exact .inl (.inr (.inr h))
    · exact .inr h
theorem LgAt.dkch (h:LgAt E w B L D M F nm rs g v) (c:DkCh D M F F' w w'):LgAt E w' B L D M F' nm rs g v :=
  ⟨c.ch.row h.row h.off,h.base,fun hk=>by
    rcases c.dfoot hk with h1|h1
    · exact h.off h1
    · have:=h.lt;omega,h.rw.ch c.ch (fun _ _ hk=>.inl (.inr hk)) (fun k hk ht=>by
    rcases ht with (ht|ht)|ht
    · exact .inl (.inl ht)
    · rcases c.dfoot ht with h1|h1
      · exact .inl (.inr h1)
      · omega
    · exact .inr ht)⟩
theorem LgAt.below (h:LgAt E w B L D M F nm rs g v) (hb:Below w.heap.size w w'):LgAt E w' B L D M F nm rs g v:=h.dkch (DkCh.of_below hb)
def WFoot (L D M:Nat) (F:List Ent) (v:Value) (k:Nat):Prop:=LT L D M F k∨v.ownBlock=some k
structure WlCh (L D M:Nat) (F F':List Ent) (v v':Value) (w w':World):Prop where
  ch:Ch (WFoot L D M F v) w w'
  foot:∀ k,WFoot L D M F' v' k→WFoot L D M F v k∨w.heap.size≤k
theorem WlCh.of_dk (c:DkCh D M F F' w w'):WlCh L D M F F' v v w w' :=
  ⟨(Ch.refl _ w).trans c.ch (fun _ _ hk=>.inl (.inr hk)),fun k hk=>by
    rcases hk with (hk|hk)|hk
    · exact .inl (.inl (.inl hk))
    · rcases c.dfoot hk with h|h
      · exact .inl (.inl (.inr h))
      · exact .inr h
    · exact .inl (.inr hk)⟩
theorem WlCh.trans {w1:World} {F1:List Ent} {v1 v':Value} (h:WlCh L D M F F1 v v1 w w1) (k:WlCh L D M F1 F' v1 v' w1 w'):WlCh L D M F F' v v' w w' :=
  ⟨h.ch.trans k.ch (fun x hx hf=>by
    rcases h.foot x hf with h1|h1
    · exact h1
    · omega),fun x hx=>by
    rcases k.foot x hx with h1|h1
    · exact h.foot x h1
    · exact .inr (Nat.le_trans h.ch.size h1)⟩
theorem WlCh.of_below (hb:Below w.heap.size w w'):WlCh L D M F F v v w w':=WlCh.of_dk (DkCh.of_below hb)
theorem LgAt.foot_lt (h:LgAt E w B L D M F nm rs g v) (hd:DkAt w B D M d F) {k:Nat} (hk:WFoot L D M F v k):B≤k∧k<w.heap.size:=by
  rcases hk with (hk|hk)|hk
  · rw [hk];exact ⟨h.base,h.lt⟩
  · exact hd.foot_lt hk
  · obtain ⟨vs,hv⟩:=h.rw
    exact World.ownsRow.lt hv.2.1 k hk
theorem Rw.widen {T T':Nat→Prop} (h:Rw B T w v rs) (hT:∀ k,T' k→T k∨w.heap.size≤k):Rw B T' w v rs:=by
  obtain ⟨vs,h1,h2,h3,h4,h5⟩:=h
  refine ⟨vs,h1,h2,h3,fun k hk ht=>?_,fun i u x a b=>?_⟩
  · rcases hT k ht with h6|h6
    · exact h4 k hk h6
    · have:=(World.ownsRow.lt h2 k hk).2;omega
  · obtain ⟨A,c,e,hb,hne⟩:=h5 i u x a b
    refine ⟨A,c,e,hb,fun h0 b' hb'=>⟨(hne h0 b' hb').1,fun ht=>?_⟩⟩
    rcases hT _ ht with h6|h6
    · exact (hne h0 b' hb').2 h6
    · obtain ⟨b2,o2,e2,hlt,_⟩:=hb.at_ h0
      rw [hb'] at e2;injection e2 with e2;subst e2;simp only at h6;omega
theorem LgAt.widen {E':Nat→Prop} (h:LgAt E w B L D M F nm rs g v) (hE:∀ k,E' k→E k∨w.heap.size≤k):LgAt E' w B L D M F nm rs g v :=
  ⟨h.row,h.base,h.off,h.rw.widen (fun k hk=>by
    rcases hk with hk|hk
    · exact .inl (.inl hk)
    · rcases hE k hk with h1|h1
      · exact .inl (.inr h1)
      · exact .inr h1)⟩
theorem LgAt.chE {S:Nat→Prop} (h:LgAt E w B L D M F nm rs g v) (c:Ch S w w') (hS:∀ k,k<w.heap.size→S k→E k) (hL:¬ S L):LgAt E w' B L D M F nm rs g v :=
  ⟨c.row h.row hL,h.base,h.off,h.rw.ch c (fun k hk hs=>.inr (hS k hk hs)) (fun _ _ ht=>ht)⟩
set_option maxRecDepth 100000 in
set_option maxHeartbeats 2000000 in
theorem walLen (h:LgAt E w B L D M F nm rs g v):Calls Tryz.prog 36 #[pL L] w fun e w'=>e=.returned (.int .i64 (rs.length:Int))∧w'=w:=by
  obtain ⟨A,c,rfl⟩:=h.rw.form
  have c2:=h.cell 2
  simp only [List.getElem?_toArray,List.getElem?_cons_zero,List.getElem?_cons_succ] at c2
  clear h
  go_enter Tryz.func36,Tryz.ntmps36
  go_wp2_with (fail)
  go_ret
  exact ⟨rfl,rfl⟩
def RetC (w:World) (l:List UInt8) (e:Ending) (w':World):Prop:=∃ b,e=.returned (.slice (some ⟨b,0,none⟩) l.length l.length)∧w.heap.size≤b∧w'.heap[b]?=some (.cells (u8s l).toArray 5)∧Below w.heap.size w w'
set_option maxRecDepth 100000 in
set_option maxHeartbeats 2000000 in
theorem walClone (A:Option Addr) (n c:Nat) (l:List UInt8) (w:World) (hB:Bs w A n c l) (hm:n≤140737488355328):Calls Tryz.prog 75 #[.slice A n c] w (RetC w l):=by
  have hnm:=hB.nmax
  have hl:=hB.len
  subst hl
  obtain ⟨Z,HZ,hzl,hmk⟩:=mk_zeros ((l.length:Nat):Int) l.length rfl (by omega)
  have HZL:=hid hzl
  have HB:=hid hB
  have tok2:Hid True:=hid trivial
  clear hB hzl
  go_enter Tryz.func75,Tryz.ntmps75
  go_wp2_with (have _t:=tok2;with_reducible show wpList _ _ _ _ _ _;refine wpList_cpyTo rfl (.tmp 7) (.tmp 8) 40 40 rfl 5 Tryz.underlying40 byteInfo w.heap.size 0 _ _ _ rfl Z 5 (heap_alloc_new w _) A l.length l.length c l rfl (HB.out.alloc _) (fun _=>rfl) (by omega) (by rw [HZL.out];omega) ?_;intro w1 hw1 hb1;have HB1:=hid hb1;clear hb1 tok2 _t)
  go_ret
  have hr:=hw1.out
  rw [List.take_zero,List.nil_append,List.drop_of_length_le (by rw [HZL.out];omega),List.append_nil] at hr
  exact ⟨w.heap.size,rfl,Nat.le_refl _,hr,((Below.refl _ w).alloc (Nat.le_refl _) _).trans (HB1.out.mono (Nat.le_refl _))⟩
end
end
/- Layer 14: a log's last bytes taken back,walked. -/
section
open Go.RowKit Go.MapKept
def endU:Int ⊕ Int→Ending
  | .inl _=>.returned (.tuple #[])
  | .inr op=>.panicked [{ v:=crashI op,recovered:=false }]
def UEnds (B D M:Nat) (F:List Ent) (w:World) (r:Out) (e:Ending) (w':World):Prop :=
  ∃ F',e=endU r.1∧DkAt w' B D M r.2.1 F'∧DkCh D M F F' w w'∧fsOf F'=r.2.2
section
variable {E:Nat→Prop} {w w':World} {B L D M g:Nat} {d d':Dk} {F F':List Ent} {nm:ByteArray} {rs:List (List UInt8)} {v:Value}
set_option maxRecDepth 100000 in
set_option maxHeartbeats 4000000 in
theorem walTakeBack (h:LgAt E w B L D M F nm rs g v) (hd:DkAt w B D M d F) (ok:FsOk d (fsOf F)):Calls Tryz.prog 66 #[pL L] w (UEnds B D M F w (opTrunc d (fsOf F) nm (g:Int))):=by
  have c0:∀ n:Here w.drew,n.u.cell? ⟨L,0,none⟩=some (pD D):=Here.cell (h.cell 0)
  have c1:∀ n:Here w.drew,n.u.cell? ⟨L,1,none⟩=some (.string nm):=Here.cell (h.cell 1)
  have c3:∀ n:Here w.drew,n.u.cell? ⟨L,3,none⟩=some (.int .i64 (g:Int)):=Here.cell (h.cell 3)
  have HD:Hid (DkAt w.drew B D M d F):=hid (hd.below (Below.refl _ w).drew)
  have HC:Hid (DkCh D M F F w w.drew):=hid (DkCh.of_below (Below.refl _ w).drew)
  have OK:=hid ok
  clear h hd ok
  go_enter Tryz.func66,Tryz.ntmps66
  go_wp2_with (fail)
  refine region_tail 12 (by kernel_rfl) (by kernel_rfl) ?_
  simp only [List.take_succ_cons,List.take_zero,List.drop_succ_cons,List.drop_zero]
  repeat (go_big_quiet_step (fail))
  refine wpQuiet_nil ?_
  clear c0 c1 c3
  generalize w.drew=w1 at *
  go_wp2_with (fail)
  refine (mTrunc HD.out OK.out nm (g:Int)).mono ?_
  rintro e w2 ⟨F2,he,h2,hc2,hf2⟩
  generalize opTrunc d (fsOf F) nm (g:Int)=r at *
  obtain ⟨y|op,d2,fs2⟩:=r
  · obtain rfl:e=.returned (.int .i64 y):=he
    have HP:Hid (UEnds B D M F w (.inl y,d2,fs2) (.returned (.tuple #[])) w2):=hid ⟨F2,rfl,h2,HC.out.trans hc2,hf2⟩
    clear h2 hc2 hf2
    go_wp2_with (fail)
    go_end0
    exact HP.out
  · obtain rfl:e=.panicked [{ v:=crashI op,recovered:=false }]:=he
    exact ⟨rfl,F2,rfl,h2,HC.out.trans hc2,hf2⟩
end
end
/- Layer 14: a record kept,walked. -/
section
open Go.RowKit Go.MapKept
def endAW:Int × (Int ⊕ Int)→Ending
  | (n,.inl x)=>.returned (.tuple #[.int .i64 n,.int .i64 x])
  | (_,.inr op)=>.panicked [{ v:=crashI op,recovered:=false }]
def AEndsW (B D M:Nat) (F:List Ent) (w:World) (r:OutN) (e:Ending) (w':World):Prop :=
  ∃ F',e=endAW r.1∧DkAt w' B D M r.2.1 F'∧DkCh D M F F' w w'∧fsOf F'=r.2.2
section
variable {w:World} {B D M:Nat} {d:Dk} {F:List Ent}
theorem mAppendW (h:DkAt w B D M d F) (ok:FsOk d (fsOf F)) (nm:ByteArray) (hs:nm.size≤140737488355328) (A:Option Addr) (m c:Nat) (l:List UInt8) (hl:Bs w A m c l) (hBw:B≤w.heap.size) :
    Calls Tryz.prog 155 #[pD D,.string nm,.slice A m c] w (AEndsW B D M F w (appO d (fsOf F) nm l)):=by
  have hm:=hl.len
  unfold appO
  cases hn:nameD nm
  · rw [if_pos rfl]
    refine (dkAppend_name w D nm hs hn A m c).mono ?_
    rintro e w' ⟨rfl,rfl⟩
    exact ⟨F,rfl,h,DkCh.refl D M F w,rfl⟩
  · rw [if_neg (by decide)]
    by_cases h1:d.armedIn=1
    · rw [if_pos h1,hm]
      refine (dkAppend_lost h ok.ok ok.dk.lens nm hn hs A m c l hl hBw h1).mono ?_
      rintro e w' ⟨he,F',h2,h3,h4⟩
      exact ⟨F',he,h2,h3,h4⟩
    · rw [if_neg h1,hm]
      refine (dkAppend_ok h ok.ok ok.dk.lens nm hn hs A m c l hl hBw h1).mono ?_
      rintro e w' ⟨he,F',h2,h3,h4⟩
      exact ⟨F',he,h2,h3,h4⟩
end
theorem trunc_opsW (d:Dk) (fs:Fs) (a:ByteArray) (n:Int):(opTrunc d fs a n).2.1.ops≤d.ops+1:=by
  have:=callD_ops (d:=d) (fs:=fs) 1 n 0 a a []
  simpa [callD,liftO] using this
theorem sync_opsW (d:Dk) (fs:Fs) (a:ByteArray):(opSync d fs a).2.1.ops≤d.ops+1:=by
  have:=callD_ops (d:=d) (fs:=fs) 2 0 0 a a []
  simpa [callD,liftO] using this
theorem app_opsW (d:Dk) (fs:Fs) (a:ByteArray) (l:List UInt8):(appO d fs a l).2.1.ops≤d.ops+1:=by
  have:=callD_ops (d:=d) (fs:=fs) 0 0 0 a a l
  simpa [callD] using this
theorem app_okW {d:Dk} {fs:Fs} (h:FsOk d fs) (ho:d.ops+1≤1152921504606846976) (a:ByteArray) (l:List UInt8):FsOk (appO d fs a l).2.1 (appO d fs a l).2.2:=by
  have:=callD_ok h ho 0 0 0 (by decide) (by decide) a a l
  simpa [callD] using this
theorem app_numW (d:Dk) (fs:Fs) (a:ByteArray) (l:List UInt8):∃ k:Nat,(appO d fs a l).1.1=(k:Int):=by
  unfold appO
  split
  · exact ⟨0,rfl⟩
  · split
    · exact ⟨0,rfl⟩
    · exact ⟨_,rfl⟩
theorem step_rwW {ops:Array Oper} {o:Oper} {a:Act} {w:World} {K:Act→World→Prop} {Q:Exit→Act→World→Prop} {E:Prop} (hgd:o.guard=none) (s y:Operand)
    (ho:o.op=.call { callee:=.builtin .append,args:=#[s,y],argTypes:=#[41,41] }) (B:Nat) (T:Nat→Prop) (v:Value) (L:List (List UInt8)) (x:List UInt8) (A:Option Addr) (c:Nat) (hs:a.eval s=v) (hw:Rw B T w v L) (hx:Bs w A x.length c x)
    (hlt:0<x.length→∀ b,A=some b→¬ v.ownBlock=some b.block∧¬ T b.block) (hTn:¬ T w.heap.size)
    (g:Nat) (hy:a.eval y=.slice (some ⟨g,0,none⟩) 1 1) (hg:w.heap[g]?=some (.cells #[.slice A x.length c] 40)) (hn:L.length≤1099511627770) (hB:B≤w.heap.size)
    (h:∀ v' w',Rw B T w' v' (L++[x])→w.grownBy w' v.ownBlock→(v'.ownBlock=v.ownBlock∨v'.ownBlock=some w.heap.size)→K (a.put o.dst v') w') :
    if Region.wanted o (yielded ops a.tmps)=true then Oper.wp Tryz.prog o a w K Q else E:=by
  have hwt:Region.wanted o (yielded ops a.tmps)=true:=by simp [Region.wanted,hgd]
  rw [if_pos hwt]
  obtain ⟨vs,hw⟩:=hw
  obtain ⟨i,hi,hzz⟩:=Option.map_eq_some_iff.1 rowsInfo
  simp only [Prod.mk.injEq] at hzz
  obtain ⟨v',w',hrun,h2,h3,_,h5⟩:=run_append_own_at (P:=Tryz.prog) w B 41 o.type 40 i (.slice none 0 0) 1 24 Tryz.underlying41 hi hzz.1 hzz.2.1 hzz.2.2 rfl (by decide) v L.length vs hw.2.1 ⟨g,0,none⟩ 1 1 [.slice A x.length c] rfl
    (fun j z hz=>by
      have hj:j=0:=by
        rcases Nat.lt_or_ge j 1 with h|h
        · omega
        · rw [List.getElem?_eq_none (by simpa using h)] at hz;cases hz
      subst hj
      rw [Addr.add_lit,Nat.zero_add,cell_of_row w g 0 _ _ _ hg]
      exact hz) (fun z hz=>by simp at hz;subst hz;rfl) (by simp only [maxLen];omega) (by omega) hB
  unfold Oper.wp
  simp [execOp,ho,resolve,invoke,builtin,hs,hy,hrun,Result.andThen]
  exact h v' w' ⟨_,hw.more hx hlt hTn h2 h3 h5⟩ h3 h5
section
variable {E:Nat→Prop} {w w':World} {B L D M g:Nat} {d d':Dk} {F F':List Ent} {nm:ByteArray} {rs:List (List UInt8)} {v:Value}
theorem Rw.lt {T:Nat→Prop} (h:Rw B T w v rs) {k:Nat} (hk:v.ownBlock=some k):B≤k∧k<w.heap.size:=by
  obtain ⟨vs,hv⟩:=h
  exact World.ownsRow.lt hv.2.1 k hk
theorem Rw.offT {T:Nat→Prop} (h:Rw B T w v rs) {k:Nat} (hk:v.ownBlock=some k):¬ T k:=by
  obtain ⟨vs,hv⟩:=h
  exact hv.2.2.2.1 k hk
theorem LgAt.app {v2:Value} {Z:List (List UInt8)} {w2:World} (h:LgAt E w B L D M F nm rs g v) (hd:DkAt w B D M d F) (hw:Rw B (fun k=>LT L D M F k∨E k) w2 v2 Z) (hg:w.grownBy w2 v.ownBlock) (hf:v2.ownBlock=v.ownBlock∨v2.ownBlock=some w.heap.size) :
    w2.cell? ⟨L,2,none⟩=some v∧w2.frozen? ⟨L,2,none⟩=false∧Hid (LgAt E (w2.setCell ⟨L,2,none⟩ v2) B L D M F nm Z g v2∧DkAt (w2.setCell ⟨L,2,none⟩ v2) B D M d F∧WlCh L D M F F v v2 w (w2.setCell ⟨L,2,none⟩ v2)):=by
  have hch:Ch (fun k=>v.ownBlock=some k) w w2:=Ch.of_grown hg (fun k hk=>hk)
  have hoff:∀ k,v.ownBlock=some k→¬ LT L D M F k:=fun k hk hl=>h.rw.offT hk (.inl hl)
  have r:=hch.row h.row (fun e=>hoff _ e (.inl rfl))
  have hd2:DkAt w2 B D M d F:=hd.ch hch (fun k hk hs=>hoff k hs (.inr hk))
  have hcs:Ch (At1 L) w2 (w2.setCell ⟨L,2,none⟩ v2):=(Ch.refl _ w2).set1 2 _
  refine ⟨by rw [cell_of_row w2 L 2 _ _ _ r];rfl,by simp [World.frozen?,r],hid ⟨⟨heap_set_row r v2,h.base,h.off,hw.ch hcs (fun k _ hk=>.inl (.inl hk)) (fun _ _ hk=>hk)⟩,hd2.ch hcs (fun k hk hs=>by rw [show k=L from hs] at hk;exact h.off hk),?_,?_⟩⟩
  · exact ((Ch.refl (WFoot L D M F v) w).trans hch (fun k _ hk=>.inr hk)).trans hcs (fun k _ hk=>.inl (.inl hk))
  · intro k hk
    rcases hk with hk|hk
    · exact .inl (.inl hk)
    · rcases hf with q|q
      · exact .inl (.inr (by rw [← q];exact hk))
      · rw [q] at hk;injection hk with hk;exact .inr (by omega)
theorem LgAt.setGood (h:LgAt E w B L D M F nm rs g v) (hd:DkAt w B D M d F) (k:Nat):LgAt E (w.setCell ⟨L,3,none⟩ (.int .i64 (k:Int))) B L D M F nm rs k v∧DkAt (w.setCell ⟨L,3,none⟩ (.int .i64 (k:Int))) B D M d F∧WlCh L D M F F v v w (w.setCell ⟨L,3,none⟩ (.int .i64 (k:Int))):=by
  have hcs:Ch (At1 L) w (w.setCell ⟨L,3,none⟩ (.int .i64 (k:Int))):=(Ch.refl _ w).set1 3 _
  exact ⟨⟨heap_set_row h.row _,h.base,h.off,h.rw.ch hcs (fun k _ hk=>.inl (.inl hk)) (fun _ _ hk=>hk)⟩,hd.ch hcs (fun k hk hs=>by rw [show k=L from hs] at hk;exact h.off hk),⟨(Ch.refl (WFoot L D M F v) w).trans hcs (fun k _ hk=>.inl (.inl hk)),fun _ hk=>.inl hk⟩⟩
def KEnd (E:Nat→Prop) (B L D M:Nat) (F:List Ent) (nm:ByteArray) (rs:List (List UInt8)) (g:Nat) (v:Value) (w:World) (l:List UInt8) (n:Nat) (r:Out) (e:Ending) (w':World):Prop :=
  ∃ F' v',e=endM r.1∧DkAt w' B D M r.2.1 F'∧fsOf F'=r.2.2∧LgAt E w' B L D M F' nm (if r.1=.inl 0 then rs++[l] else rs) (if r.1=.inl 0 then g+n else g) v'∧WlCh L D M F F' v v' w w'
theorem KEnd.undo {B L D M:Nat} {F F2:List Ent} {w2:World} {l:List UInt8} {n:Nat} {x:Int} (hx:x≠0) {r:Out} {e:Ending} {w3:World} (h:LgAt E w2 B L D M F2 nm rs g v) (c:WlCh L D M F F2 v v w w2) (hu:UEnds B D M F2 w2 r e w3) :
    (∃ op,r.1=.inr op∧e=.panicked [{ v:=crashI op,recovered:=false }]∧KEnd E B L D M F nm rs g v w l n (undo_ x r) (.panicked [{ v:=crashI op,recovered:=false }]) w3)∨(e=.returned (.tuple #[])∧KEnd E B L D M F nm rs g v w l n (undo_ x r) (.returned (.int .i64 x)) w3):=by
  obtain ⟨F3,he,h3,hc3,hf3⟩:=hu
  obtain ⟨y|op,d3,fs3⟩:=r
  · right
    refine ⟨he,F3,v,rfl,h3,hf3,?_,c.trans (WlCh.of_dk hc3)⟩
    have hne:¬ ((undo_ x (.inl y,d3,fs3)).1=.inl 0):=fun e=>hx (by injection e)
    rw [if_neg hne,if_neg hne]
    exact h.dkch hc3
  · left
    refine ⟨op,rfl,he,F3,v,rfl,h3,hf3,?_,c.trans (WlCh.of_dk hc3)⟩
    have hne:¬ ((undo_ x (.inr op,d3,fs3)).1=.inl 0):=fun e=>by cases e
    rw [if_neg hne,if_neg hne]
    exact h.dkch hc3
set_option maxRecDepth 100000 in
set_option maxHeartbeats 8000000 in
theorem walKeep (h:LgAt E w B L D M F nm rs g v) (hd:DkAt w B D M d F) (ok:FsOk d (fsOf F)) (ho:d.ops+8≤1152921504606846976) (hs:nm.size≤140737488355328) (A:Option Addr) (c:Nat) (l:List UInt8) (hl:Bs w A l.length c l) (hm:l.length≤140737488355328)
    (hoff:0<l.length→∀ b,A=some b→¬ DFoot D M F b.block) (A2:Option Addr) (m2 c2:Nat) (lr:List UInt8) (hr:Bs w A2 m2 c2 lr) (hg:g+m2≤1099511627776) (hn:rs.length≤1099511627770) (hBw:B≤w.heap.size) (hE:∀ k,E k→k<w.heap.size) :
    Calls Tryz.prog 111 #[pL L,.slice A l.length c,.slice A2 m2 c2,.func (Fn.func 66) #[pL L] #[]] w (KEnd E B L D M F nm rs g v w l m2 (addA nm g m2 (appO d (fsOf F) nm lr))):=by
  have c0:w.drew.cell? ⟨L,0,none⟩=some (pD D):=h.cell 0
  have c1:w.drew.cell? ⟨L,1,none⟩=some (.string nm):=h.cell 1
  have hb0:Below w.heap.size w w.drew:=(Below.refl _ w).drew
  have H1:=hid (h.below hb0)
  have HD1:=hid (hd.below hb0)
  have HL1:=hid (hl.below hb0)
  have HR1:=hid (hr.below hb0)
  have HC1:Hid (WlCh L D M F F v v w w.drew):=hid (WlCh.of_below hb0)
  have HLM:=hid hr.len
  have HBW1:Hid (B≤w.drew.heap.size):=hid hBw
  have OK:=hid ok
  have HO:=hid ho
  have HOFF:=hid hoff
  have HM:=hid hm
  have HG:=hid hg
  have HN:=hid hn
  have HEB:=hid hE
  have HWS:Hid (∀ w',WlCh L D M F F v v w w'→w.heap.size≤w'.heap.size):=hid (fun w' c=>c.ch.size)
  clear h hd ok ho hl hr hb0 hBw hoff hm hg hn hE HWS
  go_enter Tryz.func111,Tryz.ntmps111
  go_wp2_with (fail)
  have HA:=mAppendW HD1.out OK.out nm hs A2 m2 c2 lr HR1.out HBW1.out
  have hok2:=app_okW OK.out (by have:=HO.out;omega) nm lr
  have hop2:=app_opsW d (fsOf F) nm lr
  have hnum:=app_numW d (fsOf F) nm lr
  generalize appO d (fsOf F) nm lr=r at *
  have keyF:∀ (w2:World) (F2:List Ent),DkCh D M F F2 w.drew w2→Bs w2 A l.length c l∧WlCh L D M F F2 v v w w2∧LgAt E w2 B L D M F2 nm rs g v∧(0<l.length→∀ b,A=some b→¬ DFoot D M F2 b.block)∧B≤w2.heap.size:=fun w2 F2 hc2 =>
    ⟨HL1.out.ch hc2.ch HOFF.out,HC1.out.trans (WlCh.of_dk hc2),H1.out.dkch hc2,fun h0 b hb hk=>by
      rcases hc2.dfoot hk with h5|h5
      · exact HOFF.out h0 b hb h5
      · obtain ⟨b',o',e',hlt,_⟩:=HL1.out.at_ h0
        rw [hb] at e';injection e' with e';subst e';have h6:w.drew.heap.size≤b':=h5;omega,Nat.le_trans HBW1.out hc2.ch.size⟩
  have KF:=hid keyF
  have HAA:=hid HA
  have HNUM:=hid hnum
  have HOK2:=hid hok2
  have HOP2:=hid hop2
  clear keyF HA hnum hok2 hop2 H1 HD1 HL1 HR1 HC1 HBW1 HOFF OK
  refine wp_region_held_drew (S:=fun W=>W.cell? ⟨L,0,none⟩=some (pD D)∧W.cell? ⟨L,1,none⟩=some (.string nm)) (by kernel_rfl) ⟨c0,c1⟩ (fun hHeld=>?_)
  refine wpAnyH_take (i:=0) (oi:=⟨some 12,_,_,_,_,_⟩) (v:=?v1) rfl (by kernel_rfl) (by kernel_rfl) (by kernel_rfl) (fun _ _ _ h=>h) (Or.inl ⟨by kernel_rfl,?hy1⟩) hHeld ?rest1
  case hy1 =>
    intro w hSw
    (try dsimp only at hSw)
    go_simp
    (try with_reducible rfl)
  (try simp only [Act.put])
  refine wpAnyH_take (i:=1) (oi:=⟨some 13,_,_,_,_,_⟩) (v:=?v2) rfl (by kernel_rfl) (by kernel_rfl) (by kernel_rfl) (fun _ _ _ h=>h) (Or.inl ⟨by kernel_rfl,?hy2⟩) hHeld ?rest2
  case hy2 =>
    intro w hSw
    (try dsimp only at hSw)
    go_simp
    (try with_reducible rfl)
  (try simp only [Act.put])
  refine wpAnyH_take (i:=2) (oi:=⟨some 14,_,_,_,_,_⟩) (v:=?v3) rfl (by kernel_rfl) (by kernel_rfl) (by kernel_rfl) (fun _ _ _ h=>h) (Or.inl ⟨by kernel_rfl,?hy3⟩) hHeld ?rest3
  case hy3 =>
    intro w hSw
    (try dsimp only at hSw)
    go_simp
    (try with_reducible rfl)
  (try simp only [Act.put])
  refine wpAnyH_take (i:=3) (oi:=⟨some 15,_,_,_,_,_⟩) (v:=?v4) rfl (by kernel_rfl) (by kernel_rfl) (by kernel_rfl) (fun _ _ _ h=>h) (Or.inl ⟨by kernel_rfl,?hy4⟩) hHeld ?rest4
  case hy4 =>
    intro w hSw
    (try dsimp only at hSw)
    go_simp
    (try with_reducible rfl)
  (try simp only [Act.put])
  refine wpAnyH_take (i:=4) (oi:=⟨some 16,_,_,_,_,_⟩) (v:=?v5) rfl (by kernel_rfl) (by kernel_rfl) (by kernel_rfl) (fun _ _ _ h=>h) (Or.inl ⟨by kernel_rfl,?hy5⟩) hHeld ?rest5
  case hy5 =>
    intro w hSw
    (try dsimp only at hSw)
    go_simp
    (try with_reducible rfl)
  (try simp only [Act.put])
  refine wpAnyH_take (i:=5) (oi:=⟨some 17,_,_,_,_,_⟩) (v:=?v6) rfl (by kernel_rfl) (by kernel_rfl) (by kernel_rfl) (fun _ _ _ h=>h) (Or.inl ⟨by kernel_rfl,?hy6⟩) hHeld ?rest6
  case hy6 =>
    intro w hSw
    (try dsimp only at hSw)
    go_simp
    (try with_reducible rfl)
  (try simp only [Act.put])
  refine wpAnyH_take (i:=6) (oi:=⟨some 18,_,_,_,_,_⟩) (v:=?v7) rfl (by kernel_rfl) (by kernel_rfl) (by kernel_rfl) (fun _ _ _ h=>h) (Or.inl ⟨by kernel_rfl,?hy7⟩) hHeld ?rest7
  case hy7 =>
    intro w hSw
    (try dsimp only at hSw)
    go_simp
    (try with_reducible rfl)
  (try simp only [Act.put])
  refine wpAnyH_take (i:=7) (oi:=⟨some 19,_,_,_,_,_⟩) (v:=?v8) rfl (by kernel_rfl) (by kernel_rfl) (by kernel_rfl) (fun _ _ _ h=>h) (Or.inl ⟨by kernel_rfl,?hy8⟩) hHeld ?rest8
  case hy8 =>
    intro w hSw
    (try dsimp only at hSw)
    go_simp
    (try with_reducible rfl)
  (try simp only [Act.put])
  refine wpAnyH_take (i:=8) (oi:=⟨some 20,_,_,_,_,_⟩) (v:=?v9) rfl (by kernel_rfl) (by kernel_rfl) (by kernel_rfl) (fun _ _ _ h=>h) (Or.inl ⟨by kernel_rfl,?hy9⟩) hHeld ?rest9
  case hy9 =>
    intro w hSw
    (try dsimp only at hSw)
    go_simp
    (try with_reducible rfl)
  (try simp only [Act.put])
  clear hHeld c0 c1
  refine wpAnyH_ready (rs:=[9]) (by kernel_rfl) (by simp) (AllReadyH.cons (o:=_) rfl (fun K' hK=>?_) AllReadyH.nil)
  go_simp
  refine HAA.out.mono ?_
  rintro e w2 ⟨F2,he,h2,hc2,hf2⟩
  have HKF:=hid (KF.out _ _ hc2)
  obtain ⟨⟨n,y|op⟩,d2,fs2⟩:=r
  · obtain ⟨n,rfl⟩:∃ k:Nat,n=(k:Int):=HNUM.out
    obtain rfl:fsOf F2=fs2:=hf2
    obtain rfl:e=.returned (.tuple #[.int .i64 (n:Int),.int .i64 y]):=he
    have HD2:=hid (show DkAt w2 B D M d2 F2 from h2)
    have OK2:=hid (show FsOk d2 (fsOf F2) from HOK2.out)
    have HP2:Hid (d2.ops≤d.ops+1):=hid HOP2.out
    have HL2:=hid HKF.out.1
    have HC2:=hid HKF.out.2.1
    have H2:=hid HKF.out.2.2.1
    have HOF2:=hid HKF.out.2.2.2.1
    have HBW2:=hid HKF.out.2.2.2.2
    dsimp only
    refine hK.out _ _ ⟨H2.out.cell 0,H2.out.cell 1⟩ (fun hHeld=>?_)
    clear hK K' h2 hc2 HKF KF HAA HNUM HOK2 HOP2
    (try simp only [Act.put])
    refine wpAnyH_take (i:=10) (oi:=⟨some 11,_,_,_,_,_⟩) (v:=?v10) rfl (by kernel_rfl) (by kernel_rfl) (by kernel_rfl) (fun _ _ _ h=>h) (Or.inl ⟨by kernel_rfl,?hy10⟩) hHeld ?rest10
    case hy10 =>
      intro w hSw
      (try dsimp only at hSw)
      go_simp
      (try with_reducible rfl)
    (try simp only [Act.put])
    refine wpAnyH_take (i:=11) (oi:=⟨some 22,_,_,_,_,_⟩) (v:=?v11) rfl (by kernel_rfl) (by kernel_rfl) (by kernel_rfl) (fun _ _ _ h=>h) (Or.inl ⟨by kernel_rfl,?hy11⟩) hHeld ?rest11
    case hy11 =>
      intro w hSw
      (try dsimp only at hSw)
      go_simp
      (try with_reducible rfl)
    (try simp only [Act.put])
    refine wpAnyH_take (i:=12) (oi:=⟨some 23,_,_,_,_,_⟩) (v:=?v12) rfl (by kernel_rfl) (by kernel_rfl) (by kernel_rfl) (fun _ _ _ h=>h) (Or.inl ⟨by kernel_rfl,?hy12⟩) hHeld ?rest12
    case hy12 =>
      intro w hSw
      (try dsimp only at hSw)
      go_simp
      (try with_reducible rfl)
    (try simp only [Act.put])
    refine wpAnyH_take (i:=13) (oi:=⟨some 9,_,_,_,_,_⟩) (v:=?v13) rfl (by kernel_rfl) (by kernel_rfl) (by kernel_rfl) (fun _ _ _ h=>h) (Or.inl ⟨by kernel_rfl,?hy13⟩) hHeld ?rest13
    case hy13 =>
      intro w hSw
      (try dsimp only at hSw)
      go_simp
      (try with_reducible rfl)
    (try simp only [Act.put])
    refine wpAnyH_take (i:=14) (oi:=⟨some 10,_,_,_,_,_⟩) (v:=?v14) rfl (by kernel_rfl) (by kernel_rfl) (by kernel_rfl) (fun _ _ _ h=>h) (Or.inl ⟨by kernel_rfl,?hy14⟩) hHeld ?rest14
    case hy14 =>
      intro w hSw
      (try dsimp only at hSw)
      go_simp
      (try with_reducible rfl)
    (try simp only [Act.put])
    clear hHeld
    (try simp only [List.setIfInBounds_toArray,List.set_cons_zero,List.set_cons_succ])
    refine wpAnyH_done (by kernel_rfl) ?_ _
    have HE:Hid (addA nm g m2 (((n:Int),.inl y),d2,fsOf F2)=if (n:Int)<(m2:Int) then undo_ 4 (opTrunc d2 (fsOf F2) nm (g:Int)) else addS nm g (opSync d2 (fsOf F2) nm)):=hid rfl
    by_cases hlt:n<m2
    · have e1:decide (n<m2)=true:=by simpa using hlt
      have e2:(n:Int)<(m2:Int):=by omega
      have HE2:Hid (addA nm g m2 (((n:Int),.inl y),d2,fsOf F2)=undo_ 4 (opTrunc d2 (fsOf F2) nm (g:Int))):=hid (by rw [HE.out,if_pos e2])
      clear hlt e2 HE
      go_wp2_with (fail)
      refine (walTakeBack H2.out HD2.out OK2.out).mono ?_
      rintro e w3 hu
      rcases KEnd.undo (x:=4) (l:=l) (n:=m2) (by decide) H2.out HC2.out hu with ⟨op,hr,rfl,hK⟩|⟨rfl,hK⟩
      · rw [HE2.out]
        exact ⟨rfl,hK⟩
      · have HK:=hid hK
        clear hu hK
        go_wp2_with (fail)
        go_ret
        rw [HE2.out]
        exact HK.out
    · have e1:decide (n<m2)=false:=by simpa using hlt
      have e2:¬ (n:Int)<(m2:Int):=by omega
      have HE2:Hid (addA nm g m2 (((n:Int),.inl y),d2,fsOf F2)=addS nm g (opSync d2 (fsOf F2) nm)):=hid (by rw [HE.out,if_neg e2])
      clear hlt e2 HE
      have c0:∀ n:Here w2.drew,n.u.cell? ⟨L,0,none⟩=some (pD D):=Here.cell (H2.out.cell 0)
      have c1:∀ n:Here w2.drew,n.u.cell? ⟨L,1,none⟩=some (.string nm):=Here.cell (H2.out.cell 1)
      have hb2:Below w2.heap.size w2 w2.drew:=(Below.refl _ w2).drew
      have H3:=hid (H2.out.below hb2)
      have HD3:=hid (HD2.out.below hb2)
      have HL3:=hid (HL2.out.below hb2)
      have HC3:Hid (WlCh L D M F F2 v v w w2.drew):=hid (HC2.out.trans (WlCh.of_below hb2))
      have HBW3:Hid (B≤w2.drew.heap.size):=hid HBW2.out
      clear hb2 H2 HD2 HL2 HC2 HBW2
      go_wp2_with (fail)
      refine region_tail 8 (by kernel_rfl) (by kernel_rfl) ?_
      simp only [List.take_succ_cons,List.take_zero,List.drop_succ_cons,List.drop_zero]
      repeat (go_big_quiet_step (fail))
      refine wpQuiet_nil ?_
      clear c0 c1 e1
      generalize w2.drew=w3 at *
      go_wp2_with (fail)
      refine (mSync HD3.out OK2.out nm).mono ?_
      rintro e w4 ⟨F4,he,h4,hc4,hf4⟩
      have hok4:=sync_ok OK2.out (by have:=HO.out;have:=HP2.out;omega) nm
      have hop4:=sync_opsW d2 (fsOf F2) nm
      generalize opSync d2 (fsOf F2) nm=r at *
      have HL4:Hid (Bs w4 A l.length c l):=hid (HL3.out.ch hc4.ch HOF2.out)
      have HC4:Hid (WlCh L D M F F4 v v w w4):=hid (HC3.out.trans (WlCh.of_dk hc4))
      have H4:=hid (H3.out.dkch hc4)
      have HBW4:Hid (B≤w4.heap.size):=hid (Nat.le_trans HBW3.out hc4.ch.size)
      clear hc4 H3 HD3 HL3 HC3 HBW3 HOF2 OK2
      obtain ⟨x|op,d4,fs4⟩:=r
      · obtain rfl:fsOf F4=fs4:=hf4
        obtain rfl:e=.returned (.int .i64 x):=he
        have HD4:=hid (show DkAt w4 B D M d4 F4 from h4)
        have OK4:=hid (show FsOk d4 (fsOf F4) from hok4)
        clear h4 hok4 hop4
        have HE:Hid (addA nm g m2 (((n:Int),.inl y),d2,fsOf F2)=if x=0 then (.inl 0,(d4,fsOf F4)) else undo_ 5 (opTrunc d4 (fsOf F4) nm (g:Int))):=HE2
        clear HE2
        by_cases hx:x=0
        · subst hx
          have HE2:Hid (addA nm g m2 (((n:Int),.inl y),d2,fsOf F2)=((.inl 0,(d4,fsOf F4)):Out)):=hid (by rw [HE.out,if_pos rfl])
          clear HE
          go_wp2_with (fail)
          obtain ⟨Av,cv,rfl⟩:=H4.out.rw.form
          have hb5:Below w4.heap.size w4 w4.drew:=(Below.refl _ w4).drew
          have H5:=hid (H4.out.below hb5)
          have HD5:=hid (HD4.out.below hb5)
          have HL5:=hid (HL4.out.below hb5)
          have HC5:Hid (WlCh L D M F F4 (.slice Av rs.length cv) (.slice Av rs.length cv) w w4.drew):=hid (HC4.out.trans (WlCh.of_below hb5))
          have HBW5:Hid (B≤w4.drew.heap.size):=hid HBW4.out
          have cA:w4.drew.cell? ⟨L,2,none⟩=some (.slice Av rs.length cv):=H5.out.cell 2
          obtain ⟨Z,hZ⟩:∃ Z,Z=rs++[l]:=⟨_,rfl⟩
          have HZ:=hid hZ
          have tok1:Hid True:=hid trivial
          have tok2:Hid True:=hid trivial
          clear hb5 H4 HD4 HL4 HC4 HBW4 hZ
          go_region_law (first
            | (have _t:=tok1;go_simp;refine (walClone A _ c l _ HL5.out HM.out).mono ?_;rintro e w6 ⟨q,rfl,hq,hr6,hb6⟩;have H6:=hid (H5.out.below hb6);have HD6:=hid (HD5.out.below hb6);have HC6:=hid (HC5.out.trans (WlCh.of_below hb6));have HBW6:Hid (B≤w6.heap.size):=hid (Nat.le_trans HBW5.out hb6.size);have HB6:Hid (Bs w6 (some ⟨q,0,none⟩) l.length l.length l):=hid (Bs.block hr6 rfl (by have:=HM.out;simp only [maxLen];omega));have HLT:Hid (0<l.length→∀ b,(some ⟨q,0,none⟩:Option Addr)=some b→¬ (Value.slice Av rs.length cv).ownBlock=some b.block∧¬ (LT L D M F4 b.block∨E b.block)):=hid (fun _ b hb=>by injection hb with hb;subst hb;exact ⟨fun e=>by have:=(H5.out.rw.lt e).2;simp only at this;omega,fun e=>by rcases e with e | e;exact (by have:=(H5.out.foot_lt HD5.out (.inl e)).2;simp only at this;omega);exact (by have h1:=HEB.out _ e;have h2:=HC5.out.ch.size;simp only at h1;omega)⟩);have cB:w6.cell? ⟨L,2,none⟩=some (.slice Av rs.length cv):=H6.out.cell 2;have cC:∀ o,(w6.alloc o).cell? ⟨L,2,none⟩=some (.slice Av rs.length cv):=fun o=>(H6.out.below ((Below.refl _ _).alloc (Nat.le_refl _) o)).cell 2;have HS7:=hid ((Below.refl w6.heap.size w6).alloc (Nat.le_refl _) (.cells #[.slice (some ⟨q,0,none⟩) l.length l.length] 40));have H7:=hid (H6.out.below HS7.out);have HD7:=hid (HD6.out.below HS7.out);have HB7:=hid (HB6.out.below HS7.out);have HC7:=hid (HC6.out.trans (WlCh.of_below HS7.out));have HROW:=hid (heap_alloc_new w6 (.cells #[.slice (some ⟨q,0,none⟩) l.length l.length] 40));have HTN:Hid (¬ (LT L D M F4 (w6.alloc (.cells #[.slice (some ⟨q,0,none⟩) l.length l.length] 40)).heap.size∨E (w6.alloc (.cells #[.slice (some ⟨q,0,none⟩) l.length l.length] 40)).heap.size)):=hid (fun e=>by rcases e with e | e;exact (by have:=(H6.out.foot_lt HD6.out (.inl e)).2;simp only [World.size_alloc] at this;omega);exact (by have h1:=HEB.out _ e;have h2:=HC6.out.ch.size;simp only [World.size_alloc] at h1;omega));have HBW7:Hid (B≤(w6.alloc (.cells #[.slice (some ⟨q,0,none⟩) l.length l.length] 40)).heap.size):=hid (Nat.le_trans HBW6.out HS7.out.size);clear tok1 hq hr6 hb6 _t;dsimp only)
            | (have _t:=tok2;refine step_rwW rfl (.tmp 46) (.tmp 49) rfl B (fun k=>LT L D M F4 k∨E k) (.slice Av rs.length cv) rs l (some ⟨q,0,none⟩) l.length rfl H7.out.rw HB7.out HLT.out HTN.out w6.heap.size rfl HROW.out HN.out HBW7.out ?_;intro v2 w8 hw8 hgr8 hfr8;rw [← HZ.out] at hw8;obtain ⟨A8,c8,rfl⟩:=hw8.form;obtain ⟨z1,z2,HDN⟩:=H7.out.app HD7.out hw8 hgr8 hfr8;clear tok2 hw8 hgr8 hfr8 _t))
          all_goals
            have H9:=hid HDN.out.1
            have HD9:=hid HDN.out.2.1
            have HC9:=hid (HC7.out.trans HDN.out.2.2)
            clear HDN z1 z2 cA cB cC H5 HD5 HL5 HC5 HBW5 H6 HD6 HC6 HBW6 HB6 HLT HS7 H7 HD7 HB7 HC7 HROW HTN HBW7
            generalize w8.setCell ⟨L,2,none⟩ (.slice A8 Z.length c8)=w9 at *
            have c3:w9.cell? ⟨L,3,none⟩=some (.int .i64 (g:Int)):=H9.out.cell 3
            have f3:=H9.out.frozen 3
            have ws:wrap64 ((g:Int)+(m2:Int))=((g+m2:Nat):Int):=by rw [IntWalk.wrap64_in _ (by have:=HG.out;omega)];omega
            have ws2:IntKind.i64.wrap ((g:Int)+(m2:Int))=((g+m2:Nat):Int):=by rw [IntWalk.i64_in _ (by have:=HG.out;omega)];omega
            obtain ⟨G,hG⟩:∃ G,G=g+m2:=⟨_,rfl⟩
            rw [← hG] at ws ws2
            have HGG:=hid hG
            clear hG
            go_wp2_with (fail)
            obtain ⟨q1,q2,q3⟩:=H9.out.setGood HD9.out G
            have HK:Hid (KEnd E B L D M F nm rs g (.slice Av rs.length cv) w l m2 ((.inl 0,(d4,fsOf F4)):Out) (.returned (.int .i64 0)) (w9.setCell ⟨L,3,none⟩ (.int .i64 (G:Int)))):=hid ⟨F4,_,rfl,q2,rfl,by rw [if_pos rfl,if_pos rfl,← HZ.out,← HGG.out];exact q1,HC9.out.trans q3⟩
            clear q1 q2 q3
            go_ret
            rw [HE2.out]
            exact HK.out
        · have HE2:Hid (addA nm g m2 (((n:Int),.inl y),d2,fsOf F2)=undo_ 5 (opTrunc d4 (fsOf F4) nm (g:Int))):=hid (by rw [HE.out,if_neg hx])
          have e1:(x != 0)=true:=by simpa using hx
          clear hx HE
          go_wp2_with (fail)
          refine (walTakeBack H4.out HD4.out OK4.out).mono ?_
          rintro e w5 hu
          rcases KEnd.undo (x:=5) (l:=l) (n:=m2) (by decide) H4.out HC4.out hu with ⟨op,hr,rfl,hK⟩|⟨rfl,hK⟩
          · rw [HE2.out]
            exact ⟨rfl,hK⟩
          · have HK:=hid hK
            clear hu hK
            go_wp2_with (fail)
            go_ret
            rw [HE2.out]
            exact HK.out
      · obtain rfl:fsOf F4=fs4:=hf4
        obtain rfl:e=.panicked [{ v:=crashI op,recovered:=false }]:=he
        refine ⟨rfl,?_⟩
        rw [HE2.out]
        exact ⟨F4,v,rfl,h4,rfl,by rw [if_neg (by intro e;cases e),if_neg (by intro e;cases e)];exact H4.out,HC4.out⟩
  · obtain rfl:fsOf F2=fs2:=hf2
    obtain rfl:e=.panicked [{ v:=crashI op,recovered:=false }]:=he
    exact ⟨rfl,F2,v,rfl,h2,rfl,by rw [if_neg (by intro e;cases e),if_neg (by intro e;cases e)];exact HKF.out.2.2.1,HKF.out.2.1⟩
end
end
/- Layer 13: Scan,walked;its rows lie in memory of the call's own. -/
section
open Go.RowKit
abbrev PLn (BB PB LB:Nat):Nat→Prop:=fun k=>k=BB∨k=PB∨k=LB
abbrev PLBn (B BB PB LB:Nat):Nat→Prop:=fun k=>k=BB∨k=PB∨k=LB∨k<B
theorem PL_subn {B BB PB LB k:Nat} (h:PLn BB PB LB k):PLBn B BB PB LB k:=by
  rcases h with h|h|h
  · exact .inl h
  · exact .inr (.inl h)
  · exact .inr (.inr (.inl h))
structure ScanStn (B BB PB LB:Nat) (A:Option Addr) (n c:Nat) (l:List UInt8) (p:Nat) (acc:List (List UInt8)) (v:Value) (w:World):Prop where
  hb:w.heap[BB]?=some (.cells #[.slice A n c] 40)
  hp:w.heap[PB]?=some (.cells #[.int .i64 (p:Int)] 3)
  hl:w.heap[LB]?=some (.cells #[v] 41)
  bs:Bs w A n c l
  lo:0<n→∀ b,A=some b→b.block<B
  rw:Rw B (PLBn B BB PB LB) w v acc
  bB:B≤BB
  bP:B≤PB
  bL:B≤LB
theorem ScanStn.below {B BB PB LB n c p:Nat} {A:Option Addr} {l:List UInt8} {acc:List (List UInt8)} {v:Value} {w w':World} (h:ScanStn B BB PB LB A n c l p acc v w) (hb:Below w.heap.size w w'):ScanStn B BB PB LB A n c l p acc v w' :=
  ⟨(hb.block BB (Array.getElem?_eq_some_iff.1 h.hb).1).trans h.hb,(hb.block PB (Array.getElem?_eq_some_iff.1 h.hp).1).trans h.hp,(hb.block LB (Array.getElem?_eq_some_iff.1 h.hl).1).trans h.hl,h.bs.below hb,h.lo,h.rw.below hb,h.bB,h.bP,h.bL⟩
theorem ScanStn.ltB {B BB PB LB n c p:Nat} {A:Option Addr} {l:List UInt8} {acc:List (List UInt8)} {v:Value} {w:World} (h:ScanStn B BB PB LB A n c l p acc v w):BB<w.heap.size∧PB<w.heap.size∧LB<w.heap.size :=
  ⟨(Array.getElem?_eq_some_iff.1 h.hb).1,(Array.getElem?_eq_some_iff.1 h.hp).1,(Array.getElem?_eq_some_iff.1 h.hl).1⟩
theorem ScanStn.app {B BB PB LB n c p k:Nat} {A:Option Addr} {l:List UInt8} {acc Z:List (List UInt8)} {v v2:Value} {W w2:World} (h:ScanStn B BB PB LB A n c l p acc v W) (hw:Rw B (PLBn B BB PB LB) w2 v2 Z) (hg:W.grownBy w2 v.ownBlock) (hk:PB≠LB) (hkb:BB≠LB) (hkp:BB≠PB) :
    w2.cell? ⟨LB,0,none⟩=some v∧w2.frozen? ⟨LB,0,none⟩=false∧w2.cell? ⟨PB,0,none⟩=some (.int .i64 (p:Int))∧w2.frozen? ⟨PB,0,none⟩=false ∧
    Hid (ScanStn B BB PB LB A n c l (p+k) Z v2 ((w2.setCell ⟨LB,0,none⟩ v2).setCell ⟨PB,0,none⟩ (.int .i64 ((p+k:Nat):Int)))∧Below B W ((w2.setCell ⟨LB,0,none⟩ v2).setCell ⟨PB,0,none⟩ (.int .i64 ((p+k:Nat):Int)))∧W.heap.size≤((w2.setCell ⟨LB,0,none⟩ v2).setCell ⟨PB,0,none⟩ (.int .i64 ((p+k:Nat):Int))).heap.size):=by
  obtain ⟨vs,hv⟩:=h.rw
  have hch:Ch (fun k=>v.ownBlock=some k) W w2:=Ch.of_grown hg (fun k hk=>hk)
  have hT:=hv.2.2.2.1
  have r1:=hch.row h.hb (fun e=>hT _ e (.inl rfl))
  have r2:=hch.row h.hp (fun e=>hT _ e (.inr (.inl rfl)))
  have r3:=hch.row h.hl (fun e=>hT _ e (.inr (.inr (.inl rfl))))
  have q1:=cell_of_row w2 LB 0 _ _ _ r3
  have q2:=cell_of_row w2 PB 0 _ _ _ r2
  have hvB:∀ k,v.ownBlock=some k→B≤k:=fun k hk=>(World.ownsRow.lt hv.2.1 k hk).1
  have hcs:Ch (PLn BB PB LB) w2 ((w2.setCell ⟨LB,0,none⟩ v2).setCell ⟨PB,0,none⟩ (.int .i64 ((p+k:Nat):Int))):=((Ch.refl _ w2).set (a:=⟨LB,0,none⟩) (.inr (.inr rfl)) v2).set (a:=⟨PB,0,none⟩) (.inr (.inl rfl)) _
  have hlo:=h.lo
  have hBb:=h.bB
  have hBp:=h.bP
  have hBl:=h.bL
  have hbs2:Bs w2 A n c l:=h.bs.ch hch (fun h0 b' hb' hs=>by have h1:=hvB b'.block hs;have h2:=hlo h0 b' hb';omega)
  have hwz:=(Array.getElem?_eq_some_iff.1 h.hb).1
  have hbl:Below B W w2:=hch.below hvB (by omega)
  refine ⟨by simpa using q1,by simp [World.frozen?,r3],by simpa using q2,by simp [World.frozen?,r2],hid ⟨⟨?_,?_,?_,?_,h.lo,?_,h.bB,h.bP,h.bL⟩,?_,?_⟩⟩
  · rw [show ((w2.setCell ⟨LB,0,none⟩ v2).setCell ⟨PB,0,none⟩ (.int .i64 ((p+k:Nat):Int))).heap[BB]?=(w2.setCell ⟨LB,0,none⟩ v2).heap[BB]? from Below.heap_setCell _ _ _ _ hkp,show (w2.setCell ⟨LB,0,none⟩ v2).heap[BB]?=w2.heap[BB]? from Below.heap_setCell _ _ _ _ hkb]
    exact r1
  · refine heap_setCell_same _ PB 0 #[.int .i64 (p:Int)] _ _ ?_
    rw [show (w2.setCell ⟨LB,0,none⟩ v2).heap[PB]?=w2.heap[PB]? from Below.heap_setCell _ _ _ _ hk]
    exact r2
  · rw [show ((w2.setCell ⟨LB,0,none⟩ v2).setCell ⟨PB,0,none⟩ (.int .i64 ((p+k:Nat):Int))).heap[LB]?=(w2.setCell ⟨LB,0,none⟩ v2).heap[LB]? from Below.heap_setCell _ _ _ _ (Ne.symm hk)]
    exact heap_setCell_same w2 LB 0 #[v] _ _ r3
  · exact hbs2.ch hcs (fun h0 b' hb' hs=>by have h2:=hlo h0 b' hb';rcases hs with hs | hs | hs <;> omega)
  · exact hw.ch hcs (fun _ _ h=>PL_subn h) (fun _ _ h=>h)
  · exact hbl.trans (hcs.below (fun k hs=>by rcases hs with hs | hs | hs <;> omega) (by have:=hch.size;omega))
  · exact Nat.le_trans hch.size hcs.size
def NextPostn (B BB PB LB:Nat) (A:Option Addr) (n c:Nat) (l:List UInt8) (p:Nat) (acc:List (List UInt8)) (v:Value) (w:World) (e:Ending) (w':World):Prop :=
  e=.returned (.int .i64 (getErr (l.drop p)))∧Below B w w'∧w.heap.size≤w'.heap.size∧(getErr (l.drop p)=0→∃ v',ScanStn B BB PB LB A n c l (p+getLen (l.drop p)) (acc++[getGet (l.drop p)]) v' w')∧(getErr (l.drop p)≠0→ScanStn B BB PB LB A n c l p acc v w')
set_option maxHeartbeats 4000000 in
set_option maxRecDepth 100000 in
theorem scanNextn (B BB PB LB n c p:Nat) (A:Option Addr) (l:List UInt8) (acc:List (List UInt8)) (v:Value) (w:World) (h:ScanStn B BB PB LB A n c l p acc v w) (hp:p<n) (hacc:9*acc.length≤p) (hN:n≤1099511627000) :
    Calls Tryz.prog 95 #[.pointer (some ⟨BB,0,none⟩),.pointer (some ⟨PB,0,none⟩),.pointer (some ⟨LB,0,none⟩)] w (NextPostn B BB PB LB A n c l p acc v w):=by
  obtain ⟨b,o,rfl,_,_⟩:=h.bs.at_ (by omega)
  have hcm:=h.bs.max
  have hle:=h.bs.le
  have cb:=cell_of_row w BB 0 _ _ _ h.hb
  have cp:=cell_of_row w PB 0 _ _ _ h.hp
  simp only [List.getElem?_toArray,List.getElem?_cons_zero] at cb cp
  have e9:¬ c=p:=by omega
  have hpi:(p:Int)≤(n:Int):=by omega
  have hpc:p≤c:=by omega
  have hd:=h.bs.drop (i:=p) (by omega)
  rw [if_neg e9,Option.map_some,Addr.add_lit] at hd
  have HD:=hid hd
  have H:=hid h
  have HP:=hid hp
  have HA:=hid hacc
  clear h hd hp hacc
  go_enter Tryz.func95,Tryz.ntmps95
  go_wp2_with (fail)
  refine (entryGetN _ (n-p) (c-p) (l.drop p) w HD.out (by omega)).mono ?_
  rintro e w1 ⟨A1,c1,rfl,hB1,hfr,hb1⟩
  have H1:=hid (H.out.below hb1)
  have HB1:Hid (Below B w w1):=hid (hb1.mono (by have:=H.out.ltB;have:=H.out.bB;omega))
  have HZ1:Hid (w.heap.size≤w1.heap.size):=hid hb1.size
  have HX:=hid hB1
  have HFR:=hid hfr
  have HGL:=hid (fun h:getErr (l.drop p)=0=>getErr_len h)
  have HDL:Hid ((l.drop p).length=n-p):=hid HD.out.len
  clear hb1 hB1 hfr
  by_cases he:getErr (l.drop p)=0
  · have hgl:=HGL.out he
    have HEE:=hid he
    have HGL:=hid hgl
    have hlen:getLen (l.drop p)≤n-p:=by have:=HDL.out;omega
    generalize hx:getGet (l.drop p)=x at *
    generalize hk:getLen (l.drop p)=k at *
    rw [he]
    have HXX:=hid hx
    have HKK:=hid hk
    have hkp:k≤n-p:=hlen
    have hpk:((p+k:Nat):Int)=(p:Int)+(k:Int):=by omega
    have HPK:=hid hpk
    clear he hgl hx hk hlen hpk
    obtain ⟨Av,cv,hv⟩:=H.out.rw.form
    subst hv
    have c1l:=cell_of_row w1 LB 0 _ _ _ H1.out.hl
    have c1p:=cell_of_row w1 PB 0 _ _ _ H1.out.hp
    simp only [List.getElem?_toArray,List.getElem?_cons_zero] at c1l c1p
    have HA1:=hid ((Below.refl w1.heap.size w1).alloc (Nat.le_refl _) (.cells #[.slice A1 x.length c1] 40))
    have HW1:=hid (H1.out.below HA1.out)
    have HROW:=hid (heap_alloc_new w1 (.cells #[.slice A1 x.length c1] 40))
    have HXA:=hid (HX.out.below HA1.out)
    have HLT:Hid (0<x.length→∀ b,A1=some b→¬ (Value.slice Av acc.length cv).ownBlock=some b.block∧¬ PLBn B BB PB LB b.block):=hid (fun _ b hb=>by
      have h1:=HFR.out b hb
      have h2:=H.out.ltB
      obtain ⟨vs,hv⟩:=H.out.rw
      exact ⟨fun e=>by have:=(World.ownsRow.lt hv.2.1 _ e).2;omega,fun e=>by have:=H.out.bB;rcases e with e | e | e | e <;> omega⟩)
    have HTN:Hid (¬ PLBn B BB PB LB (w1.alloc (.cells #[.slice A1 x.length c1] 40)).heap.size):=hid (fun e=>by
      have:=HW1.out.ltB
      have:=HW1.out.bB
      rcases e with e|e|e|e <;> omega)
    have HBZ:Hid (B≤(w1.alloc (.cells #[.slice A1 x.length c1] 40)).heap.size):=hid (by have:=HW1.out.ltB;have:=HW1.out.bB;omega)
    have hPL:PB≠LB:=fun e=>by
      have h1:=H1.out.hp
      have h2:=H1.out.hl
      rw [e,h2] at h1
      injection h1 with h1
      injection h1 with _ h1
      exact absurd h1 (by decide)
    have hBL:BB≠LB:=fun e=>by
      have h1:=H1.out.hb
      have h2:=H1.out.hl
      rw [e,h2] at h1
      injection h1 with h1
      injection h1 with _ h1
      exact absurd h1 (by decide)
    have hBP:BB≠PB:=fun e=>by
      have h1:=H1.out.hb
      have h2:=H1.out.hp
      rw [e,h2] at h1
      injection h1 with h1
      injection h1 with _ h1
      exact absurd h1 (by decide)
    have HPL:=hid hPL
    have HBL:=hid hBL
    have HBP:=hid hBP
    have hacc:acc.length≤p:=by have:=HA.out;omega
    obtain ⟨Z,hZ⟩:∃ Z,acc++[x]=Z:=⟨_,rfl⟩
    have HZ:=hid hZ
    clear hZ
    have tok1:Hid True:=hid trivial
    go_wp2_with (at_builtin;have _t:=tok1;go_loud ((refine wpList_rw rfl (.tmp 17) (.tmp 19) rfl B (PLBn B BB PB LB) (.slice Av acc.length cv) acc x A1 c1 rfl HW1.out.rw HXA.out HLT.out HTN.out w1.heap.size rfl HROW.out (by omega) HBZ.out ?_;intro v2 w2 hw2 hgr2 hfr2;rw [HZ.out] at hw2;obtain ⟨A2,c2,rfl⟩:=hw2.form;obtain ⟨z1,z2,z3,z4,HDN⟩:=HW1.out.app (k:=k) hw2 hgr2 HPL.out HBL.out HBP.out;clear tok1 hw2 hgr2 hfr2 _t)))
    rw [HPK.out] at HDN
    go_ret
    refine ⟨by rw [HEE.out];rfl,HB1.out.trans (((HA1.out.mono ?_)).trans HDN.out.2.1),?_,fun _=>⟨.slice A2 Z.length c2,?_⟩,fun h=>absurd HEE.out h⟩
    · have:=H1.out.ltB;have:=H1.out.bB;omega
    · exact Nat.le_trans HZ1.out (Nat.le_trans HA1.out.size HDN.out.2.2)
    · rw [HXX.out,HKK.out,HZ.out];exact HDN.out.1
  · have hge:=get_err (l:=l.drop p) rfl he
    have hne:(getErr (l.drop p) == 0)=false:=by rw [beq_eq_false_iff_ne];exact he
    have HEE:=hid he
    clear he
    rw [hge.1,hge.2]
    clear hge
    go_wp2_with (fail)
    go_ret
    exact ⟨rfl,HB1.out,HZ1.out,fun h=>absurd h HEE.out,fun _=>H1.out⟩
def placeOfn (PB:Nat) (w:World):Nat:=match w.cell? ⟨PB,0,none⟩ with | some (.int _ z)=>z.toNat | _=>0
theorem ScanStn.cells {B BB PB LB n c p:Nat} {A:Option Addr} {l:List UInt8} {acc:List (List UInt8)} {v:Value} {w:World} (h:ScanStn B BB PB LB A n c l p acc v w) :
    w.cell? ⟨BB,0,none⟩=some (.slice A n c)∧w.cell? ⟨PB,0,none⟩=some (.int .i64 (p:Int))∧w.cell? ⟨LB,0,none⟩=some v∧placeOfn PB w=p:=by
  have cb:=cell_of_row w BB 0 _ _ _ h.hb
  have cp:=cell_of_row w PB 0 _ _ _ h.hp
  have cl:=cell_of_row w LB 0 _ _ _ h.hl
  simp only [List.getElem?_toArray,List.getElem?_cons_zero] at cb cp cl
  refine ⟨cb,cp,cl,?_⟩
  unfold placeOfn
  rw [cp]
  simp
theorem ScanStn.new (A:Option Addr) (n c:Nat) (l:List UInt8) (w:World) (hB:Bs w A n c l) :
    ScanStn w.heap.size w.heap.size (w.heap.size+1+1) (w.heap.size+1) A n c l 0 [] (.slice none 0 0) (((w.alloc (.cells #[.slice A n c] 40)).alloc (.cells #[.slice none 0 0] 41)).alloc (.cells #[.int .i64 0] 3))∧Below w.heap.size w (((w.alloc (.cells #[.slice A n c] 40)).alloc (.cells #[.slice none 0 0] 41)).alloc (.cells #[.int .i64 0] 3)):=by
  have b1:Below w.heap.size w (w.alloc (.cells #[.slice A n c] 40)):=(Below.refl _ _).alloc (Nat.le_refl _) _
  have b2:Below w.heap.size w ((w.alloc (.cells #[.slice A n c] 40)).alloc (.cells #[.slice none 0 0] 41)):=b1.alloc (by simp) _
  have b3:Below w.heap.size w (((w.alloc (.cells #[.slice A n c] 40)).alloc (.cells #[.slice none 0 0] 41)).alloc (.cells #[.int .i64 0] 3)):=b2.alloc (by simp;omega) _
  have z1:(w.alloc (.cells #[.slice A n c] 40)).heap.size=w.heap.size+1:=by simp
  have z2:((w.alloc (.cells #[.slice A n c] 40)).alloc (.cells #[.slice none 0 0] 41)).heap.size=w.heap.size+1+1:=by simp
  have r1:=heap_alloc_new w (.cells #[.slice A n c] 40)
  have r2:=heap_alloc_new (w.alloc (.cells #[.slice A n c] 40)) (.cells #[.slice none 0 0] 41)
  have r3:=heap_alloc_new ((w.alloc (.cells #[.slice A n c] 40)).alloc (.cells #[.slice none 0 0] 41)) (.cells #[.int .i64 0] 3)
  rw [z1] at r2
  rw [z2] at r3
  have c2:Below (w.heap.size+1) (w.alloc (.cells #[.slice A n c] 40)) (((w.alloc (.cells #[.slice A n c] 40)).alloc (.cells #[.slice none 0 0] 41)).alloc (.cells #[.int .i64 0] 3)):=((Below.refl _ _).alloc (by simp) _).alloc (by simp) _
  have c3:Below (w.heap.size+1+1) ((w.alloc (.cells #[.slice A n c] 40)).alloc (.cells #[.slice none 0 0] 41)) (((w.alloc (.cells #[.slice A n c] 40)).alloc (.cells #[.slice none 0 0] 41)).alloc (.cells #[.int .i64 0] 3)):=(Below.refl _ _).alloc (by simp) _
  refine ⟨⟨(c2.block _ (by omega)).trans r1,r3,(c3.block _ (by omega)).trans r2,hB.below b3,fun h0 b hb=>?_,Rw.nil _ _ _,Nat.le_refl _,by omega,by omega⟩,b3⟩
  obtain ⟨b',o',e,hlt,_⟩:=hB.at_ h0
  rw [e] at hb
  injection hb with hb
  subst hb
  exact hlt
def ScanPostn (l:List UInt8) (w:World) (e:Ending) (w':World):Prop :=
  ∃ v,e=.returned (.tuple #[v,.int .i64 ((scan l).2.1:Int),.int .i64 (scan l).2.2])∧Rw w.heap.size (fun k=>k<w.heap.size) w' v (scan l).1∧Below w.heap.size w w'
set_option maxHeartbeats 4000000 in
set_option maxRecDepth 100000 in
theorem entryScann (A:Option Addr) (n c:Nat) (l:List UInt8) (w:World) (hB:Bs w A n c l) (hN:n≤1099511627000) :
    Calls Tryz.prog 65 #[.slice A n c] w (ScanPostn l w):=by
  have hmf:∀ (fn:Fn) (first cap:Array Value) (w:World),(Instr.makeFunc fn first cap).run Tryz.prog w=.ok (.func fn first cap) w:=fun _ _ _ _=>rfl
  have hlen:=hid hB.len
  have HB:=hid hB
  clear hB
  go_enter Tryz.func65,Tryz.ntmps65
  go_wp2_with (fail)
  have HNEW:=hid (ScanStn.new A n c l w HB.out)
  generalize (((w.alloc (.cells #[.slice A n c] 40)).alloc (.cells #[.slice none 0 0] 41)).alloc (.cells #[.int .i64 0] 3))=W0 at *
  go_loopw [8] (fun _ wr=>∃ (p:Nat) (acc:List (List UInt8)) (v:Value),ScanStn w.heap.size w.heap.size (w.heap.size+1+1) (w.heap.size+1) A n c l p acc v wr∧ScanAt l p acc∧Below w.heap.size w wr) (fun _ wr=>n-placeOfn (w.heap.size+1+1) wr)
  case atStart=>exact ⟨0,[],.slice none 0 0,HNEW.out.1,ScanAt.start l,HNEW.out.2⟩
  case round =>
    clear HNEW
    obtain ⟨wo,rfl⟩:∃ wo:World,wo=wr:=⟨_,rfl⟩
    obtain ⟨p,acc,v,hs,ha,hb⟩:=hrel
    have HS:=hid hs
    have HA:=hid ha
    have HBB:=hid hb
    obtain ⟨cb,cp,cl,hpl⟩:=hs.cells
    have HPL:=hid hpl
    have hpn:p≤n:=by have:=ha.1;have:=hlen.out;omega
    clear hs ha hb hpl
    by_cases hlt:p<n
    · have e1:(p:Int)<(n:Int):=by omega
      have HLT:=hid hlt
      clear hlt
      go_wp2_with (fail)
      refine (scanNextn w.heap.size w.heap.size (w.heap.size+1+1) (w.heap.size+1) n c p A l acc v wo HS.out HLT.out HA.out.2.1 hN).mono ?_
      rintro e w1 ⟨rfl,hb1,hz1,h0,h1⟩
      have HB1:Hid (Below w.heap.size w w1):=hid (HBB.out.trans hb1)
      have H0:=hid h0
      have H1:=hid h1
      clear hb1 hz1 h0 h1
      by_cases he:getErr (l.drop p)=0
      · obtain ⟨v1,hs1⟩:=H0.out he
        have HS1:=hid hs1
        have HA1:=hid (HA.out.more he)
        have HGL:=hid (getErr_len he)
        have HPL1:=hid hs1.cells.2.2.2
        clear hs1 H0 H1
        rw [he]
        go_wp2_with (fail)
        refine ⟨⟨_,_,v1,HS1.out,HA1.out,HB1.out⟩,?_⟩
        rw [HPL1.out,HPL.out]
        have:=HGL.out.1
        have:=HLT.out
        omega
      · have hs1:=H1.out he
        have hst:=HA.out.stop (by rw [hlen.out];exact HLT.out) he
        have hne:(getErr (l.drop p) != 0)=true:=by rw [bne_iff_ne];exact he
        obtain ⟨cb1,cp1,cl1,_⟩:=hs1.cells
        have HST:=hid hst
        have hrd:=hs1.rw
        obtain ⟨Av,cv,hv⟩:=hrd.form
        subst hv
        have HRD:=hid hrd
        clear hst hs1 H0 H1 he hrd
        generalize getErr (l.drop p)=er at *
        go_wp2_with (fail)
        go_quiet (fail)
        go_wp2_with (fail)
        go_ret3
        refine ⟨.slice Av acc.length cv,?_,?_,drawN_below HB1.out _⟩
        · rw [HST.out];rfl
        · rw [HST.out];exact (HRD.out.ch (T':=fun k=>k<w.heap.size) (Ch.of_below (S:=fun _=>False) (drawN_below (Below.refl _ _) _)) (fun _ _ h=>h.elim) (fun _ _ h=>.inr (.inr (.inr h))))
    · obtain rfl:p=n:=by omega
      have hst:=HA.out.all hlen.out.symm
      have hrd:=HS.out.rw
      obtain ⟨Av,cv,hv⟩:=hrd.form
      subst hv
      have HST:=hid hst
      have HRD:=hid hrd
      clear hst hrd hlt
      go_wp2_with (fail)
      go_quiet (fail)
      go_wp2_with (fail)
      go_ret3
      refine ⟨.slice Av acc.length cv,?_,?_,drawN_below HBB.out _⟩
      · rw [HST.out];rfl
      · rw [HST.out];exact (HRD.out.ch (T':=fun k=>k<w.heap.size) (Ch.of_below (S:=fun _=>False) (drawN_below (Below.refl _ _) _)) (fun _ _ h=>h.elim) (fun _ _ h=>.inr (.inr (.inr h))))
end
/- Layer 14: a record added,and a log opened,walked. -/
section
open Go.RowKit Go.MapKept
section
variable {E:Nat→Prop} {w w':World} {B L D M g:Nat} {d d':Dk} {F F':List Ent} {nm:ByteArray} {rs:List (List UInt8)} {v:Value}
theorem KEnd.pre {w1:World} {l:List UInt8} {n:Nat} {r:Out} {e:Ending} (hb:Below w.heap.size w w1) (h:KEnd E B L D M F nm rs g v w1 l n r e w'):KEnd E B L D M F nm rs g v w l n r e w':=by
  obtain ⟨F',v',h1,h2,h3,h4,h5⟩:=h
  exact ⟨F',v',h1,h2,h3,h4,(WlCh.of_below hb).trans h5⟩
set_option maxRecDepth 100000 in
set_option maxHeartbeats 4000000 in
theorem walAdd (h:LgAt E w B L D M F nm rs g v) (hd:DkAt w B D M d F) (ok:FsOk d (fsOf F)) (ho:d.ops+8≤1152921504606846976) (hs:nm.size≤140737488355328) (A:Option Addr) (c:Nat) (l:List UInt8) (hl:Bs w A l.length c l)
    (hoff:0<l.length→∀ b,A=some b→¬ DFoot D M F b.block) (hg:g≤1099511000000) (hn:rs.length≤1099511627770) (hBw:B≤w.heap.size) (hE:∀ k,E k→k<w.heap.size) :
    Calls Tryz.prog 83 #[pL L,.slice A l.length c] w (KEnd E B L D M F nm rs g v w l (record l).length (addD d (fsOf F) nm g l)):=by
  have hmf:∀ (fn:Fn) (first cap:Array Value) (w:World),(Instr.makeFunc fn first cap).run Tryz.prog w=.ok (.func fn first cap) w:=fun _ _ _ _=>rfl
  have H:=hid h
  have HD:=hid hd
  have OK:=hid ok
  have HO:=hid ho
  have HL:=hid hl
  have HOFF:=hid hoff
  have HG:=hid hg
  have HN:=hid hn
  have HBW:=hid hBw
  have HEB:=hid hE
  clear h hd ok ho hl hoff hg hn hBw hE
  go_enter Tryz.func83,Tryz.ntmps83
  go_wp2_with (fail)
  refine (entryPut A l.length c l w HL.out).mono ?_
  rintro e w1 ⟨A2,c2,rfl,hB2,hb1⟩
  have HB1:=hid hb1
  have HB2:=hid hB2
  have H1:=hid (H.out.below hb1)
  have HD1:=hid (HD.out.below hb1)
  have HL1:=hid (HL.out.below hb1)
  have HBW1:Hid (B≤w1.heap.size):=hid (Nat.le_trans HBW.out hb1.size)
  have HEB1:Hid (∀ k,E k→k<w1.heap.size):=hid (fun k hk=>Nat.lt_of_lt_of_le (HEB.out k hk) hb1.size)
  clear hb1 hB2 H HD HL HBW
  by_cases hk:okLen l.length=true
  · have HE:Hid (addD d (fsOf F) nm g l=addA nm g (record l).length (appO d (fsOf F) nm (record l))):=hid (if_pos hk)
    have HK:=hid hk
    rw [if_pos hk] at HB2 ⊢
    rw [if_pos hk]
    clear hk
    have HRL:=hid (record_length l)
    obtain ⟨R,hR⟩:∃ R,R=record l:=⟨_,rfl⟩
    rw [← hR] at HB2 HE HRL ⊢
    have HRR:Hid (R.length=(record l).length):=hid (by rw [hR])
    clear hR
    go_wp2_with (fail)
    refine (walKeep H1.out HD1.out OK.out HO.out hs A c l HL1.out (by have:=okLen_yes HK.out;omega) HOFF.out A2 R.length c2 R HB2.out (by have:=okLen_yes HK.out;have:=HRL.out;have:=HG.out;omega) HN.out HBW1.out HEB1.out).mono ?_
    intro e w2 hK
    have hK:=hK.pre HB1.out
    rw [← HE.out] at hK
    obtain ⟨F',v',he,h2,h3,h4,h5⟩:=hK
    have HP:Hid (∀ e,e=endM (addD d (fsOf F) nm g l).1→KEnd E B L D M F nm rs g v w l (record l).length (addD d (fsOf F) nm g l) e w2):=hid (fun e he=>by rw [← HRR.out];exact ⟨F',v',he,h2,h3,h4,h5⟩)
    clear h2 h3 h4 h5
    generalize addD d (fsOf F) nm g l=r at *
    obtain ⟨x|op,s⟩:=r
    · obtain rfl:e=.returned (.int .i64 x):=he
      go_wp2_with (fail)
      go_ret
      exact HP.out _ rfl
    · obtain rfl:e=.panicked [{ v:=crashI op,recovered:=false }]:=he
      exact ⟨rfl,HP.out _ rfl⟩
  · have HE:Hid (addD d (fsOf F) nm g l=(.inl 9,d,fsOf F)):=hid (if_neg hk)
    rw [if_neg hk] at HB2 ⊢
    rw [if_neg hk]
    clear hk
    go_wp2_with (fail)
    go_ret
    rw [HE.out]
    exact ⟨F,v,rfl,HD1.out,rfl,by rw [if_neg (by intro e;injection e with e;exact absurd e (by decide)),if_neg (by intro e;injection e with e;exact absurd e (by decide))];exact H1.out,WlCh.of_below HB1.out⟩
theorem mReadW (h:DkAt w B D M d F) (hlen:FileLens F) (nm:ByteArray):Calls Tryz.prog 26 #[pD D,.string nm] w fun e w'=>∃ A c x,e=.returned (.tuple #[.slice A (bsOf (fsOf F) nm).length c,.int .i64 x])∧Bs w' A (bsOf (fsOf F) nm).length c (bsOf (fsOf F) nm)∧(∀ b,A=some b→w.heap.size≤b.block)∧Below w.heap.size w w':=by
  unfold bsOf
  cases hf:fget (fsOf F) nm with
  | none =>
    have hno:∀ e ∈ F,e.nm≠nm:=by
      rcases fget_split F nm with ⟨_,h1⟩|⟨P,e,Q,rfl,rfl,h1,_⟩
      · exact h1
      · rw [h1] at hf;cases hf
    refine (dkRead_none h nm hno).mono ?_
    rintro e w' ⟨rfl,rfl⟩
    exact ⟨none,0,6,rfl,Bs.nil _ 0 none (by simp [maxLen]),(fun b hb=>by cases hb),Below.refl _ _⟩
  | some f =>
    have hl:f.bs.length≤1073741824:=by
      rcases fget_split F nm with ⟨h0,_⟩|⟨P,e,Q,rfl,rfl,h1,_⟩
      · rw [h0] at hf;cases hf
      · rw [h1] at hf;injection hf with hf;subst hf;exact hlen e (by simp)
    refine (dkRead_some h hlen nm f hf).mono ?_
    rintro e w' ⟨g,rfl,hg,hr,hb⟩
    exact ⟨_,_,0,rfl,Bs.block hr rfl (by simp only [maxLen];omega),fun b hb=>by injection hb with hb;subst hb;exact hg,hb⟩
def OEnd (E:Nat→Prop) (B D M:Nat) (F:List Ent) (nm:ByteArray) (w:World) (sc:List (List UInt8) × Nat × Int) (r:Out) (e:Ending) (w':World):Prop :=
  ∃ F',DkAt w' B D M r.2.1 F'∧fsOf F'=r.2.2∧DkCh D M F F' w w' ∧
    match r.1 with
    | .inl x=>if x=0 then ∃ L v,e=.returned (.tuple #[pL L,.int .i64 0])∧LgAt E w' B L D M F' nm sc.1 sc.2.1 v∧w.heap.size≤L∧(∀ k,v.ownBlock=some k→w.heap.size≤k) else e=.returned (.tuple #[.pointer none,.int .i64 x])
    | .inr op=>e=.panicked [{ v:=crashI op,recovered:=false }]
theorem Rw.base {B':Nat} {T:Nat→Prop} (h:Rw B' T w v rs) (hB:B≤B'):Rw B T w v rs:=by
  obtain ⟨vs,h1,h2,h3,h4,h5⟩:=h
  refine ⟨vs,h1,⟨h2.1,?_⟩,h3,h4,h5⟩
  rcases h2.2 with q|⟨g,cap,cur,q,q1,q2⟩
  · exact .inl q
  · exact .inr ⟨g,cap,cur,q,by omega,q2⟩
theorem bsOf_len (ok:FsOk d (fsOf F)) (nm:ByteArray):(bsOf (fsOf F) nm).length≤1073741824:=by
  unfold bsOf
  cases hf:fget (fsOf F) nm with
  | none=>simp
  | some f =>
    have h1:=ok.len hf
    have h2:=ok.ok.used
    show f.bs.length≤_
    omega
set_option maxRecDepth 100000 in
set_option maxHeartbeats 4000000 in
theorem walOpen (h:DkAt w B D M d F) (ok:FsOk d (fsOf F)) (ho:d.ops+8≤1152921504606846976) (nm:ByteArray) (hs:nm.size≤140737488355328) (hn:nameD nm=true) (hBw:B≤w.heap.size) (hE:∀ k,E k→k<w.heap.size) :
    Calls Tryz.prog 35 #[pD D,.string nm] w (OEnd E B D M F nm w (scan (bsOf (fsOf F) nm)) (openD d (fsOf F) nm)):=by
  have H:=hid h
  have OK:=hid ok
  have HO:=hid ho
  have HBW:=hid hBw
  have HBL:=hid (bsOf_len ok nm)
  have HFT:Hid (∀ k,DFoot D M F k→k<w.heap.size):=hid (fun k hk=>(h.foot_lt hk).2)
  have HNM:=hid hn
  have HEB:=hid hE
  clear h ok ho hBw hn hE
  go_enter Tryz.func35,Tryz.ntmps35
  go_wp2_with (fail)
  refine (fnRight nm w hs).mono ?_
  rintro e w0 ⟨rfl,rfl⟩
  rw [HNM.out]
  go_wp2_with (fail)
  refine (mReadW H.out OK.out.dk.lens nm).mono ?_
  rintro e w1 ⟨A1,c1,x1,rfl,hB1,_,hb1⟩
  have HE:Hid (openD d (fsOf F) nm=if (scan (bsOf (fsOf F) nm)).2.1=(bsOf (fsOf F) nm).length then (.inl 0,d,fsOf F) else openT nm (opTrunc d (fsOf F) nm ((scan (bsOf (fsOf F) nm)).2.1:Int))):=hid rfl
  have HSL:=hid (scan_len (bsOf (fsOf F) nm))
  generalize bsOf (fsOf F) nm=bs at *
  have hb2:Below w.heap.size w (w1.alloc (.cells #[pD D,.string nm,.slice none 0 0,.int .i64 0] TL)):=hb1.alloc hb1.size _
  have H2:=hid (H.out.below hb2)
  have HB2:=hid hb2
  have HBS2:Hid (Bs (w1.alloc (.cells #[pD D,.string nm,.slice none 0 0,.int .i64 0] TL)) A1 bs.length c1 bs):=hid (hB1.alloc _)
  have HROW:Hid ((w1.alloc (.cells #[pD D,.string nm,.slice none 0 0,.int .i64 0] TL)).heap[w1.heap.size]?=some (.cells #[pD D,.string nm,.slice none 0 0,.int .i64 0] TL)):=hid (heap_alloc_new w1 _)
  have HLT:Hid (w.heap.size≤w1.heap.size∧w1.heap.size<(w1.alloc (.cells #[pD D,.string nm,.slice none 0 0,.int .i64 0] TL)).heap.size):=hid ⟨hb1.size,by simp⟩
  clear hb1 hB1 hb2 H
  go_wp2_with (fail)
  obtain ⟨L,hL⟩:∃ L,L=w1.heap.size:=⟨_,rfl⟩
  rw [← hL] at HROW HLT ⊢
  clear hL
  generalize w1.alloc (.cells #[pD D,.string nm,.slice none 0 0,.int .i64 0] TL)=w2 at *
  refine (entryScann A1 bs.length c1 bs w2 HBS2.out (by have:=HBL.out;omega)).mono ?_
  rintro e w3 ⟨v,rfl,hrw,hb3⟩
  obtain ⟨Av,cv,rfl⟩:=hrw.form
  have hrow3:w3.heap[L]?=some (.cells #[pD D,.string nm,.slice none 0 0,.int .i64 0] TL):=(hb3.block L HLT.out.2).trans HROW.out
  have z0:w3.cell? ⟨L,2,none⟩=some (.slice none 0 0):=cell_of_row w3 L 2 _ _ _ hrow3
  have z1:w3.frozen? ⟨L,2,none⟩=false:=by simp [World.frozen?,hrow3]
  have z2:w3.cell? ⟨L,3,none⟩=some (.int .i64 0):=cell_of_row w3 L 3 _ _ _ hrow3
  have z3:w3.frozen? ⟨L,3,none⟩=false:=by simp [World.frozen?,hrow3]
  obtain ⟨rs,hrs⟩:∃ rs,rs=(scan bs).1:=⟨_,rfl⟩
  obtain ⟨g,hg⟩:∃ g,g=(scan bs).2.1:=⟨_,rfl⟩
  rw [← hrs] at hrw
  obtain ⟨er,her⟩:∃ er,er=(scan bs).2.2:=⟨_,rfl⟩
  rw [← hrs,← hg,← her]
  have HSC:Hid (scan bs=(rs,g,er)):=hid (by rw [hrs,hg,her])
  rw [← hg] at HE HSL
  have hcs:Ch (At1 L) w3 ((w3.setCell ⟨L,2,none⟩ (.slice Av rs.length cv)).setCell ⟨L,3,none⟩ (.int .i64 (g:Int))):=((Ch.refl _ w3).set1 2 _).set1 3 _
  have hDk3:=H2.out.below hb3
  have hoff:¬ DFoot D M F L:=fun hk=>by have:=HFT.out L hk;have:=HLT.out.1;omega
  have HD4:Hid (DkAt ((w3.setCell ⟨L,2,none⟩ (.slice Av rs.length cv)).setCell ⟨L,3,none⟩ (.int .i64 (g:Int))) B D M d F):=hid (hDk3.ch hcs (fun k hk hs=>by rw [show k=L from hs] at hk;exact hoff hk))
  have HL4:Hid (LgAt E ((w3.setCell ⟨L,2,none⟩ (.slice Av rs.length cv)).setCell ⟨L,3,none⟩ (.int .i64 (g:Int))) B L D M F nm rs g (.slice Av rs.length cv)):=hid ⟨heap_set_row (heap_set_row hrow3 _) _,by have:=HLT.out;have:=HBW.out;omega,hoff,(hrw.base (Nat.le_trans HBW.out HB2.out.size)).ch hcs (fun k hk hs=>by rw [show k=L from hs];exact HLT.out.2) (fun k hk ht=>by
    rcases ht with (ht|ht)|ht
    · rw [ht];exact HLT.out.2
    · have:=HFT.out k ht;have:=HB2.out.size;omega
    · have:=HEB.out k ht;have:=HB2.out.size;omega)⟩
  have HB4:Hid (Below w.heap.size w ((w3.setCell ⟨L,2,none⟩ (.slice Av rs.length cv)).setCell ⟨L,3,none⟩ (.int .i64 (g:Int)))):=hid ((HB2.out.trans (hb3.mono HB2.out.size)).trans (hcs.below (fun k hk=>by rw [show k=L from hk];exact HLT.out.1) (by have:=HB2.out.size;have:=hb3.size;omega)))
  have HFR:Hid (w.heap.size≤L∧∀ k,(Value.slice Av rs.length cv).ownBlock=some k→w.heap.size≤k):=hid ⟨HLT.out.1,fun k hk=>Nat.le_trans HB2.out.size (hrw.lt hk).1⟩
  have c3:((w3.setCell ⟨L,2,none⟩ (.slice Av rs.length cv)).setCell ⟨L,3,none⟩ (.int .i64 (g:Int))).cell? ⟨L,3,none⟩=some (.int .i64 (g:Int)):=HL4.out.cell 3
  clear hrw hb3 hrow3 hrs hg her hcs hDk3 hoff HBS2 HROW H2 HB2
  by_cases hgl:g=bs.length
  · have e1:((g:Int) == (bs.length:Int))=true:=by rw [hgl];simp
    have e2:decide (g=bs.length)=true:=by simpa using hgl
    have HE2:Hid (openD d (fsOf F) nm=(.inl 0,d,fsOf F)):=hid (by rw [HE.out,if_pos hgl])
    clear hgl
    go_wp2_with (fail)
    clear c3 z0 z1 z2 z3
    generalize (w3.setCell ⟨L,2,none⟩ (.slice Av rs.length cv)).setCell ⟨L,3,none⟩ (.int .i64 (g:Int))=w4 at *
    go_ret2
    rw [HE2.out,HSC.out]
    exact ⟨F,HD4.out,rfl,DkCh.of_below HB4.out,L,_,rfl,HL4.out,HFR.out.1,HFR.out.2⟩
  · have e1:((g:Int) == (bs.length:Int))=false:=by rw [beq_eq_false_iff_ne];omega
    have e2:decide (g=bs.length)=false:=by simpa using hgl
    have HE2:Hid (openD d (fsOf F) nm=openT nm (opTrunc d (fsOf F) nm (g:Int))):=hid (by rw [HE.out,if_neg hgl])
    clear hgl
    go_wp2_with (fail)
    clear c3 z0 z1 z2 z3
    generalize (w3.setCell ⟨L,2,none⟩ (.slice Av rs.length cv)).setCell ⟨L,3,none⟩ (.int .i64 (g:Int))=w4 at *
    refine (walTakeBack HL4.out HD4.out OK.out).mono ?_
    rintro e w5 ⟨F5,he,h5,hc5,hf5⟩
    have hok5:=trunc_ok OK.out (by have:=HO.out;omega) nm (g:Int)
    have hop5:=trunc_opsW d (fsOf F) nm (g:Int)
    generalize opTrunc d (fsOf F) nm (g:Int)=r at *
    have HL5:=hid (HL4.out.dkch hc5)
    have HC5:=hid ((DkCh.of_below HB4.out).trans hc5)
    clear hc5 HL4 HD4
    obtain ⟨y|op,d5,fs5⟩:=r
    · obtain rfl:fsOf F5=fs5:=hf5
      obtain rfl:e=.returned (.tuple #[]):=he
      have HD5:=hid (show DkAt w5 B D M d5 F5 from h5)
      have OK5:=hid (show FsOk d5 (fsOf F5) from hok5)
      have HE3:Hid (openD d (fsOf F) nm=opSync d5 (fsOf F5) nm):=HE2
      clear h5 hok5 hop5 HE2
      go_wp2_with (fail)
      refine (mSync HD5.out OK5.out nm).mono ?_
      rintro e w6 ⟨F6,he,h6,hc6,hf6⟩
      generalize opSync d5 (fsOf F5) nm=r at *
      have HL6:=hid (HL5.out.dkch hc6)
      have HC6:=hid (HC5.out.trans hc6)
      clear hc6 HL5 HC5
      obtain ⟨x|op,d6,fs6⟩:=r
      · obtain rfl:fsOf F6=fs6:=hf6
        obtain rfl:e=.returned (.int .i64 x):=he
        have HD6:=hid (show DkAt w6 B D M d6 F6 from h6)
        clear h6
        by_cases hx:x=0
        · subst hx
          go_wp2_with (fail)
          go_ret2
          rw [HE3.out,HSC.out]
          exact ⟨F6,HD6.out,rfl,HC6.out,L,_,rfl,HL6.out,HFR.out.1,HFR.out.2⟩
        · have e3:(x != 0)=true:=by simpa using hx
          have HX:=hid hx
          clear hx
          go_wp2_with (fail)
          go_ret2
          rw [HE3.out]
          refine ⟨F6,HD6.out,rfl,HC6.out,?_⟩
          show if x=0 then _ else _
          rw [if_neg HX.out]
          rfl
      · obtain rfl:fsOf F6=fs6:=hf6
        obtain rfl:e=.panicked [{ v:=crashI op,recovered:=false }]:=he
        rw [HE3.out]
        exact ⟨rfl,F6,h6,rfl,HC6.out,rfl⟩
    · obtain rfl:fsOf F5=fs5:=hf5
      obtain rfl:e=.panicked [{ v:=crashI op,recovered:=false }]:=he
      rw [HE2.out]
      exact ⟨rfl,F5,h5,rfl,HC5.out,rfl⟩
end
end
/- Layer 14: Add on a disk that does as it is told,as plain functions. -/
section
open Go.RowKit Go.MapKept
theorem trunc_opsP (d:Dk) (fs:Fs) (a:ByteArray) (n:Int):(opTrunc d fs a n).2.1.ops≤d.ops+1:=by
  have:=callD_ops (d:=d) (fs:=fs) 1 n 0 a a []
  simpa [callD,liftO] using this
theorem sync_opsP (d:Dk) (fs:Fs) (a:ByteArray):(opSync d fs a).2.1.ops≤d.ops+1:=by
  have:=callD_ops (d:=d) (fs:=fs) 2 0 0 a a []
  simpa [callD,liftO] using this
theorem app_opsP (d:Dk) (fs:Fs) (a:ByteArray) (l:List UInt8):(appO d fs a l).2.1.ops≤d.ops+1:=by
  have:=callD_ops (d:=d) (fs:=fs) 0 0 0 a a l
  simpa [callD] using this
theorem app_okP {d:Dk} {fs:Fs} (h:FsOk d fs) (ho:d.ops+1≤1152921504606846976) (a:ByteArray) (l:List UInt8):FsOk (appO d fs a l).2.1 (appO d fs a l).2.2:=by
  have:=callD_ok h ho 0 0 0 (by decide) (by decide) a a l
  simpa [callD] using this
theorem undo_ok {x:Int} {r:Out} {k:Int} (h:FsOk r.2.1 r.2.2) (ho:r.2.1.ops≤k):FsOk (undo_ x r).2.1 (undo_ x r).2.2∧(undo_ x r).2.1.ops≤k:=by
  obtain ⟨y|op,d,fs⟩:=r
  · exact ⟨h,ho⟩
  · exact ⟨h,ho⟩
theorem addD_ok {d:Dk} {fs:Fs} (ok:FsOk d fs) (ho:d.ops+8≤1152921504606846976) (nm:ByteArray) (g:Nat) (b:List UInt8):FsOk (addD d fs nm g b).2.1 (addD d fs nm g b).2.2∧(addD d fs nm g b).2.1.ops≤d.ops+3:=by
  unfold addD
  split
  · have h2:=app_okP ok (by omega) nm (record b)
    have o2:=app_opsP d fs nm (record b)
    generalize appO d fs nm (record b)=r at h2 o2
    obtain ⟨⟨n,y|op⟩,d3,fs3⟩:=r
    · have o2':d3.ops≤d.ops+1:=o2
      show FsOk (if n<((record b).length:Int) then undo_ 4 (opTrunc d3 fs3 nm (g:Int)) else addS nm g (opSync d3 fs3 nm)).2.1 (if n<((record b).length:Int) then undo_ 4 (opTrunc d3 fs3 nm (g:Int)) else addS nm g (opSync d3 fs3 nm)).2.2∧(if n<((record b).length:Int) then undo_ 4 (opTrunc d3 fs3 nm (g:Int)) else addS nm g (opSync d3 fs3 nm)).2.1.ops≤d.ops+3
      split
      · exact undo_ok (trunc_ok h2 (by show d3.ops+1≤_;omega) nm _) (by have:=trunc_opsP d3 fs3 nm (g:Int);omega)
      · have h3:=sync_ok h2 (by show d3.ops+1≤_;omega) nm
        have o3:=sync_opsP d3 fs3 nm
        generalize opSync d3 fs3 nm=r at h3 o3
        obtain ⟨x2|op,d4,fs4⟩:=r
        · have o3':d4.ops≤d3.ops+1:=o3
          show FsOk (if x2=0 then ((.inl 0,d4,fs4):Out) else undo_ 5 (opTrunc d4 fs4 nm (g:Int))).2.1 (if x2=0 then ((.inl 0,d4,fs4):Out) else undo_ 5 (opTrunc d4 fs4 nm (g:Int))).2.2∧(if x2=0 then ((.inl 0,d4,fs4):Out) else undo_ 5 (opTrunc d4 fs4 nm (g:Int))).2.1.ops≤d.ops+3
          split
          · exact ⟨h3,by show d4.ops≤_;omega⟩
          · exact undo_ok (trunc_ok h3 (by show d4.ops+1≤_;omega) nm _) (by have:=trunc_opsP d4 fs4 nm (g:Int);omega)
        · exact ⟨h3,by have o3':d4.ops≤d3.ops+1:=o3;show d4.ops≤_;omega⟩
    · exact ⟨h2,by have o2':d3.ops≤d.ops+1:=o2;show d3.ops≤_;omega⟩
  · exact ⟨ok,by show d.ops≤_;omega⟩
structure WPlain (d:Dk) (fs:Fs) (nm:ByteArray) (rs:List (List UInt8)):Prop where
  ha:d.armedIn=0
  hf:d.failIn=0
  hw:WalFs fs nm rs
  hu:d.used=((recs rs).length:Int)
theorem app_plain {d:Dk} {fs:Fs} {nm:ByteArray} (l:List UInt8) (hn:nameD nm=true) (ha:d.armedIn=0) :
    appO d fs nm l=(((appN d l.length:Int),.inl (appE d l.length)),{ d.begin with used:=d.used+(appN d l.length:Int) },layF fs nm (l.take (appN d l.length))):=by
  unfold appO
  rw [if_neg (by rw [hn];decide),if_neg (by omega)]
theorem layF_get {fs:Fs} {nm:ByteArray} {rs:List (List UInt8)} (h:WalFs fs nm rs) (b:List UInt8):fget (layF fs nm b) nm=some ⟨recs rs++b,(recs rs).length⟩:=by
  unfold layF
  rw [fget_put_same]
  rcases h.2 with ⟨h1,rfl⟩|h1
  · rw [h1];rfl
  · rw [h1]
theorem trunc_plain {d:Dk} {fs:Fs} {nm:ByteArray} {f:Fl} {n:Nat} (h:fget fs nm=some f) (hn:n≤f.bs.length) (ha:d.armedIn=0) :
    opTrunc d fs nm (n:Int)=(.inl 0,{ d.begin with used:=d.used-((f.bs.length:Int)-(n:Int)) },fput fs nm (trFl n f)):=by
  unfold opTrunc
  rw [h]
  simp only
  rw [if_neg (by omega)]
  unfold opChange
  rw [if_neg (by omega)]
  simp
theorem sync_plain {d:Dk} {fs:Fs} {nm:ByteArray} {f:Fl} (h:fget fs nm=some f) (ha:d.armedIn=0) (hf:d.failIn=0) :
    opSync d fs nm=(.inl 0,d.syncs.begin,fput fs nm ⟨f.bs,f.bs.length⟩):=by
  unfold opSync
  rw [h]
  simp only
  unfold opChange
  rw [if_neg (by omega)]
  have:(d.failIn == 1)=false:=by rw [hf];rfl
  rw [this]
  rfl
theorem addS_zero (nm:ByteArray) (g:Nat) (s:Dk × Fs):addS nm g (.inl 0,s)=(.inl 0,s):=by simp [addS]
theorem addD_plain {d:Dk} {fs:Fs} {nm:ByteArray} {rs:List (List UInt8)} (h:WPlain d fs nm rs) (hn:nameD nm=true) (b:List UInt8) (hb:okLen b.length=true) :
    (addD d fs nm (recs rs).length b).2.1.room=d.room ∧
    ((((recs rs).length:Int)+((record b).length:Int)≤d.room∧(addD d fs nm (recs rs).length b).1=.inl 0∧WPlain (addD d fs nm (recs rs).length b).2.1 (addD d fs nm (recs rs).length b).2.2 nm (rs++[b])) ∨
     (d.room<((recs rs).length:Int)+((record b).length:Int)∧(addD d fs nm (recs rs).length b).1=.inl 4∧WPlain (addD d fs nm (recs rs).length b).2.1 (addD d fs nm (recs rs).length b).2.2 nm rs)):=by
  have hk:=addD_keeps d b hn h.hw
  have e0:addD d fs nm (recs rs).length b=addA nm (recs rs).length (record b).length (appO d fs nm (record b)):=if_pos hb
  rw [app_plain _ hn h.ha] at e0
  have hg:=layF_get h.hw ((record b).take (appN d (record b).length))
  have hu:=h.hu
  have hnN:appN d (record b).length=min (record b).length (d.room-d.used).toNat:=rfl
  obtain ⟨N,hN⟩:∃ N,N=appN d (record b).length:=⟨_,rfl⟩
  rw [← hN] at e0 hg hnN
  obtain ⟨m,hm⟩:∃ m,m=(record b).length:=⟨_,rfl⟩
  have hm8:8≤m:=by rw [hm,record_length];omega
  rw [← hm] at e0 hnN ⊢
  have hlen:(recs rs++(record b).take N).length=(recs rs).length+N:=by rw [List.length_append,List.length_take];omega
  obtain ⟨d1,hd1⟩:∃ d1:Dk,d1={ d.begin with used:=d.used+(N:Int) }:=⟨_,rfl⟩
  have a1:d1.armedIn=0:=by rw [hd1];exact begin_rest h.ha
  have f1:d1.failIn=0:=by rw [hd1];exact h.hf
  have r1:d1.room=d.room:=by rw [hd1];rfl
  have u1:d1.used=d.used+(N:Int):=by rw [hd1]
  rw [← hd1] at e0
  clear hd1
  by_cases hlt:N<m
  · have e1:addD d fs nm (recs rs).length b=undo_ 4 (opTrunc d1 (layF fs nm ((record b).take N)) nm ((recs rs).length:Int)):=by
      rw [e0];exact if_pos (show (N:Int)<(m:Int) by omega)
    rw [trunc_plain hg (by simp) a1] at e1
    simp only [hlen] at e1
    rw [e1] at hk
    rw [e1]
    refine ⟨r1,.inr ⟨by omega,rfl,⟨begin_rest (d:=d1) a1,f1,hk,?_⟩⟩⟩
    show d1.used-((((recs rs).length+N:Nat):Int)-((recs rs).length:Int))=_
    omega
  · have hNm:N=m:=by omega
    have e1:addD d fs nm (recs rs).length b=addS nm (recs rs).length (opSync d1 (layF fs nm ((record b).take N)) nm):=by
      rw [e0];exact if_neg (show ¬ (N:Int)<(m:Int) by omega)
    rw [sync_plain hg a1 f1] at e1
    have e2:addD d fs nm (recs rs).length b=(.inl 0,(d1.syncs.begin,fput (layF fs nm ((record b).take N)) nm ⟨recs rs++(record b).take N,(recs rs++(record b).take N).length⟩)):=by
      rw [e1];exact addS_zero _ _ _
    rw [e2] at hk
    rw [e2]
    refine ⟨r1,.inl ⟨by omega,rfl,⟨begin_rest (d:=d1.syncs) a1,syncs_rest (d:=d1) f1,hk.2,?_⟩⟩⟩
    show d1.used=_
    rw [recs_snoc,List.length_append,← hm]
    omega
end
/- Layer 14: the document's example,walked. -/
section
open Go.RowKit Go.MapKept
abbrev nmL:ByteArray:=⟨#[108,111,103]⟩
theorem nameL:nameD nmL=true:=by decide +kernel
theorem newW_ok (r:Int) (h:0≤r∧r≤1073741824):FsOk ⟨r,0,0,0,0,0⟩ (fsOf []) :=
  ⟨⟨h,by show (0:Int)≤0∧(0:Int)≤1073741824;decide,by show (0:Int)≤0∧(0:Int)≤1152921504606846976;decide,by show (0:Int)≤0∧(0:Int)≤9223372036854775807;decide,by show (0:Int)≤0∧(0:Int)≤9223372036854775807;decide,by show (-9223372036854775808:Int)≤0∧(0:Int)≤9223372036854775807;decide⟩,rfl,(fun e he=>by cases he),by simp [fsOf]⟩
theorem newW_plain (r:Int) (nm:ByteArray):WPlain ⟨r,0,0,0,0,0⟩ (fsOf []) nm []:=⟨rfl,rfl,⟨(fun x hx=>by cases hx),.inl ⟨rfl,rfl⟩⟩,rfl⟩
theorem walOpen_new {E:Nat→Prop} {w:World} {B D M:Nat} {r:Int} (hr:0≤r∧r≤1073741824) (h:DkAt w B D M ⟨r,0,0,0,0,0⟩ []) (nm:ByteArray) (hs:nm.size≤140737488355328) (hn:nameD nm=true) (hBw:B≤w.heap.size) (hE:∀ k,E k→k<w.heap.size) :
    Calls Tryz.prog 35 #[pD D,.string nm] w fun e w'=>∃ L v,e=.returned (.tuple #[pL L,.int .i64 0])∧LgAt E w' B L D M [] nm [] 0 v∧DkAt w' B D M ⟨r,0,0,0,0,0⟩ []∧DkCh D M [] [] w w'∧w.heap.size≤L∧(∀ k,v.ownBlock=some k→w.heap.size≤k):=by
  refine (walOpen h (newW_ok r hr) (by show (0:Int)+8≤_;decide) nm hs hn hBw hE).mono ?_
  rintro e w' ⟨F',h1,h2,h3,h4⟩
  have e1:openD ⟨r,0,0,0,0,0⟩ (fsOf []) nm=(.inl 0,⟨r,0,0,0,0,0⟩,fsOf []):=(openD_whole _ (newW_plain r nm).hw).1
  rw [e1] at h1 h2 h4
  obtain rfl:F'=[]:=by
    cases F' with
    | nil=>rfl
    | cons a b=>simp [fsOf] at h2
  obtain ⟨L,v,he,h5,h6,h7⟩:=h4
  exact ⟨L,v,he,h5,h1,h3,h6,h7⟩
end
end Go.Proofs.YtodjilljcjkacaaGreatDoor
