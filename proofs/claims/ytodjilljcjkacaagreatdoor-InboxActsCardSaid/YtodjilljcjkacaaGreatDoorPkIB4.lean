/- Laid together: Dk0, Dk1, Dk2. -/
import Derived.Test.YtodjilljcjkacaaGreatDoorPkIB3
import Derived.Tactics
import Derived.Tactics2
import Derived.Defers
import Derived.Recover
import Derived.Laws.Pointers

namespace Go.Proofs.YtodjilljcjkacaaGreatDoor
open Lib (hid)
section
open Go.RowKit Go.MapKept
structure Fl where
  bs:List UInt8
  safe:Nat
structure Ent where
  nm:ByteArray
  g:Nat
  v:Value
  f:Fl
structure Dk where
  room:Int
  used:Int
  ops:Int
  failIn:Int
  armedIn:Int
  armKeep:Int
abbrev TD:TypeId:=118
abbrev TF:TypeId:=121
abbrev pf (g:Nat):Value:=.pointer (some ⟨g,0,none⟩)
abbrev dkCells (M:Nat) (d:Dk):Array Value:=#[.map (some M),.int .i64 d.room,.int .i64 d.used,.int .i64 d.ops,.int .i64 d.failIn,.int .i64 d.armedIn,.int .i64 d.armKeep]
abbrev dkObj (M:Nat) (d:Dk):Obj:=.cells (dkCells M d) TD
abbrev fObj (v:Value) (n:Nat):Obj:=.cells #[v,.int .i64 (n:Int)] TF
abbrev mapL (F:List Ent):List (ByteArray × Value):=F.map fun e=>(e.nm,pf e.g)
def Apart (a b:Ent):Prop:=a.g≠b.g∧∀ k,a.v.ownBlock=some k→b.v.ownBlock≠some k
theorem Apart.symm {a b:Ent} (h:Apart a b):Apart b a:=⟨h.1.symm,fun k hb ha=>h.2 k ha hb⟩
structure FileAt (w:World) (B:Nat) (e:Ent):Prop where
  base:B≤e.g
  row:w.heap[e.g]?=some (fObj e.v e.f.safe)
  own:Own 5 w B e.v e.f.bs
structure DkAt (w:World) (B D M:Nat) (d:Dk) (F:List Ent):Prop where
  hD:B≤D
  hM:B≤M
  row:w.heap[D]?=some (dkObj M d)
  map:MapIs (.string) w M (mapL F)
  files:∀ e ∈ F,FileAt w B e
  apart:F.Pairwise Apart
  names:(F.map (·.nm)).Nodup
def Foot (F:List Ent) (k:Nat):Prop:=∃ e ∈ F,k=e.g∨e.v.ownBlock=some k
def DFoot (D M:Nat) (F:List Ent) (k:Nat):Prop:=k=D∨k=M∨Foot F k
section
variable {w w':World} {B D M:Nat} {d d':Dk} {F F':List Ent}
theorem FileAt.lt {e:Ent} (h:FileAt w B e):e.g<w.heap.size:=(Array.getElem?_eq_some_iff.1 h.row).1
theorem DkAt.lt (h:DkAt w B D M d F):D<w.heap.size:=(Array.getElem?_eq_some_iff.1 h.row).1
theorem FileAt.ch {e:Ent} {S:Nat→Prop} (h:FileAt w B e) (c:Ch S w w') (h1:¬ S e.g) (h2:∀ k,e.v.ownBlock=some k→¬ S k):FileAt w' B e:=⟨h.base,c.row h.row h1,h.own.ch c h2⟩
theorem FileAt.neD {e:Ent} (h:FileAt w B e) (hD:w.heap[D]?=some (dkObj M d)):e.g≠D∧e.v.ownBlock≠some D:=by
  refine ⟨fun h2=>?_,(own_ne h.own hD (by decide)).symm⟩
  have h3:=h.row
  rw [h2,hD] at h3
  simp only [Option.some.injEq,Obj.cells.injEq] at h3
  exact absurd h3.2.1 (by decide)
theorem FileAt.neM {e:Ent} {L:List (ByteArray × Value)} (h:FileAt w B e) (hM:MapIs (.string) w M L):e.g≠M∧e.v.ownBlock≠some M:=by
  refine ⟨(hM.ne h.row).symm,fun h2=>?_⟩
  obtain ⟨cur,hc⟩:=own_ty h.own M h2
  exact hM.ne hc rfl
theorem DkAt.neDM (h:DkAt w B D M d F):M≠D:=h.map.ne h.row
theorem DkAt.ch {S:Nat→Prop} (h:DkAt w B D M d F) (c:Ch S w w') (hS:∀ k,DFoot D M F k→¬ S k):DkAt w' B D M d F :=
  ⟨h.hD,h.hM,c.row h.row (hS D (.inl rfl)),h.map.ch c (hS M (.inr (.inl rfl))),fun e he=>(h.files e he).ch c (hS _ (.inr (.inr ⟨e,he,.inl rfl⟩))) (fun k hk=>hS k (.inr (.inr ⟨e,he,.inr hk⟩))),h.apart,h.names⟩
theorem DkAt.foot_lt (h:DkAt w B D M d F) {k:Nat} (hk:DFoot D M F k):B≤k∧k<w.heap.size:=by
  rcases hk with rfl|rfl|⟨e,he,rfl|hk⟩
  · exact ⟨h.hD,h.lt⟩
  · exact ⟨h.hM,h.map.lt⟩
  · exact ⟨(h.files e he).base,(h.files e he).lt⟩
  · exact (h.files e he).own.lt k hk
theorem DkAt.below (h:DkAt w B D M d F) (hb:Below w.heap.size w w'):DkAt w' B D M d F :=
  h.ch (Ch.of_below (S:=fun k=>w.heap.size≤k) hb) (fun k hk h2=>by have:=(h.foot_lt hk).2;omega)
theorem DkAt.nums (h:DkAt w B D M d F) (c:Ch (At1 D) w w') (hr:w'.heap[D]?=some (dkObj M d')):DkAt w' B D M d' F :=
  ⟨h.hD,h.hM,hr,h.map.ch c h.neDM,fun e he=>(h.files e he).ch c ((h.files e he).neD h.row).1 (fun k hk h2=>((h.files e he).neD h.row).2 (by rw [hk,h2])),h.apart,h.names⟩
theorem DkAt.cell (h:DkAt w B D M d F) (j:Nat):w.cell? ⟨D,j,none⟩=(dkCells M d)[j]?:=cell_of_row w D j _ _ _ h.row
theorem DkAt.frozen (h:DkAt w B D M d F) (j:Nat):w.frozen? ⟨D,j,none⟩=false:=by
  simp [World.frozen?,h.row]
theorem FileAt.cell {e:Ent} (h:FileAt w B e) (j:Nat):w.cell? ⟨e.g,j,none⟩=(#[e.v,Value.int .i64 (e.f.safe:Int)]:Array Value)[j]?:=cell_of_row w e.g j _ _ _ h.row
theorem FileAt.frozen {e:Ent} (h:FileAt w B e) (j:Nat):w.frozen? ⟨e.g,j,none⟩=false:=by
  simp [World.frozen?,h.row]
structure DkCh (D M:Nat) (F F':List Ent) (w w':World):Prop where
  ch:Ch (DFoot D M F) w w'
  foot:∀ k,Foot F' k→Foot F k∨w.heap.size≤k
theorem DkCh.refl (D M:Nat) (F:List Ent) (w:World):DkCh D M F F w w:=⟨Ch.refl _ _,fun _ h=>.inl h⟩
theorem DkCh.trans {w1:World} {F1:List Ent} (h:DkCh D M F F1 w w1) (k:DkCh D M F1 F' w1 w'):DkCh D M F F' w w' :=
  ⟨h.ch.trans k.ch (fun x hx hf=>by
    rcases hf with h1|h1|h1
    · exact .inl h1
    · exact .inr (.inl h1)
    · rcases h.foot x h1 with h2|h2
      · exact .inr (.inr h2)
      · omega),fun x hx=>by
    rcases k.foot x hx with h1|h1
    · exact h.foot x h1
    · exact .inr (Nat.le_trans h.ch.size h1)⟩
theorem DkCh.of_below (hb:Below w.heap.size w w'):DkCh D M F F w w':=⟨Ch.of_below hb,fun _ h=>.inl h⟩
theorem DkCh.of1 (c:Ch (At1 D) w w'):DkCh D M F F w w':=⟨(Ch.refl (DFoot D M F) w).trans c (fun _ _ h=>.inl h),fun _ h=>.inl h⟩
theorem DkCh.below (h:DkAt w B D M d F) (c:DkCh D M F F' w w') (hB:B≤w.heap.size):Below B w w':=c.ch.below (fun _ hk=>(h.foot_lt hk).1) hB
theorem heap_set_row {w:World} {g j:Nat} {C:Array Value} {t:TypeId} {fz:Nat × Nat} (h:w.heap[g]?=some (.cells C t fz)) (u:Value):(w.setCell ⟨g,j,none⟩ u).heap[g]?=some (.cells (C.setIfInBounds j u) t fz):=by
  simp [World.setCell,Array.getElem?_modify,h]
end
theorem aget_split (F:List Ent) (n:ByteArray):(aget (mapL F) n=none∧∀ e ∈ F,e.nm≠n)∨∃ P e Q,F=P++e :: Q∧e.nm=n∧aget (mapL F) n=some (pf e.g)∧∀ x ∈ P,x.nm≠n:=by
  induction F with
  | nil=>exact .inl ⟨rfl,fun _ h=>by cases h⟩
  | cons a r ih =>
    by_cases h:n=a.nm
    · exact .inr ⟨[],a,r,rfl,h.symm,by simp [mapL,aget,h],fun _ h=>by cases h⟩
    · rcases ih with ⟨h1,h2⟩|⟨P,e,Q,rfl,h1,h2,h3⟩
      · refine .inl ⟨by simp only [mapL,List.map_cons,aget];rw [if_neg h];exact h1,fun e he=>?_⟩
        rcases List.mem_cons.1 he with rfl|he
        · exact fun e=>h e.symm
        · exact h2 e he
      · refine .inr ⟨a :: P,e,Q,rfl,h1,by simp only [mapL,List.map_cons,aget];rw [if_neg h];exact h2,fun x hx=>?_⟩
        rcases List.mem_cons.1 hx with rfl|hx
        · exact fun e=>h e.symm
        · exact h3 x hx
abbrev Fs:=List (ByteArray × Fl)
abbrev fsOf (F:List Ent):Fs:=F.map fun e=>(e.nm,e.f)
def fget:Fs→ByteArray→Option Fl
  | [],_=>none
  | (a,v) :: r,k=>if k=a then some v else fget r k
def fput:Fs→ByteArray→Fl→Fs
  | [],k,v=>[(k,v)]
  | (a,u) :: r,k,v=>if k=a then (k,v) :: r else (a,u) :: fput r k v
def fdel:Fs→ByteArray→Fs
  | [],_=>[]
  | (a,u) :: r,k=>if k=a then r else (a,u) :: fdel r k
theorem fget_none {F:List Ent} {n:ByteArray} (h:∀ e ∈ F,e.nm≠n):fget (fsOf F) n=none:=by
  induction F with
  | nil=>rfl
  | cons a r ih =>
    simp only [fsOf,List.map_cons,fget]
    rw [if_neg (fun e=>h a (by simp) e.symm)]
    exact ih (fun e he=>h e (by simp [he]))
theorem fget_at {P Q:List Ent} {e:Ent} (h:∀ x ∈ P,x.nm≠e.nm):fget (fsOf (P++e :: Q)) e.nm=some e.f:=by
  induction P with
  | nil=>simp [fsOf,fget]
  | cons a r ih =>
    simp only [fsOf,List.cons_append,List.map_cons,fget]
    rw [if_neg (fun e2=>h a (by simp) e2.symm)]
    exact ih (fun x hx=>h x (by simp [hx]))
theorem fput_none {F:List Ent} {n:ByteArray} (f:Fl) (h:∀ e ∈ F,e.nm≠n):fput (fsOf F) n f=fsOf F++[(n,f)]:=by
  induction F with
  | nil=>rfl
  | cons a r ih =>
    simp only [fsOf,List.map_cons,fput,List.cons_append]
    rw [if_neg (fun e=>h a (by simp) e.symm)]
    rw [ih (fun e he=>h e (by simp [he]))]
theorem fput_at {P Q:List Ent} {e:Ent} (f:Fl) (h:∀ x ∈ P,x.nm≠e.nm) (g:Nat) (v:Value):fput (fsOf (P++e :: Q)) e.nm f=fsOf (P++⟨e.nm,g,v,f⟩ :: Q):=by
  induction P with
  | nil=>simp [fsOf,fput]
  | cons a r ih =>
    simp only [fsOf,List.cons_append,List.map_cons,fput]
    rw [if_neg (fun e2=>h a (by simp) e2.symm)]
    have:=ih (fun x hx=>h x (by simp [hx]))
    simp only [fsOf] at this
    rw [this]
section
variable {w w':World} {B D M:Nat} {d d':Dk} {F:List Ent}
theorem DkAt.file {P Q:List Ent} {e:Ent} (h:DkAt w B D M d (P++e :: Q)) (c:Ch (fun k=>k=e.g∨e.v.ownBlock=some k) w w') (v:Value) (f:Fl)
    (hr:w'.heap[e.g]?=some (fObj v f.safe)) (ho:Own 5 w' B v f.bs) (hv:∀ k,v.ownBlock=some k→e.v.ownBlock=some k∨w.heap.size≤k) :
    DkAt w' B D M d (P++⟨e.nm,e.g,v,f⟩ :: Q)∧DkCh D M (P++e :: Q) (P++⟨e.nm,e.g,v,f⟩ :: Q) w w':=by
  have he:=h.files e (by simp)
  have hap:=h.apart
  have hother:∀ x ∈ P++Q,Apart x e∧FileAt w B x:=fun x hx=>by
    rw [List.pairwise_append] at hap
    rcases List.mem_append.1 hx with hx|hx
    · exact ⟨hap.2.2 x hx e (by simp),h.files x (by simp [hx])⟩
    · exact ⟨((List.pairwise_cons.1 hap.2.1).1 x hx).symm,h.files x (by simp [hx])⟩
  have hnew:∀ x ∈ P++Q,Apart x ⟨e.nm,e.g,v,f⟩:=fun x hx=>by
    obtain ⟨⟨h1,h2⟩,h3⟩:=hother x hx
    refine ⟨h1,fun k hk hk2=>?_⟩
    rcases hv k hk2 with h4|h4
    · exact h2 k hk h4
    · have:=(h3.own.lt k hk).2;omega
  refine ⟨⟨h.hD,h.hM,c.row h.row (fun hs=>?_),h.map.ch c (fun hs=>?_) |> fun hm=>by simpa [mapL] using hm,fun x hx=>?_,?_,by have:=h.names;simpa using this⟩,⟨(Ch.refl _ w).trans c (fun k _ hk=>.inr (.inr ⟨e,by simp,hk⟩)),fun k hk=>?_⟩⟩
  · rcases hs with hs|hs
    · exact (he.neD h.row).1 hs.symm
    · exact (he.neD h.row).2 hs
  · rcases hs with hs|hs
    · exact (he.neM h.map).1 hs.symm
    · exact (he.neM h.map).2 hs
  · rcases List.mem_append.1 hx with hx|hx
    · obtain ⟨⟨h1,h2⟩,h3⟩:=hother x (by simp [hx])
      exact h3.ch c (fun hs=>by
        rcases hs with hs|hs
        · exact h1 hs
        · exact (own_ne he.own h3.row (by decide)) hs.symm) (fun k hk hs=>by
        rcases hs with hs|hs
        · obtain ⟨cur,hc⟩:=own_ty h3.own k hk
          rw [hs,he.row] at hc
          simp only [Option.some.injEq,Obj.cells.injEq] at hc
          exact absurd hc.2.1 (by decide)
        · exact h2 k hk hs)
    · rcases List.mem_cons.1 hx with rfl|hx
      · exact ⟨he.base,hr,ho⟩
      · obtain ⟨⟨h1,h2⟩,h3⟩:=hother x (by simp [hx])
        exact h3.ch c (fun hs=>by
          rcases hs with hs|hs
          · exact h1 hs
          · exact (own_ne he.own h3.row (by decide)) hs.symm) (fun k hk hs=>by
          rcases hs with hs|hs
          · obtain ⟨cur,hc⟩:=own_ty h3.own k hk
            rw [hs,he.row] at hc
            simp only [Option.some.injEq,Obj.cells.injEq] at hc
            exact absurd hc.2.1 (by decide)
          · exact h2 k hk hs)
  · rw [List.pairwise_append] at hap ⊢
    refine ⟨hap.1,List.pairwise_cons.2 ⟨fun x hx=>(hnew x (by simp [hx])).symm,(List.pairwise_cons.1 hap.2.1).2⟩,fun x hx y hy=>?_⟩
    rcases List.mem_cons.1 hy with rfl|hy
    · exact hnew x (by simp [hx])
    · exact hap.2.2 x hx y (by simp [hy])
  · obtain ⟨x,hx,hk⟩:=hk
    rcases List.mem_append.1 hx with hx|hx
    · exact .inl ⟨x,by simp [hx],hk⟩
    · rcases List.mem_cons.1 hx with rfl|hx
      · rcases hk with hk|hk
        · exact .inl ⟨e,by simp,.inl hk⟩
        · rcases hv k hk with h4|h4
          · exact .inl ⟨e,by simp,.inr h4⟩
          · exact .inr h4
      · exact .inl ⟨x,by simp [hx],hk⟩
end
end
section
open Go.RowKit Go.MapKept
abbrev crash (op:Int):Value:=.agg #[.int .i64 op]
abbrev crashI (op:Int):Value:=.iface 48 (crash op)
abbrev pD (D:Nat):Value:=.pointer (some ⟨D,0,none⟩)
def nameB (c:UInt8):Bool:=(decide (97≤c.toNat) && decide (c.toNat≤122)) || (decide (48≤c.toNat) && decide (c.toNat≤57)) || c.toNat == 46
def nameD (n:ByteArray):Bool:=decide (1≤n.size) && decide (n.size≤32) && n.data.toList.all nameB
set_option maxRecDepth 100000 in
theorem fnByte (c:UInt8) (w:World):Calls Tryz.prog 94 #[.int .u8 (c.toNat:Int)] w fun e w'=>e=.returned (.bool (nameB c))∧w=w':=by
  have hv:nameB c=((decide (97≤c.toNat) && decide (c.toNat≤122)) || (decide (48≤c.toNat) && decide (c.toNat≤57)) || c.toNat == 46):=rfl
  generalize c.toNat=n at *
  have h:n=46∨(n<48∧n≠46)∨(48≤n∧n≤57)∨(58≤n∧n≤96)∨(97≤n∧n≤122)∨123≤n:=by omega
  rcases h with h|h|h|h|h|h
  · have hr:nameB c=true:=by rw [hv];simp [h]
    have d1:decide ((97:Int)≤(n:Int))=false:=by simp;omega
    have d2:decide ((n:Int)≤122)=true:=by simp;omega
    have d3:decide ((48:Int)≤(n:Int))=false:=by simp;omega
    have d4:decide ((n:Int)≤57)=true:=by simp;omega
    have d5:((n:Int) == 46)=true:=by simp;omega
    rw [hr]
    clear hr hv h
    go_enter Tryz.func94,Tryz.ntmps94
    go_wp2
    go_ret
    exact ⟨rfl,rfl⟩
  · have hr:nameB c=false:=by rw [hv];simp;omega
    have d1:decide ((97:Int)≤(n:Int))=false:=by simp;omega
    have d2:decide ((n:Int)≤122)=true:=by simp;omega
    have d3:decide ((48:Int)≤(n:Int))=false:=by simp;omega
    have d4:decide ((n:Int)≤57)=true:=by simp;omega
    have d5:((n:Int) == 46)=false:=by simp;omega
    rw [hr]
    clear hr hv h
    go_enter Tryz.func94,Tryz.ntmps94
    go_wp2
    go_ret
    exact ⟨rfl,rfl⟩
  · have hr:nameB c=true:=by rw [hv];simp;omega
    have d1:decide ((97:Int)≤(n:Int))=false:=by simp;omega
    have d2:decide ((n:Int)≤122)=true:=by simp;omega
    have d3:decide ((48:Int)≤(n:Int))=true:=by simp;omega
    have d4:decide ((n:Int)≤57)=true:=by simp;omega
    have d5:((n:Int) == 46)=false:=by simp;omega
    rw [hr]
    clear hr hv h
    go_enter Tryz.func94,Tryz.ntmps94
    go_wp2
    go_ret
    exact ⟨rfl,rfl⟩
  · have hr:nameB c=false:=by rw [hv];simp;omega
    have d1:decide ((97:Int)≤(n:Int))=false:=by simp;omega
    have d2:decide ((n:Int)≤122)=true:=by simp;omega
    have d3:decide ((48:Int)≤(n:Int))=true:=by simp;omega
    have d4:decide ((n:Int)≤57)=false:=by simp;omega
    have d5:((n:Int) == 46)=false:=by simp;omega
    rw [hr]
    clear hr hv h
    go_enter Tryz.func94,Tryz.ntmps94
    go_wp2
    go_ret
    exact ⟨rfl,rfl⟩
  · have hr:nameB c=true:=by rw [hv];simp;omega
    have d1:decide ((97:Int)≤(n:Int))=true:=by simp;omega
    have d2:decide ((n:Int)≤122)=true:=by simp;omega
    have d3:decide ((48:Int)≤(n:Int))=true:=by simp;omega
    have d4:decide ((n:Int)≤57)=false:=by simp;omega
    have d5:((n:Int) == 46)=false:=by simp;omega
    rw [hr]
    clear hr hv h
    go_enter Tryz.func94,Tryz.ntmps94
    go_wp2
    go_ret
    exact ⟨rfl,rfl⟩
  · have hr:nameB c=false:=by rw [hv];simp;omega
    have d1:decide ((97:Int)≤(n:Int))=true:=by simp;omega
    have d2:decide ((n:Int)≤122)=false:=by simp;omega
    have d3:decide ((48:Int)≤(n:Int))=true:=by simp;omega
    have d4:decide ((n:Int)≤57)=false:=by simp;omega
    have d5:((n:Int) == 46)=false:=by simp;omega
    rw [hr]
    clear hr hv h
    go_enter Tryz.func94,Tryz.ntmps94
    go_wp2
    go_ret
    exact ⟨rfl,rfl⟩
set_option maxRecDepth 100000 in
theorem fnRight (x:ByteArray) (w:World) (hx:x.size≤140737488355328):Calls Tryz.prog 64 #[.string x] w fun e w'=>e=.returned (.bool (nameD x))∧w=w':=by
  go_enter Tryz.func64,Tryz.ntmps64
  by_cases h1:x.size<1
  · have d1:decide ((x.size:Int)<1)=true:=by simp;omega
    have HN:Hid (nameD x=false):=hid (by unfold nameD;simp;omega)
    clear h1
    go_wp2
    go_ret
    exact ⟨by rw [HN.out];rfl,rfl⟩
  have d1:decide ((x.size:Int)<1)=false:=by simp;omega
  by_cases h2:32<x.size
  · have d2:decide ((32:Int)<(x.size:Int))=true:=by simp;omega
    have HN:Hid (nameD x=false):=hid (by unfold nameD;simp;omega)
    clear h1 h2
    go_wp2
    go_ret
    exact ⟨by rw [HN.out];rfl,rfl⟩
  have d2:decide ((32:Int)<(x.size:Int))=false:=by simp;omega
  have HND:Hid (nameD x=x.data.toList.all nameB):=hid (by
    unfold nameD
    rw [decide_eq_true (show 1≤x.size by omega),decide_eq_true (show x.size≤32 by omega)]
    simp)
  have H32:Hid (x.size≤32):=hid (by omega)
  clear h1 h2
  go_wp2_with (fail)
  go_loopw [14,3] (fun i _ wr=>∃ k:Nat,k≤x.size∧i=.int .i64 k∧(x.data.toList.take k).all nameB=true∧wr=w) (fun i _ _=>x.size-(intOf i).toNat)
  case atStart=>exact ⟨0,Nat.zero_le _,rfl,rfl,rfl⟩
  case round =>
    obtain ⟨k,hk,rfl,hal,rfl⟩:=hrel
    have HAL:=hid hal
    clear hal
    by_cases hlt:k<x.size
    · skip
      have e1:(k:Int)<(x.size:Int):=by omega
      have HX:Hid (x.data.toList.take (k+1)=x.data.toList.take k++[x[k]]):=hid (by rw [List.take_succ_eq_append_getElem (by simpa using hlt)];rfl)
      have HME:Hid (x[k] ∈ x.data.toList):=hid (List.getElem_mem (l:=x.data.toList) (n:=k) (by simpa using hlt))
      cases hb:nameB x[k]
      · have HN:Hid (nameD x=false):=hid (by rw [HND.out,List.all_eq_false];exact ⟨x[k],HME.out,by rw [hb];decide⟩)
        have HB:=hid hb
        clear hb
        go_wp2_with (fail)
        refine (fnByte x[k] wr).mono ?_
        rintro e w2 ⟨rfl,rfl⟩
        rw [HB.out]
        go_wp2_with (fail)
        go_ret
        exact ⟨by rw [HN.out];rfl,rfl⟩
      · have HN:Hid ((x.data.toList.take (k+1)).all nameB=true):=hid (by rw [HX.out,List.all_append,HAL.out];simp [hb])
        have HB:=hid hb
        clear hb
        go_wp2_with (fail)
        refine (fnByte x[k] wr).mono ?_
        rintro e w2 ⟨rfl,rfl⟩
        rw [HB.out]
        go_wp2_with (fail)
        exact ⟨⟨k+1,by omega,by go_num,HN.out,by trivial⟩,by simp [intOf];omega⟩
    · obtain rfl:k=x.size:=by omega
      have HN:Hid (nameD x=true):=hid (by
        have h:=HAL.out
        rw [List.take_of_length_le (by simp)] at h
        rw [HND.out,h])
      clear hlt
      go_wp2_with (fail)
      go_ret
      exact ⟨by rw [HN.out];rfl,rfl⟩
set_option maxRecDepth 100000 in
theorem dkRoomOk (n:Int) (w:World):Calls Tryz.prog 60 #[.int .i64 n] w fun e w'=>e=.returned (.bool (decide (0≤n) && decide (n≤1073741824)))∧w=w':=by
  by_cases h1:0≤n
  · have d1:decide ((0:Int)≤n)=true:=by simpa using h1
    by_cases h2:n≤1073741824
    · have d2:decide (n≤(1073741824:Int))=true:=by simpa using h2
      rw [d1,d2]
      clear h1 h2
      go_enter Tryz.func60,Tryz.ntmps60
      go_wp2
      go_ret
      exact ⟨rfl,rfl⟩
    · have d2:decide (n≤(1073741824:Int))=false:=by simpa using h2
      rw [d1,d2]
      clear h1 h2
      go_enter Tryz.func60,Tryz.ntmps60
      go_wp2
      go_ret
      exact ⟨rfl,rfl⟩
  · have d1:decide ((0:Int)≤n)=false:=by simpa using h1
    rw [d1]
    clear h1
    go_enter Tryz.func60,Tryz.ntmps60
    go_wp2
    go_ret
    exact ⟨rfl,rfl⟩
def Dk.begin (d:Dk):Dk:={ d with ops:=d.ops+1,armedIn:=if d.armedIn=0 then 0 else d.armedIn-1 }
structure Dk.Ok (d:Dk):Prop where
  room:0≤d.room∧d.room≤1073741824
  used:0≤d.used∧d.used≤1073741824
  ops:0≤d.ops∧d.ops≤1152921504606846976
  failIn:0≤d.failIn∧d.failIn≤9223372036854775807
  armedIn:0≤d.armedIn∧d.armedIn≤9223372036854775807
  armKeep:-9223372036854775808≤d.armKeep∧d.armKeep≤9223372036854775807
set_option maxHeartbeats 1000000 in
set_option maxRecDepth 100000 in
theorem dkBegin {w:World} {B D M:Nat} {d:Dk} {F:List Ent} (h:DkAt w B D M d F) (ok:d.Ok):Calls Tryz.prog 137 #[pD D] w fun e w'=>e=.returned (.bool (d.armedIn == 1))∧DkAt w' B D M d.begin F∧Ch (At1 D) w w':=by
  have c3:w.cell? ⟨D,3,none⟩=some (.int .i64 d.ops):=h.cell 3
  have c5:w.cell? ⟨D,5,none⟩=some (.int .i64 d.armedIn):=h.cell 5
  have f3:=h.frozen 3
  have f5:=h.frozen 5
  have o1:=ok.ops
  have o2:=ok.armedIn
  have e1:wrap64 (d.ops+1)=d.ops+1:=IntWalk.wrap64_in _ (by omega)
  have H:=hid h
  clear h ok
  by_cases ha:d.armedIn=0
  · have d1:(d.armedIn == 0)=true:=by simpa using ha
    have HB:Hid (d.begin={ d with ops:=d.ops+1,armedIn:=d.armedIn }∧(d.armedIn == 1)=false):=hid ⟨by unfold Dk.begin;rw [if_pos ha,ha],by rw [ha];rfl⟩
    clear ha
    go_enter Tryz.func137,Tryz.ntmps137
    go_wp2_with (fail)
    go_ret
    rw [HB.out.1,HB.out.2]
    exact ⟨rfl,H.out.nums ((Ch.refl _ w).set1 3 _) (heap_set_row H.out.row _),(Ch.refl _ w).set1 3 _⟩
  · have d1:(d.armedIn == 0)=false:=by simpa using ha
    have e2:wrap64 (d.armedIn-1)=d.armedIn-1:=IntWalk.wrap64_in _ (by omega)
    have HB:Hid (d.begin={ d with ops:=d.ops+1,armedIn:=d.armedIn-1 }∧(d.armedIn == 1)=(d.armedIn-1 == 0)):=hid ⟨by unfold Dk.begin;rw [if_neg ha],by rw [Bool.eq_iff_iff,beq_iff_eq,beq_iff_eq];omega⟩
    clear ha
    go_enter Tryz.func137,Tryz.ntmps137
    go_wp2_with (fail)
    go_ret
    rw [HB.out.1,HB.out.2]
    exact ⟨rfl,H.out.nums (((Ch.refl _ w).set1 3 _).set1 5 _) (heap_set_row (heap_set_row H.out.row _) _),((Ch.refl _ w).set1 3 _).set1 5 _⟩
set_option maxRecDepth 100000 in
theorem dkLose {w:World} {B D M:Nat} {d:Dk} {F:List Ent} (h:DkAt w B D M d F):Calls Tryz.prog 138 #[pD D] w fun e w'=>e=.panicked [{ v:=crashI d.ops,recovered:=false }]∧w=w':=by
  have c3:w.cell? ⟨D,3,none⟩=some (.int .i64 d.ops):=h.cell 3
  clear h
  go_enter Tryz.func138,Tryz.ntmps138
  go_wp2
  exact ⟨rfl,rfl,rfl⟩
set_option maxRecDepth 100000 in
theorem dkNew (n:Int) (hn:0≤n∧n≤1073741824) (w:World):Calls Tryz.prog 34 #[.int .i64 n] w fun e w'=>∃ D M,e=.returned (.tuple #[pD D,.int .i64 0])∧DkAt w' w.heap.size D M ⟨n,0,0,0,0,0⟩ []∧Below w.heap.size w w':=by
  have d1:decide ((0:Int)≤n)=true:=by simpa using hn.1
  have d2:decide (n≤(1073741824:Int))=true:=by simpa using hn.2
  have hmm:=@run_makeMap Tryz.prog
  clear hn
  go_enter Tryz.func34,Tryz.ntmps34
  go_wp2_with (fail)
  refine (dkRoomOk n w).mono ?_
  rintro e w2 ⟨rfl,rfl⟩
  rw [d1,d2]
  go_wp2_with (fail)
  go_ret2
  refine ⟨w.heap.size+1,w.heap.size,rfl,⟨by omega,Nat.le_refl _,?_,?_,fun e he=>(by cases he),List.Pairwise.nil,List.nodup_nil⟩,((Below.refl _ _).alloc (Nat.le_refl _) _).alloc (by simp) _⟩
  · have:=heap_alloc_new (w.alloc (.map #[] 0)) (dkObj w.heap.size ⟨n,0,0,0,0,0⟩)
    simpa using this
  · exact (MapIs.new (.string) w).below ((Below.refl _ _).alloc (Nat.le_refl _) _)
end
section
open Go.RowKit Go.MapKept
def layF (fs:Fs) (n:ByteArray) (b:List UInt8):Fs:=fput fs n (match fget fs n with | some f=>⟨f.bs++b,f.safe⟩ | none=>⟨b,0⟩)
section
variable {w w1 w2:World} {B D M:Nat} {d:Dk} {F P Q:List Ent}
theorem aset_new (n:ByteArray) (v:Value) (h:∀ e ∈ F,e.nm≠n):aset (mapL F) n v=mapL F++[(n,v)]:=by
  induction F with
  | nil=>rfl
  | cons a r ih =>
    simp only [mapL,List.map_cons,aset,List.cons_append]
    rw [if_neg (fun e=>h a (by simp) e.symm)]
    rw [ih (fun e he=>h e (by simp [he]))]
theorem DkAt.add (h:DkAt w B D M d F) {n:ByteArray} (hn:∀ e ∈ F,e.nm≠n) (hB:B≤w.heap.size) (hm:MapIs (.string) w1 M (aset (mapL F) n (pf w.heap.size))) (hch:Ch (fun k=>k=M) (w.alloc (fObj (.slice none 0 0) 0)) w1) :
    DkAt w1 B D M d (F++⟨n,w.heap.size,.slice none 0 0,⟨[],0⟩⟩ :: [])∧DkCh D M F (F++⟨n,w.heap.size,.slice none 0 0,⟨[],0⟩⟩ :: []) w w1:=by
  have hb0:Below w.heap.size w (w.alloc (fObj (.slice none 0 0) 0)):=(Below.refl _ _).alloc (Nat.le_refl _) _
  have h0:=h.below hb0
  have hMlt:=h.map.lt
  rw [aset_new n _ hn] at hm
  refine ⟨⟨h.hD,h.hM,hch.row h0.row h.neDM.symm,by simpa [mapL] using hm,fun e he=>?_,?_,?_⟩,⟨(Ch.of_below (S:=DFoot D M F) hb0).trans hch (fun k _ hk=>.inr (.inl hk)),fun k hk=>?_⟩⟩
  · rcases List.mem_append.1 he with he|he
    · have h2:=h0.files e he
      exact h2.ch hch (h2.neM h0.map).1 (fun k hk hs=>(h2.neM h0.map).2 (by rw [hk,hs]))
    · obtain rfl:=List.mem_singleton.1 he
      exact ⟨hB,hch.row (heap_alloc_new w _) (by simp only;omega),Own.nil _ _ _⟩
  · rw [List.pairwise_append]
    refine ⟨h.apart,List.pairwise_singleton _ _,fun x hx y hy=>?_⟩
    obtain rfl:=List.mem_singleton.1 hy
    refine ⟨by have:=(h.files x hx).lt;simp only;omega,fun k _ hk=>by simp [Value.ownBlock] at hk⟩
  · rw [List.map_append,List.nodup_append]
    refine ⟨h.names,by simp,fun a ha b hb=>?_⟩
    obtain ⟨e,he,rfl⟩:=List.mem_map.1 ha
    simp only [List.map_cons,List.map_nil,List.mem_singleton] at hb
    subst hb
    exact hn e he
  · obtain ⟨e,he,hk⟩:=hk
    rcases List.mem_append.1 he with he|he
    · exact .inl ⟨e,he,hk⟩
    · obtain rfl:=List.mem_singleton.1 he
      rcases hk with hk|hk
      · exact .inr (by rw [hk];exact Nat.le_refl _)
      · simp [Value.ownBlock] at hk
theorem Bs.neMap {A:Option Addr} {m c:Nat} {l:List UInt8} (h:Bs w A m c l) {L:List (ByteArray × Value)} (hM:MapIs (.string) w M L) (h0:0<m) (b:Addr) (hb:A=some b):¬ b.block=M:=by
  intro e
  obtain ⟨x,o,rfl,_,hc⟩:=h.at_ h0
  injection hb with hb
  subst hb
  obtain ⟨es,ck,hr,_⟩:=hM
  have h1:=hc 0 _ (List.getElem?_eq_getElem (by rw [h.len];exact h0))
  simp only at e
  subst e
  simp [World.cell?,hr] at h1
theorem Bs.neDk {A:Option Addr} {m c:Nat} {l:List UInt8} (h:Bs w A m c l) (hD:w.heap[D]?=some (dkObj M d)) (h0:0<m) (b:Addr) (hb:A=some b):¬ b.block=D:=by
  intro e
  obtain ⟨x,o,rfl,_,hc⟩:=h.at_ h0
  injection hb with hb
  subst hb
  have h1:=hc 0 _ (List.getElem?_eq_getElem (by rw [h.len];exact h0))
  simp only at e
  subst e
  rw [cell_of_row w x _ _ _ _ hD] at h1
  rcases o with _|_|_|_|_|_|_|o <;> simp [dkCells] at h1
theorem DkAt.laid {nm:ByteArray} {g:Nat} {v v':Value} {f:Fl} {l:List UInt8} (h:DkAt w1 B D M d (P++⟨nm,g,v,f⟩ :: Q)) (ho:Own 5 w2 B v' (f.bs++l)) (hgr:w1.grownBy w2 v.ownBlock) (hfr:v'.ownBlock=v.ownBlock∨v'.ownBlock=some w1.heap.size) :
    (w2.heap[g]?=some (fObj v f.safe)∧w2.heap[D]?=some (dkObj M d))∧∀ u:Int,DkAt ((w2.setCell ⟨g,0,none⟩ v').setCell ⟨D,2,none⟩ (.int .i64 u)) B D M { d with used:=u } (P++⟨nm,g,v',⟨f.bs++l,f.safe⟩⟩ :: Q) ∧
      DkCh D M (P++⟨nm,g,v,f⟩ :: Q) (P++⟨nm,g,v',⟨f.bs++l,f.safe⟩⟩ :: Q) w1 ((w2.setCell ⟨g,0,none⟩ v').setCell ⟨D,2,none⟩ (.int .i64 u)):=by
  have he:=h.files ⟨nm,g,v,f⟩ (by simp)
  have hne:=own_ne he.own he.row (by decide)
  have hch0:Ch (fun k=>v.ownBlock=some k) w1 w2:=Ch.of_grown hgr (fun k hk=>hk)
  have hr2:w2.heap[g]?=some (fObj v f.safe):=hch0.row he.row (fun hs=>hne hs.symm)
  have hch:Ch (fun k=>k=g∨v.ownBlock=some k) w1 (w2.setCell ⟨g,0,none⟩ v'):=((Ch.refl (fun k=>k=g∨v.ownBlock=some k) w1).trans hch0 (fun _ _ hk=>.inr hk)).set (a:=⟨g,0,none⟩) (.inl rfl) v'
  have hne2:v'.ownBlock≠some g:=by
    rcases hfr with hf|hf
    · rw [hf];exact hne.symm
    · rw [hf];intro e;injection e with e;have:=he.lt;simp only at this;omega
  obtain ⟨h1,h2⟩:=h.file hch v' ⟨f.bs++l,f.safe⟩ (heap_set_row hr2 v') (ho.ch ((Ch.refl (fun k=>k=g) w2).set (a:=⟨g,0,none⟩) rfl v') (fun k hk hs=>hne2 (by rw [hk,hs]))) (fun k hk=>by
    rcases hfr with hf|hf
    · exact .inl (by rw [← hf];exact hk)
    · rw [hf] at hk;injection hk with hk;exact .inr (by omega))
  have hr3:w2.heap[D]?=some (dkObj M d):=hch0.row h.row (fun hs=>(he.neD h.row).2 hs)
  refine ⟨⟨hr2,hr3⟩,fun u=>?_⟩
  have h3:=h1.nums (d':={ d with used:=u }) ((Ch.refl (At1 D) _).set1 2 (.int .i64 u)) (heap_set_row h1.row _)
  exact ⟨h3,h2.trans (DkCh.of1 ((Ch.refl (At1 D) _).set1 2 _))⟩
end
set_option maxHeartbeats 2000000 in
set_option maxRecDepth 100000 in
theorem dkLay {w:World} {B D M:Nat} {d:Dk} {F:List Ent} (h:DkAt w B D M d F) (hu:0≤d.used∧d.used≤1073741824) (nm:ByteArray) (A:Option Addr) (m c:Nat) (l:List UInt8) (hl:Bs w A m c l) (hm:d.used+(m:Int)≤1073741824) (hlen:∀ e ∈ F,e.f.bs.length≤1073741824) (hBw:B≤w.heap.size) :
    Calls Tryz.prog 177 #[pD D,.string nm,.slice A m c] w fun e w'=>e=.returned (.tuple #[])∧∃ F',DkAt w' B D M { d with used:=d.used+(m:Int) } F'∧DkCh D M F F' w w'∧fsOf F'=layF (fsOf F) nm l:=by
  have c0':w.cell? ⟨D,0,none⟩=some (.map (some M)):=h.cell 0
  have hz:(zeroValue 119).run Tryz.prog w=.ok (.pointer none) w:=by kernel_rfl
  have e1:wrap64 (d.used+(m:Int))=d.used+(m:Int):=IntWalk.wrap64_in _ (by omega)
  have HM:=hid hm
  have HBS:=hid hl
  have HBW:=hid hBw
  have H:=hid h
  have HU:=hid hu
  have tok1:Hid True:=hid trivial
  have tok2:Hid True:=hid trivial
  have tok3:Hid True:=hid trivial
  rcases aget_split F nm with ⟨hno,hne⟩|⟨P,e,Q,rfl,rfl,hyes,hfirst⟩
  · have HNO:=hid hno
    have HNE:=hid hne
    have hDlt:=h.lt
    have hDne:D≠w.heap.size:=by omega
    have hMr:(w.alloc (.cells #[.slice none 0 0,.int .i64 0] 121)).cell? ⟨D,0,none⟩=some (.map (some M)):=(h.below ((Below.refl _ _).alloc (Nat.le_refl _) _)).cell 0
    have HMA:Hid (MapIs (.string) (w.alloc (fObj (.slice none 0 0) 0)) M (mapL F)):=hid (h.map.below ((Below.refl _ _).alloc (Nat.le_refl _) _))
    clear h hno hne hlen hm hl hBw hu
    go_enter Tryz.func177,Tryz.ntmps177
    go_wp2_with (first
      | (at_lookup;have _t:=tok1;refine wpList_lookupL rfl (keyString Tryz.underlying9) (.tmp 10) (.tmp 11) 116 119 false rfl Tryz.underlying116 M (mapL F) rfl H.out.map nm rfl (.pointer none) hz ?_;rw [HNO.out];simp only [Option.getD_none,Bool.false_eq_true,if_false];clear tok1 _t)
      | (have _t:=tok2;refine wpList_updateL rfl (keyString Tryz.underlying9) (.tmp 20) (.tmp 21) (.tmp 22) 116 119 (.inl rfl) Tryz.underlying116 M (mapL F) rfl HMA.out nm rfl (pf w.heap.size) rfl ?_;intro w1 hm1 hch1 hsz1;have HAD:=hid (H.out.add HNE.out HBW.out hm1 hch1);have HSZ:Hid (B≤w1.heap.size):=hid (by have:=HAD.out.2.ch.size;have:=HBW.out;omega);have HB1:Hid (Bs w1 A m c l):=hid ((HBS.out.alloc _).ch hch1 (fun h0 b hb=>(HBS.out.alloc _).neMap HMA.out h0 b hb));have HFA:=hid (HAD.out.1.files ⟨nm,w.heap.size,.slice none 0 0,⟨[],0⟩⟩ (by simp));have y0:w1.cell? ⟨w.heap.size,0,none⟩=some (.slice none 0 0):=HFA.out.cell 0;have y1:w1.frozen? ⟨w.heap.size,0,none⟩=false:=HFA.out.frozen 0;clear tok2 hm1 hch1 hsz1 _t)
      | (at_builtin;have _t:=tok3;go_loud ((refine wpList_appL rfl (.tmp 27) (.tmp 28) rfl B (.slice none 0 0) [] rfl HFA.out.own A m c l rfl HB1.out (by have:=HM.out;have:=HU.out;rw [List.length_nil];omega) HSZ.out ?_;intro v' w2 hown hgr hfr;have HLD:=hid (HAD.out.1.laid (l:=l) hown hgr hfr);obtain ⟨A2,c2,rfl⟩:=own_form hown;have z0:w2.cell? ⟨w.heap.size,0,none⟩=some (.slice none 0 0):=cell_of_row _ _ 0 _ _ _ HLD.out.1.1;have z1:w2.frozen? ⟨w.heap.size,0,none⟩=false:=(by simp [World.frozen?,HLD.out.1.1]);have z2:w2.cell? ⟨D,2,none⟩=some (.int .i64 d.used):=cell_of_row _ _ 2 _ _ _ HLD.out.1.2;have z3:w2.frozen? ⟨D,2,none⟩=false:=(by simp [World.frozen?,HLD.out.1.2]);clear tok3 hown hgr hfr _t))))
    go_end0
    refine ⟨rfl,_,(HLD.out.2 (d.used+(m:Int))).1,HAD.out.2.trans (HLD.out.2 (d.used+(m:Int))).2,?_⟩
    unfold layF
    rw [fget_none HNE.out,fput_none _ HNE.out]
    simp
  · obtain ⟨nm,g,v,f⟩:=e
    simp only at *
    have HYES:=hid hyes
    have HLEN:Hid (f.bs.length≤1073741824):=hid (hlen ⟨nm,g,v,f⟩ (by simp))
    have HFA:=hid (h.files ⟨nm,g,v,f⟩ (by simp))
    obtain ⟨A0,c0,hv⟩:=own_form (show w.ownsRow B 5 1 v f.bs.length (u8s f.bs) from HFA.out.own)
    subst hv
    have y0:w.cell? ⟨g,0,none⟩=some (.slice A0 f.bs.length c0):=HFA.out.cell 0
    have HFI:=hid hfirst
    clear h hyes hfirst hlen hm hl hBw hu
    go_enter Tryz.func177,Tryz.ntmps177
    go_wp2_with (first
      | (at_lookup;have _t:=tok1;refine wpList_lookupL rfl (keyString Tryz.underlying9) (.tmp 10) (.tmp 11) 116 119 false rfl Tryz.underlying116 M (mapL (P++⟨nm,g,.slice A0 f.bs.length c0,f⟩ :: Q)) rfl H.out.map nm rfl (.pointer none) hz ?_;rw [HYES.out];simp only [Option.getD_some,Bool.false_eq_true,if_false];clear tok1 _t)
      | (at_builtin;have _t:=tok3;go_loud ((refine wpList_appL rfl (.tmp 27) (.tmp 28) rfl B (.slice A0 f.bs.length c0) f.bs rfl HFA.out.own A m c l rfl HBS.out (by have:=HM.out;have:=HU.out;have:=HLEN.out;omega) HBW.out ?_;intro v' w2 hown hgr hfr;have HLD:=hid (H.out.laid (l:=l) hown hgr hfr);obtain ⟨A2,c2,rfl⟩:=own_form hown;have z0:w2.cell? ⟨g,0,none⟩=some (.slice A0 f.bs.length c0):=cell_of_row _ _ 0 _ _ _ HLD.out.1.1;have z1:w2.frozen? ⟨g,0,none⟩=false:=(by simp [World.frozen?,HLD.out.1.1]);have z2:w2.cell? ⟨D,2,none⟩=some (.int .i64 d.used):=cell_of_row _ _ 2 _ _ _ HLD.out.1.2;have z3:w2.frozen? ⟨D,2,none⟩=false:=(by simp [World.frozen?,HLD.out.1.2]);clear tok3 hown hgr hfr _t))))
    go_end0
    have hld:=HLD.out.2 (d.used+(m:Int))
    rw [List.length_append] at hld
    refine ⟨rfl,_,hld.1,hld.2,?_⟩
    unfold layF
    rw [fget_at HFI.out,fput_at (e:=⟨nm,g,_,f⟩) _ HFI.out]
def appN (d:Dk) (m:Nat):Nat:=min m (d.room-d.used).toNat
def appK (d:Dk) (m:Nat):Nat:=min (appN d m) d.armKeep.toNat
def FileLens (F:List Ent):Prop:=∀ e ∈ F,e.f.bs.length≤1073741824
set_option maxHeartbeats 2000000 in
set_option maxRecDepth 100000 in
theorem dkAppend_name (w:World) (D:Nat) (nm:ByteArray) (hs:nm.size≤140737488355328) (hn:nameD nm=false) (A:Option Addr) (m c:Nat) :
    Calls Tryz.prog 155 #[pD D,.string nm,.slice A m c] w fun e w'=>e=.returned (.tuple #[.int .i64 0,.int .i64 16])∧w=w':=by
  have HN:=hid hn
  clear hn
  go_enter Tryz.func155,Tryz.ntmps155
  go_wp2_with (fail)
  refine (fnRight nm w hs).mono ?_
  rintro e w1 ⟨rfl,rfl⟩
  rw [HN.out]
  go_wp2_with (fail)
  go_ret2
  exact ⟨rfl,rfl⟩
set_option maxHeartbeats 2000000 in
set_option maxRecDepth 100000 in
theorem dkAppend_ok {w:World} {B D M:Nat} {d:Dk} {F:List Ent} (h:DkAt w B D M d F) (ok:d.Ok) (hlen:FileLens F) (nm:ByteArray) (hn:nameD nm=true) (hs:nm.size≤140737488355328) (A:Option Addr) (m c:Nat) (l:List UInt8) (hl:Bs w A m c l) (hBw:B≤w.heap.size) (ha:d.armedIn≠1) :
    Calls Tryz.prog 155 #[pD D,.string nm,.slice A m c] w fun e w'=>e=.returned (.tuple #[.int .i64 (appN d m),.int .i64 (if appN d m<m then 4 else 0)])∧∃ F',DkAt w' B D M { d.begin with used:=d.used+(appN d m:Int) } F'∧DkCh D M F F' w w'∧fsOf F'=layF (fsOf F) nm (l.take (appN d m)):=by
  have c1:w.cell? ⟨D,1,none⟩=some (.int .i64 d.room):=h.cell 1
  have c2:w.cell? ⟨D,2,none⟩=some (.int .i64 d.used):=h.cell 2
  have o1:=ok.room
  have o2:=ok.used
  have e1:wrap64 (d.room-d.used)=d.room-d.used:=IntWalk.wrap64_in _ (by omega)
  obtain ⟨n,hnn⟩:∃ n,n=appN d m:=⟨_,rfl⟩
  have hmn:min (m:Int) (max 0 (d.room-d.used))=(n:Int):=by rw [hnn];unfold appN;omega
  have hnm:n≤m:=by rw [hnn];unfold appN;omega
  have hnu:d.used+(n:Int)≤1073741824:=by rw [hnn];unfold appN;omega
  rw [← hnn]
  have hml:=hl.nmax
  have hmc:=hl.le
  have HN:=hid hn
  have H:=hid h
  have OK:=hid ok
  have HBS:=hid hl
  have HBW:=hid hBw
  have HLEN:=hid hlen
  have HA:Hid ((d.armedIn == 1)=false):=hid (by simpa using ha)
  have HNU:=hid hnu
  have HNM:=hid hnm
  clear h ok hl hBw hlen ha hn hnn hnu
  go_enter Tryz.func155,Tryz.ntmps155
  go_wp2_with (fail)
  refine (fnRight nm w hs).mono ?_
  rintro e w1 ⟨rfl,rfl⟩
  rw [HN.out]
  go_wp2_with (fail)
  go_region
  all_goals
    have hdr:Below w.heap.size w w.drew:=(Below.refl _ w).drew
    have H0:=hid (H.out.below hdr)
    have HBS0:=hid (HBS.out.below hdr)
    have HSZ0:Hid (B≤w.drew.heap.size):=HBW
    have HCH0:Hid (DkCh D M F F w w.drew):=hid (DkCh.of_below hdr)
    clear c1 c2
    generalize w.drew=w0 at *
    go_wp2_with (fail)
    refine (dkBegin H0.out OK.out).mono ?_
    rintro e w2 ⟨rfl,h2,hc2⟩
    rw [HA.out]
    have H2:=hid h2
    have HBS2:=hid ((HBS0.out.ch hc2 (HBS0.out.neDk H0.out.row)).take HNM.out)
    have HSZ2:Hid (B≤w2.heap.size):=hid (Nat.le_trans HSZ0.out hc2.size)
    have HCH2:=hid (HCH0.out.trans (DkCh.of1 hc2))
    clear h2 hc2
    have hnc:(n:Int)≤(c:Int):=by omega
    go_wp2_with (fail)
    refine (dkLay H2.out (show 0≤d.begin.used∧d.begin.used≤1073741824 from OK.out.used) nm A n c (l.take n) HBS2.out HNU.out HLEN.out HSZ2.out).mono ?_
    rintro e w3 ⟨rfl,F',h3,hc3,hf3⟩
    have HR:Hid (∃ F',DkAt w3 B D M { d.begin with used:=d.used+(n:Int) } F'∧DkCh D M F F' w w3∧fsOf F'=layF (fsOf F) nm (l.take n)):=hid ⟨F',h3,HCH2.out.trans hc3,hf3⟩
    clear h3 hc3 hf3
    by_cases hlt:n<m
    · have d1:decide ((n:Int)<(m:Int))=true:=by simpa using hlt
      have HLT:=hid hlt
      clear hlt
      go_wp2_with (fail)
      go_ret2
      exact ⟨rfl,HR.out⟩
    · have d1:decide ((n:Int)<(m:Int))=false:=by simpa using hlt
      have HLT:=hid hlt
      clear hlt
      go_wp2_with (fail)
      go_ret2
      exact ⟨rfl,HR.out⟩
set_option maxHeartbeats 2000000 in
set_option maxRecDepth 100000 in
theorem dkAppend_lost {w:World} {B D M:Nat} {d:Dk} {F:List Ent} (h:DkAt w B D M d F) (ok:d.Ok) (hlen:FileLens F) (nm:ByteArray) (hn:nameD nm=true) (hs:nm.size≤140737488355328) (A:Option Addr) (m c:Nat) (l:List UInt8) (hl:Bs w A m c l) (hBw:B≤w.heap.size) (ha:d.armedIn=1) :
    Calls Tryz.prog 155 #[pD D,.string nm,.slice A m c] w fun e w'=>e=.panicked [{ v:=crashI (d.ops+1),recovered:=false }]∧∃ F',DkAt w' B D M { d.begin with used:=d.used+(appK d m:Int) } F'∧DkCh D M F F' w w'∧fsOf F'=layF (fsOf F) nm (l.take (appK d m)):=by
  have c1:w.cell? ⟨D,1,none⟩=some (.int .i64 d.room):=h.cell 1
  have c2:w.cell? ⟨D,2,none⟩=some (.int .i64 d.used):=h.cell 2
  have o1:=ok.room
  have o2:=ok.used
  have e1:wrap64 (d.room-d.used)=d.room-d.used:=IntWalk.wrap64_in _ (by omega)
  obtain ⟨n,hnn⟩:∃ n,n=appN d m:=⟨_,rfl⟩
  have hmn:min (m:Int) (max 0 (d.room-d.used))=(n:Int):=by rw [hnn];unfold appN;omega
  have hnm:n≤m:=by rw [hnn];unfold appN;omega
  have hnu:d.used+(n:Int)≤1073741824:=by rw [hnn];unfold appN;omega
  obtain ⟨q,hq⟩:∃ q,q=appK d m:=⟨_,rfl⟩
  have hmq:min (n:Int) (max 0 d.armKeep)=(q:Int):=by rw [hq];unfold appK;rw [← hnn];omega
  have hqn:q≤n:=by rw [hq,hnn];unfold appK;omega
  have HQN:=hid hqn
  have HQU:Hid (d.used+(q:Int)≤1073741824):=hid (by omega)
  rw [← hq]
  clear hq
  have hml:=hl.nmax
  have hmc:=hl.le
  have HN:=hid hn
  have H:=hid h
  have OK:=hid ok
  have HBS:=hid hl
  have HBW:=hid hBw
  have HLEN:=hid hlen
  have HA:Hid ((d.armedIn == 1)=true):=hid (by simpa using ha)
  have HNU:=hid hnu
  have HNM:=hid hnm
  clear h ok hl hBw hlen ha hn hnn hnu
  go_enter Tryz.func155,Tryz.ntmps155
  go_wp2_with (fail)
  refine (fnRight nm w hs).mono ?_
  rintro e w1 ⟨rfl,rfl⟩
  rw [HN.out]
  go_wp2_with (fail)
  go_region
  all_goals
    have hdr:Below w.heap.size w w.drew:=(Below.refl _ w).drew
    have H0:=hid (H.out.below hdr)
    have HBS0:=hid (HBS.out.below hdr)
    have HSZ0:Hid (B≤w.drew.heap.size):=HBW
    have HCH0:Hid (DkCh D M F F w w.drew):=hid (DkCh.of_below hdr)
    clear c1 c2
    generalize w.drew=w0 at *
    go_wp2_with (fail)
    refine (dkBegin H0.out OK.out).mono ?_
    rintro e w2 ⟨rfl,h2,hc2⟩
    rw [HA.out]
    have H2:=hid h2
    have HBS2:=hid ((HBS0.out.ch hc2 (HBS0.out.neDk H0.out.row)).take (Nat.le_trans HQN.out HNM.out))
    have HSZ2:Hid (B≤w2.heap.size):=hid (Nat.le_trans HSZ0.out hc2.size)
    have HCH2:=hid (HCH0.out.trans (DkCh.of1 hc2))
    have c6:w2.cell? ⟨D,6,none⟩=some (.int .i64 d.armKeep):=h2.cell 6
    clear h2 hc2
    have hqc:(q:Int)≤(c:Int):=by omega
    go_wp2_with (fail)
    refine (dkLay H2.out (show 0≤d.begin.used∧d.begin.used≤1073741824 from OK.out.used) nm A q c (l.take q) HBS2.out HQU.out HLEN.out HSZ2.out).mono ?_
    rintro e w3 ⟨rfl,F',h3,hc3,hf3⟩
    have HR:Hid (∃ F',DkAt w3 B D M { d.begin with used:=d.used+(q:Int) } F'∧DkCh D M F F' w w3∧fsOf F'=layF (fsOf F) nm (l.take q)):=hid ⟨F',h3,HCH2.out.trans hc3,hf3⟩
    have H3:=hid h3
    clear h3 hc3 hf3 c6
    go_wp2_with (fail)
    refine (dkLose H3.out).mono ?_
    rintro e w4 ⟨rfl,rfl⟩
    go_wp2_with (fail)
    exact ⟨rfl,rfl,HR.out⟩
end
end Go.Proofs.YtodjilljcjkacaaGreatDoor
