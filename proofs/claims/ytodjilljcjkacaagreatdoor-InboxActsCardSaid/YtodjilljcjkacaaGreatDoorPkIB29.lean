/- Laid together: AccM, HdRow, Acc1, Frame2, FrameWrapA. -/
import Derived.Test.YtodjilljcjkacaaGreatDoorPkIB28
import Derived.Laws.Rows
import Derived.Laws.ResultCell
import Derived.Laws.CopyOwn
import Derived.Deep.Quiet
import Derived.Deep.RegionHeld3

namespace Go.Proofs.YtodjilljcjkacaaGreatDoor
open Lib (hid)
section
open Go.RowKit
def seg1 (l:List UInt8):List UInt8:=if Lib.indexByte l 13<0 then l else l.take (Lib.indexByte l 13).toNat
theorem indexByte_lt (l:List UInt8) (c:UInt8):Lib.indexByte l c<(l.length:Int):=by
  induction l with
  | nil=>simp [Lib.indexByte]
  | cons b l ih =>
    unfold Lib.indexByte
    split
    · simp
    · split
      · simp;omega
      · simp;omega
theorem indexByte_front {m:List UInt8} {c:UInt8} (h:c ∉ m) (r:List UInt8):Lib.indexByte (m++c :: r) c=(m.length:Int):=by
  induction m with
  | nil=>simp [Lib.indexByte]
  | cons b m ih =>
    simp only [List.mem_cons,not_or] at h
    rw [List.cons_append]
    unfold Lib.indexByte
    rw [if_neg (by simpa using fun e=>h.1 e.symm),ih h.2]
    rw [if_neg (by simp)]
    simp
theorem seg1_front {m:List UInt8} (h:(13:UInt8) ∉ m) (r:List UInt8):seg1 (m++13 :: r)=m:=by
  unfold seg1
  rw [indexByte_front h r,if_neg (by omega)]
  simp
theorem seg1_none {m:List UInt8} (h:(13:UInt8) ∉ m):seg1 m=m:=by
  unfold seg1
  rw [indexByte_neg h,if_pos (by decide)]
theorem seg1_cases (l:List UInt8):((13:UInt8) ∉ l∧seg1 l=l)∨∃ r,(13:UInt8) ∉ seg1 l∧l=seg1 l++13 :: r:=by
  by_cases h:(13:UInt8) ∈ l
  · right
    obtain ⟨m,r,rfl,hm⟩:=List.eq_append_cons_of_mem h
    exact ⟨r,by rw [seg1_front hm];exact hm,by rw [seg1_front hm]⟩
  · exact .inl ⟨h,seg1_none h⟩
theorem seg1_sub (l:List UInt8):∀ y ∈ seg1 l,y ∈ l:=by
  intro y hy
  unfold seg1 at hy
  split at hy
  · exact hy
  · exact List.mem_of_mem_take hy
def codeOf (e:Int):ByteArray:=if e=0 then cB 0 else if e=14 then cB 1 else cB 2
def verdictD (l:List UInt8):Hd × ByteArray × Int :=
  if (readH l).2=0 then if (28:UInt8) ∈ seg1 l then (Hd.zero,⟨#[]⟩,10) else ((readH l).1,codeOf (checkD (readH l).1),checkD (readH l).1)
  else (Hd.zero,⟨#[]⟩,(readH l).2)
theorem checkD_cases (h:Hd):checkD h=0∨checkD h=14∨checkD h=12∨checkD h=13:=by
  unfold checkD
  split
  · exact .inr (.inl rfl)
  · split
    · exact .inr (.inr (.inl rfl))
    · split
      · exact .inr (.inr (.inr rfl))
      · exact .inl rfl
theorem seg0_seg1 {l:List UInt8} (h:(readD l).2=0):(splitD l).getD 0 []=seg1 l:=by
  have hl:=readD_long h
  rcases seg1_cases l with ⟨h1,h2⟩|⟨r,h1,h2⟩
  · rw [h2]
    unfold splitD
    rw [cutAt_none 13 l h1]
    cases l with
    | nil=>simp at hl
    | cons b l=>simp
  · obtain ⟨m,hm⟩:∃ m,m=seg1 l:=⟨_,rfl⟩
    rw [← hm] at h1 h2 ⊢
    rw [h2]
    rw [splitD_cons m r h1]
    rfl
theorem texts_seg1 {l:List UInt8} {h:Hd} (hr:readH l=(h,0)):∀ b ∈ h.l,∀ y ∈ b.data.toList,y ∈ seg1 l:=by
  unfold readH at hr
  split at hr
  · rename_i h0
    split at hr
    · rw [seg0_seg1 h0] at hr
      obtain ⟨seg,hseg⟩:∃ seg,seg=seg1 l:=⟨_,rfl⟩
      rw [← hseg] at hr ⊢
      injection hr with hr _
      obtain ⟨d,hd⟩:∃ d,d=(readD l).1:=⟨_,rfl⟩
      rw [← hd] at hr
      subst hr
      have key:∀ i,∀ y ∈ (textsD (fieldsD (txt seg) d.a) i).data.toList,y ∈ seg:=fun i=>by
        obtain ⟨h1,h2,h3⟩:=fields_mem seg d.a (i+1)
        have e:textsD (fieldsD (txt seg) d.a) i=txt ((fieldsD (txt seg) d.a).getD (i+1+1) []):=by unfold textsD;rw [show 2+i=i+1+1 by omega]
        rw [e]
        exact h3
      intro b hb
      rw [hdTo_l] at hb
      simp only [List.mem_cons,List.not_mem_nil,or_false] at hb
      rcases hb with rfl|rfl|rfl|rfl|rfl|rfl|rfl|rfl|rfl|rfl
      · exact key 0
      · exact key 1
      · exact key 2
      · exact key 3
      · exact key 4
      · exact key 5
      · exact key 6
      · exact key 7
      · exact key 8
      · exact key 9
    · injection hr with _ h2
      cases h2
  · rename_i h0
    injection hr with _ h2
    exact absurd h2 h0
theorem segH_free {g:Hd} {z:UInt8} (hz:z ∉ ([77,83,72]:List UInt8)) (hs:z ∉ g.d.l) (ht:∀ b ∈ g.l,z ∉ b.data.toList):z ∉ segH g:=by
  rw [segH_eq]
  intro hm
  rcases List.mem_append.1 hm with hm|hm
  · simp only [List.mem_cons,List.not_mem_nil,or_false] at hm hz
    rcases hm with e|e|e|hm
    · exact hz (.inl e)
    · exact hz (.inr (.inl e))
    · exact hz (.inr (.inr e))
    · exact hs (by simpa [Sgn.l] using hm)
  · unfold Lib.joinTail at hm
    obtain ⟨y,hy,hm⟩:=List.mem_flatten.1 hm
    obtain ⟨x,hx,rfl⟩:=List.mem_map.1 hy
    rcases List.mem_append.1 hm with hm|hm
    · exact hs (by rw [List.mem_singleton.1 hm];simp [Sgn.l])
    · obtain ⟨b,hb,rfl⟩:=List.mem_map.1 (List.mem_of_mem_take hx)
      exact ht b hb hm
theorem sign_free {s:Sgn} (h:s.good=true) {z:UInt8} (hz:isSign z.toNat=false):z ∉ s.l:=fun hm=>by
  have:=(good_signs h).1 z hm
  rw [hz] at this
  cases this
def replyD (l:List UInt8) (kept:Bool):List UInt8 × Bool :=
  if (verdictD l).2.1=⟨#[]⟩∨good l=false then ([],false)
  else (11 :: ((buildD (verdictD l).1 (if (verdictD l).2.1=cB 0∧kept=false then cB 1 else (verdictD l).2.1)).1++[28,13]),true)
theorem codeOf_ne (e:Int):codeOf e≠⟨#[]⟩∧codeD (codeOf e)=true∧(codeOf e).size=2:=by
  unfold codeOf
  split
  · decide +kernel
  · split <;> decide +kernel
theorem verdict_some {l:List UInt8} (h:(verdictD l).2.1≠⟨#[]⟩):∃ g,readH l=(g,0)∧(28:UInt8) ∉ seg1 l∧verdictD l=(g,codeOf (checkD g),checkD g):=by
  unfold verdictD at h ⊢
  split at h
  · rename_i h0
    rw [if_pos h0]
    split at h
    · exact absurd rfl h
    · rename_i h28
      rw [if_neg h28]
      exact ⟨(readH l).1,by rw [← h0],h28,rfl⟩
  · exact absurd rfl h
theorem answer_good {l:List UInt8} {g:Hd} (hr:readH l=(g,0)) (h28:(28:UInt8) ∉ seg1 l) (hl:good l=true) {c:ByteArray} (hc:codeD c=true) :
    buildD g c=(segH (ansH g)++13 :: (makeD msaB g.d.a [c.data.toList,g.a7.data.toList]++[13]),0)∧good (buildD g c).1=true:=by
  obtain ⟨hg,hs,_⟩:=read_stands hr
  have ht:=texts_seg1 hr
  have hca:=good_a hg
  have hack:standD g.d.a ⟨#[65,67,75]⟩=true:=by
    simp only [standD,Bool.and_eq_true,Bool.not_eq_true']
    constructor
    · rw [← Bool.not_eq_true,List.contains_iff_mem]
      intro hm
      simp only [List.mem_cons,List.not_mem_nil,or_false] at hm
      rcases hm with e|e|e <;> exact sign_no_letter hca _ (by decide) e
    · decide
  have hnil:standD g.d.a ⟨#[]⟩=true:=by simp [standD]
  have hsa:(ansH g).l.all (standD g.d.a)=true:=by
    rw [ansH_l]
    simp only [Hd.l,List.all_cons,List.all_nil,Bool.and_true,Bool.and_eq_true] at hs ⊢
    obtain ⟨h0,h1,h2,h3,h4,h5,h6,h7,h8,h9⟩:=hs
    exact ⟨h2,h3,h0,h1,h4,hnil,hack,h7,h8,h9⟩
  have e:buildD g c=(segH (ansH g)++13 :: (makeD msaB g.d.a [c.data.toList,g.a7.data.toList]++[13]),0):=by
    unfold buildD
    rw [if_pos hc,writeH_good (h:=ansH g) hg hsa,if_pos rfl]
    simp [joinD]
  refine ⟨e,?_⟩
  rw [e]
  have free:∀ z:UInt8,isSign z.toNat=false→z ∉ ([77,83,72,65,67,75,13]:List UInt8)→z ∉ c.data.toList→z ∉ seg1 l→z ∉ segH (ansH g)++13 :: (makeD msaB g.d.a [c.data.toList,g.a7.data.toList]++[13]):=by
    intro z hz hk hzc hzs hm
    have hsg:=sign_free hg hz
    have htx:∀ b ∈ g.l,z ∉ b.data.toList:=fun b hb hy=>hzs (ht b hb z hy)
    simp only [List.mem_cons,List.not_mem_nil,or_false,not_or] at hk
    obtain ⟨k1,k2,k3,k4,k5,k6,k7⟩:=hk
    have hans:∀ b ∈ (ansH g).l,z ∉ b.data.toList:=by
      intro b hb
      rw [ansH_l] at hb
      simp only [List.mem_cons,List.not_mem_nil,or_false] at hb
      have m:∀ x,x ∈ g.l→z ∉ x.data.toList:=htx
      rcases hb with rfl|rfl|rfl|rfl|rfl|rfl|rfl|rfl|rfl|rfl
      · exact m _ (by simp [Hd.l])
      · exact m _ (by simp [Hd.l])
      · exact m _ (by simp [Hd.l])
      · exact m _ (by simp [Hd.l])
      · exact m _ (by simp [Hd.l])
      · simp
      · simp [k4,k5,k6]
      · exact m _ (by simp [Hd.l])
      · exact m _ (by simp [Hd.l])
      · exact m _ (by simp [Hd.l])
    rcases List.mem_append.1 hm with hm|hm
    · exact segH_free (g:=ansH g) (by simp [k1,k2,k3]) hsg hans hm
    · rcases List.mem_cons.1 hm with hm|hm
      · exact k7 hm
      · rcases List.mem_append.1 hm with hm|hm
        · rw [makeD_two] at hm
          have ha:z≠g.d.a:=fun e=>hsg (by rw [e];simp [Sgn.l])
          simp only [Lib.joinTail,List.map_cons,List.map_nil,List.flatten_cons,List.flatten_nil,List.append_nil,List.mem_append,List.mem_cons,List.not_mem_nil,or_false] at hm
          rcases hm with (e|e|e)|(e|e)|(e|e)
          · exact k1 e
          · exact k2 e
          · exact k4 e
          · exact ha e
          · exact hzc e
          · exact ha e
          · exact htx g.a7 (by simp [Hd.l]) e
        · exact k7 (List.mem_singleton.1 hm)
  have hcc:∀ z:UInt8,z ∈ c.data.toList→z=65∨z=69∨z=82:=by
    intro z hz
    rcases code_mem hc with rfl|rfl|rfl <;> simp [cB] at hz <;> rcases hz with rfl|rfl <;> simp
  have f11:=free 11 (by decide) (by decide) (fun hm=>by rcases hcc _ hm with e | e | e <;> exact absurd e (by decide)) (fun hm=>good_no_start hl (seg1_sub l _ hm))
  have f28:=free 28 (by decide) (by decide) (fun hm=>by rcases hcc _ hm with e | e | e <;> exact absurd e (by decide)) h28
  refine good_of f11 (fun i hi=>?_)
  unfold badAt
  obtain ⟨X,hX⟩:∃ X,X=segH (ansH g)++13 :: (makeD msaB g.d.a [c.data.toList,g.a7.data.toList]++[13]):=⟨_,rfl⟩
  rw [← hX] at f28 hi ⊢
  have hne:X[i]?≠some 28:=fun e=>f28 (List.mem_of_getElem? e)
  simp [hne]
end
section
open Go.RowKit
theorem head_size:(Tryz.prog.info? TH).map (·.size)=some 15:=by kernel_rfl
theorem cells_one (h:Hd):h.cells.all (·.oneCell')=true:=by kernel_rfl
theorem BoxH.setRow {h0:Hd} {g:Nat} {w:World} (k:BoxH h0 g w) (h:Hd):BoxH h g (w.setRow g h.cells):=setRow_heap w g _ _ _ _ k
theorem BoxH.setRow_other {h:Hd} {g t:Nat} {w:World} (k:BoxH h g w) (hne:g≠t) (c:Array Value):BoxH h g (w.setRow t c):=(_root_.Go.setRow_other w t g c hne).trans k
theorem wp_storeH {dst:Option Tmp} {x y:Operand} {ty:TypeId} {pos:String} {af} {a:Act} {w:World} {K:Act→World→Prop} {Q:Exit→Act→World→Prop} {gd}
    (g:Nat) (h h0:Hd) (hx:a.eval x=.pointer (some ⟨g,0,none⟩)) (hy:a.eval y=h.v) (k:BoxH h0 g w)
    (next:K (a.put dst undef) (w.setRow g h.cells)):(⟨dst,.store TH x y,ty,pos,af,gd⟩:Oper).wp Tryz.prog a w K Q :=
  wp_store_row TH x y rfl g h.cells hx hy TH h0.cells k head_size rfl (cells_one h) next
theorem wpList_storeH {ops:Array Oper} {rest:List Oper} {dst:Option Tmp} {x y:Operand} {ty:TypeId} {pos:String} {af} {a:Act} {w:World} {Q:Exit→Act→World→Prop}
    (g:Nat) (h h0:Hd) (hx:a.eval x=.pointer (some ⟨g,0,none⟩)) (hy:a.eval y=h.v) (k:BoxH h0 g w)
    (next:wpList Tryz.prog ops Q rest (a.put dst undef) (w.setRow g h.cells)):wpList Tryz.prog ops Q ((⟨dst,.store TH x y,ty,pos,af,none⟩:Oper) :: rest) a w :=
  wpList_store_row rfl TH x y rfl g h.cells hx hy TH h0.cells k head_size rfl (cells_one h) next
theorem wp_loadH {dst:Option Tmp} {x:Operand} {ty:TypeId} {pos:String} {af} {a:Act} {w:World} {K:Act→World→Prop} {Q:Exit→Act→World→Prop} {gd}
    (g:Nat) (h:Hd) (hx:a.eval x=.pointer (some ⟨g,0,none⟩)) (k:BoxH h g w)
    (next:K (a.put dst h.v) w):(⟨dst,.load TH x,ty,pos,af,gd⟩:Oper).wp Tryz.prog a w K Q :=
  wp_load_row TH x rfl g hx TH h.cells (0,0) _ k Tryz.underlying111 rfl head_size next
theorem wpList_buildH {ops:Array Oper} {rest:List Oper} {dst:Option Tmp} {parts:List (Nat × Operand)} {ty:TypeId} {pos:String} {af} {a:Act} {w:World} {Q:Exit→Act→World→Prop}
    (h:Hd) (vs:List (Nat × Value)) (hv:(parts.map fun p=>(p.1,a.eval p.2))=vs) (hb:Tryz.prog.built TH vs=some h.cells)
    (next:wpList Tryz.prog ops Q rest (a.put dst h.v) w):wpList Tryz.prog ops Q ((⟨dst,.build TH parts.toArray,ty,pos,af,none⟩:Oper) :: rest) a w:=by
  have e:(parts.toArray.map fun (p:Nat × Operand)=>(p.1,a.eval p.2)).toList=vs:=by rw [← hv];simp
  refine wpList_build rfl TH parts.toArray rfl ?_ ?_
  · show (Tryz.prog.built TH (parts.toArray.map fun (p:Nat × Operand)=>(p.1,a.eval p.2)).toList).isSome=true
    rw [e,hb];rfl
  · show wpList _ _ _ _ (a.put dst (.agg ((Tryz.prog.built TH (parts.toArray.map fun (p:Nat × Operand)=>(p.1,a.eval p.2)).toList).getD #[]))) _
    rw [e,hb];exact next
abbrev Hd.parts (h:Hd):List (Nat × Value):=[(0,h.d.v),(1,.string h.a0),(2,.string h.a1),(3,.string h.a2),(4,.string h.a3),(5,.string h.a4),(6,.string h.a5),(7,.string h.a6),(8,.string h.a7),(9,.string h.a8),(10,.string h.a9)]
theorem built_parts (h:Hd):Tryz.prog.built TH h.parts=some h.cells:=by kernel_rfl
theorem wpList_loadHG {ops:Array Oper} {rest:List Oper} {dst:Option Tmp} {x:Operand} {ty:TypeId} {pos:String} {af} {gd} {a:Act} {w:World} {Q:Exit→Act→World→Prop}
    (g:Nat) (h:Hd) (hw:Region.wanted (⟨dst,.load TH x,ty,pos,af,gd⟩:Oper) (yielded ops a.tmps)=true) (hx:a.eval x=.pointer (some ⟨g,0,none⟩)) (k:BoxH h g w)
    (next:wpList Tryz.prog ops Q rest (a.put dst h.v) w):wpList Tryz.prog ops Q ((⟨dst,.load TH x,ty,pos,af,gd⟩:Oper) :: rest) a w :=
  wpList_step fun K hK=>by rw [if_pos hw];exact wp_loadH g h hx k (hK _ _ next)
theorem resultsH {fn:Func} {p u:Tmp} (hf:fn.results=#[.cell p TH,.tmp u]) (tmps:Array Value) (w:World) (g:Nat) (h:Hd) (z:Value)
    (hp:tmps.getD p undef=.pointer (some ⟨g,0,none⟩)) (hz:tmps.getD u undef=z) (k:BoxH h g w):(results fn tmps).run Tryz.prog w=.ok (.tuple #[h.v,z]) w:=by
  rw [results_cell_tmp hf,hp,hz]
  simp only [asAddr]
  rw [show (pure (⟨g,0,none⟩:Addr):Sem Addr).run Tryz.prog w=.ok ⟨g,0,none⟩ w from rfl]
  simp only [Result.andThen_ok]
  rw [run_loadVar_row w g TH TH h.cells (0,0) _ k Tryz.underlying111 rfl head_size]
  rfl
end
section
open Go.RowKit
theorem results_tmp3 {fn:Func} {t u v:Tmp} (h:fn.results=#[.tmp t,.tmp u,.tmp v]) (tmps:Array Value) (P:Program) (w:World) :
    (results fn tmps).run P w=.ok (.tuple #[tmps.getD t undef,tmps.getD u undef,tmps.getD v undef]) w:=by
  simp [results,h]
set_option maxRecDepth 100000 in
set_option maxHeartbeats 2000000 in
theorem bytesIndex1 (A:Option Addr) (n c:Nat) (l:List UInt8) (g:Nat) (w:World) (hB:Bs w A n c l) (hg:w.heap[g]?=some (.cells #[.int .u8 13] 5)) :
    Calls Tryz.prog 178 #[.slice A n c,.slice (some ⟨g,0,none⟩) 1 1] w fun e w'=>e=.returned (.int .i64 (Lib.indexByte l 13))∧w'=w:=by
  have HBS:=hid hB
  have hc:=cell_of_row w g 0 _ _ _ hg
  simp only [List.getElem?_toArray,List.getElem?_cons_zero] at hc
  clear hB hg
  go_enter Tryz.func178,Tryz.ntmps178
  go_wp2_with (fail)
  refine (indexByte_any A n c l 13 13 rfl w HBS.out).mono ?_
  rintro e w1 ⟨rfl,rfl⟩
  clear hc
  go_wp2_with (fail)
  go_ret
  exact ⟨rfl,rfl⟩
set_option maxRecDepth 100000 in
set_option maxHeartbeats 2000000 in
theorem bytesCut13 (A:Option Addr) (n c:Nat) (l:List UInt8) (g:Nat) (w:World) (hB:Bs w A n c l) (hg:w.heap[g]?=some (.cells #[.int .u8 13] 5)) :
    Calls Tryz.prog 156 #[.slice A n c,.slice (some ⟨g,0,none⟩) 1 1] w fun e w'=>∃ k v b,e=.returned (.tuple #[.slice A k c,v,.bool b])∧Bs w' A k c (seg1 l)∧Below w.heap.size w w':=by
  have HBS:=hid hB
  have HL:=hid hB.len
  have hle:=hB.le
  have hnm:=hB.nmax
  have HGE:=hid (Lib.indexByte_ge l 13)
  have HLT:=hid (indexByte_lt l 13)
  have HG:=hid hg
  have hmx:=hB.max
  clear hB hg
  go_enter Tryz.func156,Tryz.ntmps156
  go_wp2_with (fail)
  refine (bytesIndex1 A n c l g w HBS.out HG.out).mono ?_
  rintro e w1 ⟨rfl,rfl⟩
  by_cases h0:Lib.indexByte l 13<0
  · as_aux_lemma =>
    have HS:Hid (seg1 l=l):=hid (if_pos h0)
    have hi:Lib.indexByte l 13=-1:=by have:=HGE.out;omega
    rw [hi]
    clear h0 hi
    go_wp2_with (fail)
    refine bodyPost_ret (v:=.tuple #[.slice A n c,.slice none 0 0,.bool false]) ?_ rfl ⟨n,_,_,rfl,by rw [HS.out];exact HBS.out,Below.refl _ _⟩
    simp [results,Tryz.results156,go_sem]
  · as_aux_lemma =>
    obtain ⟨k,hk⟩:∃ k:Nat,Lib.indexByte l 13=(k:Int):=⟨(Lib.indexByte l 13).toNat,by omega⟩
    have HS:Hid (seg1 l=l.take k):=hid (by unfold seg1;rw [if_neg h0,hk];rfl)
    have hkn:k<n:=by have:=HLT.out;rw [hk,HL.out] at this;omega
    have HBK:Hid (∀ q,Bs (w1.drewN q) A k c (seg1 l)):=hid (fun q=>by rw [HS.out];exact (HBS.out.drewN q).take (by omega))
    rw [hk]
    obtain ⟨b,o,rfl,_,_⟩:=HBS.out.at_ (by omega)
    have e1:(0:Int)≤(k:Int):=by omega
    have e2:(k:Int)≤(n:Int):=by omega
    have e3:(k:Int)≤(c:Int):=by omega
    have e4:(0:Int)≤(k:Int)+1:=by omega
    have e5:(k:Int)+1≤(n:Int):=by omega
    have e6:(n:Int)≤(c:Int):=by omega
    have e7:((k:Int)+1).toNat=k+1:=by omega
    have d1:decide ((0:Int)≤(k:Int))=true:=by simp
    have w1':IntKind.i64.wrap ((k:Int)+1)=(k:Int)+1:=IntWalk.i64_in _ (by omega)
    by_cases hcc:c=k+1
    · as_aux_lemma =>
      have e8:(c:Int)=(k:Int)+1:=by omega
      clear h0 hk hkn hle hnm hmx hcc
      go_wp2_with (fail)
      go_quiet (fail)
      go_wp2_with (fail)
      refine bodyPost_ret (results_tmp3 Tryz.results156 _ _ _) rfl ⟨k,_,true,rfl,HBK.out _,drawN_below (Below.refl _ _) _⟩
    · as_aux_lemma =>
      have e8:¬ (c:Int)=(k:Int)+1:=by omega
      have e9:¬ c=k+1:=hcc
      clear h0 hk hkn hle hnm hmx hcc
      go_wp2_with (fail)
      go_quiet (fail)
      go_wp2_with (fail)
      refine bodyPost_ret (results_tmp3 Tryz.results156 _ _ _) rfl ⟨k,_,true,rfl,HBK.out _,drawN_below (Below.refl _ _) _⟩
set_option maxRecDepth 100000 in
set_option maxHeartbeats 2000000 in
theorem firstSegment_ (A:Option Addr) (n c:Nat) (l:List UInt8) (w:World) (hB:Bs w A n c l) :
    Calls Tryz.prog 112 #[.slice A n c] w fun e w'=>∃ k,e=.returned (.slice A k c)∧Bs w' A k c (seg1 l)∧Below w.heap.size w w':=by
  have HB1:Hid (Bs (w.alloc (.cells #[.int .u8 13] 5)) A n c l):=hid (hB.alloc _)
  have HG:Hid ((w.alloc (.cells #[.int .u8 13] 5)).heap[w.heap.size]?=some (.cells #[.int .u8 13] 5)):=hid (heap_alloc_new w _)
  have HB0:Hid (Below w.heap.size w (w.alloc (.cells #[.int .u8 13] 5))):=hid ((Below.refl _ w).alloc (Nat.le_refl _) _)
  clear hB
  go_enter Tryz.func112,Tryz.ntmps112
  go_wp2_with (fail)
  refine (bytesCut13 A n c l w.heap.size _ HB1.out HG.out).mono ?_
  rintro e w1 ⟨k,v,b,rfl,hB2,hb2⟩
  have HB2:=hid hB2
  have HBB:=hid (HB0.out.trans (hb2.mono HB0.out.size))
  clear hB2 hb2
  go_wp2_with (fail)
  go_ret
  exact ⟨k,rfl,HB2.out,HBB.out⟩
def codesM:List (Int × Value):=[(0,.string (cB 0)),(14,.string (cB 1)),(12,.string (cB 2)),(13,.string (cB 2))]
abbrev i64v (k:Int):Value:=.int .i64 k
noncomputable def keyI64 {P:Program} {k:TypeId} (h:P.underlying k=some (.int .i64)):KeyK P k Int i64v :=
  ⟨.int .i64,h,fun _=>rfl,fun a b=>by
    simp only [Instr.sameNow,if_true,Option.some.injEq]
    rw [Bool.eq_iff_iff]
    simp,fun a=>by simp [Instr.sameBits]⟩
theorem code_get (e:Int) (h:e=0∨e=14∨e=12∨e=13):aget codesM e=some (.string (codeOf e)):=by
  rcases h with rfl|rfl|rfl|rfl <;> rfl
set_option maxRecDepth 100000 in
set_option maxHeartbeats 2000000 in
theorem codes_ (w:World):Calls Tryz.prog 114 #[] w fun e w'=>∃ M,e=.returned (.map (some M))∧MapIs i64v w' M codesM∧Below w.heap.size w w':=by
  have hmm:=@run_makeMap Tryz.prog
  have HM0:Hid (MapIs i64v (w.alloc (.map #[] 0)) w.heap.size ([]:List (Int × Value))):=hid (MapIs.new i64v w)
  have HB0:Hid (Below w.heap.size w (w.alloc (.map #[] 0))):=hid ((Below.refl _ w).alloc (Nat.le_refl _) _)
  have tok1:Hid True:=hid trivial
  have tok2:Hid True:=hid trivial
  have tok3:Hid True:=hid trivial
  have tok4:Hid True:=hid trivial
  go_enter Tryz.func114,Tryz.ntmps114
  go_wp2_with (first
    | (have _t:=tok1;go_loud ((refine wpList_updateL rfl (keyI64 Tryz.underlying46) (.tmp 1) _ _ 183 9 (.inr rfl) Tryz.underlying183 w.heap.size _ rfl HM0.out 0 rfl _ rfl ?_;intro w1 hm1 hc1 hs1;have HM1:=hid hm1;have HB1:=hid (HB0.out.trans (hc1.below (fun j hj=>by rw [hj];exact Nat.le_refl _) HB0.out.size));clear tok1 _t hm1 hc1 hs1)))
    | (have _t:=tok2;go_loud ((refine wpList_updateL rfl (keyI64 Tryz.underlying46) (.tmp 1) _ _ 183 9 (.inr rfl) Tryz.underlying183 w.heap.size _ rfl HM1.out 14 rfl _ rfl ?_;intro w2 hm2 hc2 hs2;have HM2:=hid hm2;have HB2:=hid (HB1.out.trans (hc2.below (fun j hj=>by rw [hj];exact Nat.le_refl _) HB1.out.size));clear tok2 _t hm2 hc2 hs2)))
    | (have _t:=tok3;go_loud ((refine wpList_updateL rfl (keyI64 Tryz.underlying46) (.tmp 1) _ _ 183 9 (.inr rfl) Tryz.underlying183 w.heap.size _ rfl HM2.out 12 rfl _ rfl ?_;intro w3 hm3 hc3 hs3;have HM3:=hid hm3;have HB3:=hid (HB2.out.trans (hc3.below (fun j hj=>by rw [hj];exact Nat.le_refl _) HB2.out.size));clear tok3 _t hm3 hc3 hs3)))
    | (have _t:=tok4;go_loud ((refine wpList_updateL rfl (keyI64 Tryz.underlying46) (.tmp 1) _ _ 183 9 (.inr rfl) Tryz.underlying183 w.heap.size _ rfl HM3.out 13 rfl _ rfl ?_;intro w4 hm4 hc4 hs4;have HM4:=hid hm4;have HB4:=hid (HB3.out.trans (hc4.below (fun j hj=>by rw [hj];exact Nat.le_refl _) HB3.out.size));clear tok4 _t hm4 hc4 hs4))))
  go_ret
  exact ⟨w.heap.size,rfl,HM4.out,HB4.out⟩
theorem exec_code {dst:Option Tmp} {x y:Operand} {ty:TypeId} {pos:String} {af} {gd} {a:Act} {W:World} (M:Nat) (K:Int) (hx:a.eval x=.map (some M)) (hy:a.eval y=.int .i64 K) (hK:K=0∨K=14∨K=12∨K=13) (hM:MapIs i64v W M codesM) :
    (execOp a.eval (⟨dst,.lookup 183 x y false,ty,pos,af,gd⟩:Oper)).run Tryz.prog W=.ok (.value (.string (codeOf K))) W:=by
  have hz:(zeroValue 9).run Tryz.prog W=.ok (.string ⟨#[]⟩) W:=by kernel_rfl
  have hrun:=run_lookupL (keyI64 Tryz.underlying46) 183 9 Tryz.underlying183 W M codesM hM K _ hz false
  rw [code_get K hK] at hrun
  unfold execOp
  simp only [hx,hy,Sem.run_bind]
  rw [hrun]
  rfl
theorem exec_loadH {dst:Option Tmp} {x:Operand} {ty:TypeId} {pos:String} {af} {gd} {a:Act} {W:World} (g:Nat) (h:Hd) (hx:a.eval x=.pointer (some ⟨g,0,none⟩)) (k:BoxH h g W) :
    (execOp a.eval (⟨dst,.load TH x,ty,pos,af,gd⟩:Oper)).run Tryz.prog W=.ok (.value h.v) W:=by
  unfold execOp
  simp only [hx,Instr.loadAt,Instr.sureAddr,Sem.run_bind,Sem.run_pure,Result.andThen_ok,run_loadVar_row W g TH TH h.cells (0,0) _ k Tryz.underlying111 rfl head_size]
theorem resultsH3 {fn:Func} {p u v:Tmp} (hf:fn.results=#[.cell p TH,.tmp u,.tmp v]) (tmps:Array Value) (w:World) (g:Nat) (h:Hd) (y z:Value)
    (hp:tmps.getD p undef=.pointer (some ⟨g,0,none⟩)) (hy:tmps.getD u undef=y) (hz:tmps.getD v undef=z) (k:BoxH h g w):(results fn tmps).run Tryz.prog w=.ok (.tuple #[h.v,y,z]) w:=by
  have hp':tmps[p]?.getD undef=.pointer (some ⟨g,0,none⟩):=by simpa using hp
  have hy':tmps[u]?.getD undef=y:=by simpa using hy
  have hz':tmps[v]?.getD undef=z:=by simpa using hz
  simp [results,hf,hp',hy',hz',asAddr,run_loadVar_row w g TH TH h.cells (0,0) _ k Tryz.underlying111 rfl head_size]
set_option maxRecDepth 100000 in
set_option maxHeartbeats 4000000 in
theorem verdict_ (A:Option Addr) (n c:Nat) (l:List UInt8) (w:World) (hv:Vers w) (hB:Bs w A n c l) (hn:n≤1000000) :
    Calls Tryz.prog 84 #[.slice A n c] w fun e w'=>e=.returned (.tuple #[(verdictD l).1.v,.string (verdictD l).2.1,.int .i64 (verdictD l).2.2])∧Below w.heap.size w w':=by
  have HN:=hid hn
  have HL:=hid hB.len
  have HV:=hid (fun W (hb:Below w.heap.size w W)=>hv.below hb)
  have HZ0:Hid (BoxH Hd.zero w.heap.size (w.alloc (.cells Hd.zero.cells TH))):=hid (BoxH.new _ w)
  have HB0:Hid (Below w.heap.size w (w.alloc (.cells Hd.zero.cells TH))):=hid (boxHd_below _ w)
  have HBS:=hid (hB.below (boxHd_below Hd.zero w))
  clear hB hn hv
  go_enter Tryz.func84,Tryz.ntmps84
  go_wp2_with (fail)
  generalize hw0:w.alloc (.cells #[.int .u8 0,.int .u8 0,.int .u8 0,.int .u8 0,.int .u8 0,.string ⟨#[]⟩,.string ⟨#[]⟩,.string ⟨#[]⟩,.string ⟨#[]⟩,.string ⟨#[]⟩,.string ⟨#[]⟩,.string ⟨#[]⟩,.string ⟨#[]⟩,.string ⟨#[]⟩,.string ⟨#[]⟩] TH)=w0
  rw [show w.alloc (.cells Hd.zero.cells TH)=w0 from hw0] at HZ0 HB0 HBS
  clear hw0
  refine (read_ A n c l w0 HBS.out HN.out).mono ?_
  rintro e w1 ⟨rfl,hb1⟩
  have HZ1:=hid (HZ0.out.below hb1)
  have HB1:=hid (HB0.out.trans (hb1.mono HB0.out.size))
  have HBS1:=hid (HBS.out.below hb1)
  clear hb1 HZ0 HBS HB0
  have HVD:Hid (verdictD l=if (readH l).2=0 then if (28:UInt8) ∈ seg1 l then (Hd.zero,⟨#[]⟩,10) else ((readH l).1,codeOf (checkD (readH l).1),checkD (readH l).1) else (Hd.zero,⟨#[]⟩,(readH l).2)):=hid rfl
  have HKS:Hid (readH l=((readH l).1,0)→(readH l).1.a8.size≤n∧(readH l).1.a9.size≤n):=hid (fun hr=>by
    have t:=sum_le_of (read_stands hr).2.2
    rw [HL.out] at t
    exact ⟨t.1,t.2.1⟩)
  obtain ⟨h,hh⟩:∃ h,h=(readH l).1:=⟨_,rfl⟩
  obtain ⟨x,hx⟩:∃ x,x=(readH l).2:=⟨_,rfl⟩
  have HPR:Hid (readH l=(h,x)):=hid (by rw [hh,hx])
  rw [← hh,← hx] at HVD ⊢
  rw [← hh] at HKS
  clear hh hx
  have HX2:Hid (BoxH h w1.heap.size (w1.alloc (.cells h.cells TH))):=hid (BoxH.new h w1)
  have HZ2:Hid (BoxH Hd.zero w.heap.size (w1.alloc (.cells h.cells TH))):=hid (HZ1.out.below (boxHd_below h w1))
  have HB2:Hid (Below w.heap.size w (w1.alloc (.cells h.cells TH))):=hid (HB1.out.alloc HB1.out.size _)
  have HBS2:Hid (Bs (w1.alloc (.cells h.cells TH)) A n c l):=hid (HBS1.out.alloc _)
  have HGG:Hid (w.heap.size<w1.heap.size):=hid (Array.getElem?_eq_some_iff.1 HZ1.out).1
  by_cases he:x=0
  · subst he
    rw [if_pos rfl] at HVD
    have HK2:=hid (HKS.out HPR.out)
    clear HKS
    go_wp2_with (fail)
    obtain ⟨G,hG⟩:∃ G,G=w1.heap.size:=⟨_,rfl⟩
    rw [← hG] at HX2 HGG ⊢
    clear hG
    generalize w1.alloc (.cells #[u8 h.d.a,u8 h.d.b,u8 h.d.c,u8 h.d.d,u8 h.d.e,.string h.a0,.string h.a1,.string h.a2,.string h.a3,.string h.a4,.string h.a5,.string h.a6,.string h.a7,.string h.a8,.string h.a9] TH)=w2 at *
    refine (firstSegment_ A n c l w2 HBS2.out).mono ?_
    rintro e w3 ⟨k,rfl,hS3,hb3⟩
    have HX3:=hid (HX2.out.below hb3)
    have HZ3:=hid (HZ2.out.below hb3)
    have HB3:=hid (HB2.out.trans (hb3.mono HB2.out.size))
    have HS3:=hid hS3
    clear hb3 hS3 HX2 HZ2 HB2 HBS2 HZ1 HB1 HBS1
    go_wp2_with (fail)
    refine (indexByte_any A k c (seg1 l) 28 28 rfl w3 HS3.out).mono ?_
    rintro e w4 ⟨rfl,rfl⟩
    by_cases h28:(28:UInt8) ∈ seg1 l
    · as_aux_lemma =>
      have HE:Hid (verdictD l=(Hd.zero,⟨#[]⟩,10)):=hid (by rw [HVD.out,if_pos h28])
      have hi:=indexByte_pos h28
      obtain ⟨i,hi2⟩:∃ i,i=Lib.indexByte (seg1 l) 28:=⟨_,rfl⟩
      rw [← hi2] at hi ⊢
      clear h28 hi2
      go_wp2_with (with_reducible refine wpList_storeH w.heap.size Hd.zero Hd.zero (by kernel_rfl) (by kernel_rfl) HZ3.out ?_)
      have HR:=hid (HZ3.out.setRow Hd.zero)
      have HBR:=hid (below_setRow HB3.out (Nat.le_refl _) Hd.zero.cells)
      generalize w3.setRow w.heap.size Hd.zero.cells=w5 at *
      refine bodyPost_ret (v:=.tuple #[Hd.zero.v,.string ⟨#[]⟩,.int .i64 10]) ?_ rfl ⟨by rw [HE.out],HBR.out⟩
      exact resultsH3 Tryz.results84 _ _ _ _ _ _ (by kernel_rfl) (by kernel_rfl) (by kernel_rfl) HR.out
    · have HE:Hid (verdictD l=(h,codeOf (checkD h),checkD h)):=hid (by rw [HVD.out,if_neg h28])
      rw [indexByte_neg h28]
      clear h28
      go_wp2_with (with_reducible refine wpList_loadHG G h (by kernel_rfl) (by kernel_rfl) HX3.out ?_)
      refine (check_ h w3 (HV.out _ HB3.out) (by have:=HK2.out.1;have:=HN.out;omega) (by have:=HK2.out.2;have:=HN.out;omega)).mono ?_
      rintro e w5 ⟨rfl,hb5⟩
      have HX5:=hid (HX3.out.below hb5)
      have HZ5:=hid (HZ3.out.below hb5)
      have HB5:=hid (HB3.out.trans (hb5.mono HB3.out.size))
      have HCC:=hid (checkD_cases h)
      clear hb5 HX3 HZ3 HB3
      obtain ⟨K,hK⟩:∃ K,K=checkD h:=⟨_,rfl⟩
      rw [← hK] at HE HCC ⊢
      clear hK
      go_wp2_with (fail)
      refine wp_region_held_drew (S:=fun W=>BoxH h G W∧(∃ x,BoxH x w.heap.size W)∧Below w.heap.size w W) (by kernel_rfl) ?_ (fun hHeld=>?_)
      · exact ⟨BoxH.drew HX5.out,⟨_,BoxH.drew HZ5.out⟩,HB5.out.drew⟩
      clear HX5 HZ5 HB5
      generalize w5.drew=w6 at *
      refine wpAnyH_take (i:=0) (oi:=⟨some 23,_,_,_,_,_⟩) (v:=h.v) rfl (by kernel_rfl) (by kernel_rfl) (by kernel_rfl) (fun _ _ _ h=>h) (Or.inl ⟨by kernel_rfl,?hy0⟩) hHeld ?r0
      case hy0 =>
        intro W hW
        exact exec_loadH G h (by kernel_rfl) hW.1
      (try simp only [Act.put,List.setIfInBounds_toArray,List.set_cons_zero,List.set_cons_succ])
      refine wpAnyH_take (i:=2) (oi:=⟨some 25,_,_,_,_,_⟩) (v:=.int .i64 K) rfl (by kernel_rfl) (by kernel_rfl) (by kernel_rfl) (fun _ _ _ h=>h) (Or.inl ⟨by kernel_rfl,?hy2⟩) hHeld ?r2
      case hy2 =>
        intro W hW
        rfl
      (try simp only [Act.put,List.setIfInBounds_toArray,List.set_cons_zero,List.set_cons_succ])
      refine wpAnyH_take (i:=4) (oi:=⟨some 27,_,_,_,_,_⟩) (v:=.int .i64 K) rfl (by kernel_rfl) (by kernel_rfl) (by kernel_rfl) (fun _ _ _ h=>h) (Or.inl ⟨by kernel_rfl,?hy4⟩) hHeld ?r4
      case hy4 =>
        intro W hW
        rfl
      (try simp only [Act.put,List.setIfInBounds_toArray,List.set_cons_zero,List.set_cons_succ])
      have HHL:=hid hHeld
      clear hHeld
      refine wpAnyH_ready (rs:=[1]) (by kernel_rfl) (by simp) (AllReadyH.cons (o:=_) rfl (fun K' hK=>?_) AllReadyH.nil)
      go_simp
      refine (codes_ _).mono ?_
      rintro e w7 ⟨M,rfl,hM,hb7⟩
      dsimp only
      refine hK.out _ _ ⟨HHL.out.1.below hb7,HHL.out.2.1.imp (fun _ k=>k.below hb7),HHL.out.2.2.trans (hb7.mono HHL.out.2.2.size)⟩ (fun hHeld=>?_)
      clear hK K' hb7 HHL
      have HHL:=hid hHeld
      have hH2:MapIs i64v w7 M codesM:=hM
      refine wpAnyH_imp (S':=fun W=>(BoxH h G W∧(∃ x,BoxH x w.heap.size W)∧Below w.heap.size w W)∧MapIs i64v W M codesM) (fun _ h=>h.1) _ _ _ _ ?_
      have hHeld2:(BoxH h G w7∧(∃ x,BoxH x w.heap.size w7)∧Below w.heap.size w w7)∧MapIs i64v w7 M codesM:=⟨hHeld,hH2⟩
      clear hHeld hM hH2
      (try simp only [Act.put,List.setIfInBounds_toArray,List.set_cons_zero,List.set_cons_succ])
      refine wpAnyH_take (i:=3) (oi:=⟨some 26,_,_,_,_,_⟩) (v:=.string (codeOf K)) rfl (by kernel_rfl) (by kernel_rfl) (by kernel_rfl) (fun _ _ _ h=>h) (Or.inl ⟨by kernel_rfl,?hy3⟩) hHeld2 ?r3
      case hy3 =>
        intro W hW
        exact exec_code M K (by kernel_rfl) (by kernel_rfl) HCC.out hW.2
      (try simp only [Act.put,List.setIfInBounds_toArray,List.set_cons_zero,List.set_cons_succ])
      have HH2:=hid hHeld2
      clear hHeld2 HHL
      refine wpAnyH_ready (rs:=[5]) (by kernel_rfl) (by simp) (AllReadyH.cons (o:=_) rfl (fun K' hK=>?_) AllReadyH.nil)
      rw [if_pos (by kernel_rfl)]
      obtain ⟨x0,hx0⟩:=HH2.out.1.2.1
      have HX0':=hid hx0
      clear hx0
      refine wp_storeH w.heap.size h x0 (by kernel_rfl) (by kernel_rfl) HX0'.out ?_
      have HR:=hid (HX0'.out.setRow h)
      have HBR:=hid (below_setRow HH2.out.1.2.2 (Nat.le_refl _) h.cells)
      have HGR:=hid (HH2.out.1.1.setRow_other (t:=w.heap.size) (by have:=HGG.out;omega) h.cells)
      refine hK.out _ _ ⟨⟨HGR.out,⟨_,HR.out⟩,HBR.out⟩,HH2.out.2.row (setRow_other _ _ _ _ (HH2.out.2.ne HX0'.out))⟩ (fun hHeld=>?_)
      clear hK K' HH2 HX0' HGR
      generalize w7.setRow w.heap.size h.cells=w8 at *
      (try simp only [Act.put])
      refine wpAnyH_take (i:=6) (oi:=⟨some 3,_,_,_,_,_⟩) (v:=.string (codeOf K)) rfl (by kernel_rfl) (by kernel_rfl) (by kernel_rfl) (fun _ _ _ h=>h) (Or.inl ⟨by kernel_rfl,?hy6⟩) hHeld ?r6
      case hy6 =>
        intro W hW
        rfl
      (try simp only [Act.put,List.setIfInBounds_toArray,List.set_cons_zero,List.set_cons_succ])
      refine wpAnyH_take (i:=7) (oi:=⟨some 4,_,_,_,_,_⟩) (v:=.int .i64 K) rfl (by kernel_rfl) (by kernel_rfl) (by kernel_rfl) (fun _ _ _ h=>h) (Or.inl ⟨by kernel_rfl,?hy7⟩) hHeld ?r7
      case hy7 =>
        intro W hW
        rfl
      (try simp only [Act.put,List.setIfInBounds_toArray,List.set_cons_zero,List.set_cons_succ])
      clear hHeld
      refine wpAnyH_done (by kernel_rfl) ?_ _
      go_wp2_with (fail)
      refine bodyPost_ret (v:=.tuple #[h.v,.string (codeOf K),.int .i64 K]) ?_ rfl ⟨by rw [HE.out],HBR.out⟩
      exact resultsH3 Tryz.results84 _ _ _ _ _ _ (by kernel_rfl) (by kernel_rfl) (by kernel_rfl) HR.out
  · as_aux_lemma =>
    rw [if_neg he] at HVD
    have de:(x == 0)=false:=by simpa using he
    have de2:(x != 0)=true:=by simpa using he
    clear he
    go_wp2_with (with_reducible refine wpList_storeH w.heap.size Hd.zero Hd.zero (by kernel_rfl) (by kernel_rfl) HZ2.out ?_)
    have HR:=hid (HZ2.out.setRow Hd.zero)
    have HBR:=hid (below_setRow HB2.out (Nat.le_refl _) Hd.zero.cells)
    generalize World.setRow (w1.alloc (.cells h.cells TH)) w.heap.size Hd.zero.cells=w5 at *
    refine bodyPost_ret (v:=.tuple #[Hd.zero.v,.string ⟨#[]⟩,.int .i64 x]) ?_ rfl ⟨by rw [HVD.out],HBR.out⟩
    exact resultsH3 Tryz.results84 _ _ _ _ _ _ (by kernel_rfl) (by kernel_rfl) (by kernel_rfl) HR.out
end
section
open Go.RowKit
theorem byteInfoF:(Tryz.prog.info? 5).map (fun i=>(i.zero,i.size,i.bytes))=some (some (.int .u8 0),1,1):=by kernel_rfl
theorem frameGood (A:Option Addr) (n c:Nat) (l:List UInt8) (w:World) (hS:Signs w) (hB:Bs w A n c l) :
    Calls Tryz.prog 68 #[.slice A n c] w fun e w'=>e=.returned (.bool (good l))∧∃ q,w'=w.drewN q:=by
  cases hg:good l with
  | true=>exact frameGood_yes A n c l w hS hB hg
  | false=>exact frameGood_no A n c l w hS hB hg
theorem frameGood_b (A:Option Addr) (n c:Nat) (l:List UInt8) (w:World) (hS:Signs w) (hB:Bs w A n c l) (r:Bool) (hr:good l=r) :
    Calls Tryz.prog 68 #[.slice A n c] w fun e w'=>e=.returned (.bool r)∧Below w.heap.size w w':=by
  subst hr
  exact (frameGood A n c l w hS hB).mono fun e w' ⟨he,q,hq⟩=>⟨he,by rw [hq];exact drawN_below (Below.refl _ _) q⟩
theorem frameCount (k:Int) (h0:0≤k) (h1:k≤4611686018427387904) (w:World) :
    Calls Tryz.prog 69 #[.int .i64 k] w fun e w'=>e=.returned (.int .i64 (k+3))∧w=w':=by
  go_enter Tryz.func69,Tryz.ntmps69
  go_wp2
  go_ret
  exact ⟨rfl,rfl⟩
end
section
open Go.RowKit
def RetNew (err:Int) (l:List UInt8) (w:World) (e:Ending) (w':World):Prop :=
  ∃ A c,e=.returned (.tuple #[.slice A l.length c,.int .i64 err])∧Bs w' A l.length c l∧(∀ b,A=some b→w.heap.size≤b.block)∧Below w.heap.size w w'
set_option maxRecDepth 100000 in
theorem frameWrap_new (A:Option Addr) (n c:Nat) (l:List UInt8) (w:World) (hS:Signs w) (hB:Bs w A n c l) (hg:good l=true) (hn:n≤140737488351232) :
    Calls Tryz.prog 38 #[.slice A n c] w (RetNew 0 (11 :: (l++[28,13])) w):=by
  have hgo:=hid (frameGood_b A n c l w hS hB true hg)
  have hmk:∀ W:World,(Instr.makeSlice 40 (.int .i64 0) (.int .i64 ((n:Int)+3))).run Tryz.prog W=.ok (.slice (some ⟨W.heap.size,0,none⟩) 0 (n+3)) (W.alloc (.cells (Array.replicate (n+3) (.int .u8 0)) 5)):=by
    intro W
    rw [show ((n:Int)+3)=((n+3:Nat):Int) from by omega]
    exact run_mk _ _ Tryz.underlying40 byteInfoF 0 (n+3) (by omega) (by omega) W
  have HS:=hid hS
  have HB:=hid hB
  have HL:l.length≤n:=by have:=hB.len;omega
  have tok1:True:=trivial
  have tok2:True:=trivial
  have tok3:True:=trivial
  clear hS hB hg
  go_enter Tryz.func38,Tryz.ntmps38
  go_wp2_with (first
    | (go_at_call 68;refine (hgo.out).mono ?_;rintro e w1 ⟨rfl,hb1⟩
       have S1:=hid (HS.out.below hb1)
       have B1:=hid (HB.out.below hb1)
       obtain ⟨s0,s1,s2⟩:=HS.out.below hb1
       have hsz1:0<w1.heap.size:=World.block_lt_of_cell? w1 _ s0)
    | (go_at_call 69;refine (frameCount _ (by omega) (by omega) _).mono ?_;rintro e w' ⟨rfl,rfl⟩)
    | (at_builtin;have _t:=tok1
       go_loud (refine wpList_app rfl (.tmp 12) (.tmp 15) 40 rfl w1.heap.size 5 Tryz.underlying40 byteInfoF _ [] rfl ((Own.made 5 w1 (Array.replicate (n+3) (.int .u8 0)) (n+3) (Nat.le_refl _) (by simp only [maxLen];omega) (by simp)).alloc _) _ 1 1 [11] rfl (Bs.lit _ [11] 5 _ _ (by simp) rfl rfl (by simp [maxLen])) (by simp) (by simp;omega) ?_)
       intro v2 w2 hown2 hb2 hg2
       have b12:Below w1.heap.size w1 w2:=(((Below.refl _ _).alloc (Nat.le_refl _) _).alloc (by simp) _).trans hb2
       clear tok1 hb2 hg2 _t)
    | (at_builtin;have _t:=tok2
       go_loud (refine wpList_app rfl (.tmp 17) (.tmp 18) 40 rfl w1.heap.size 5 Tryz.underlying40 byteInfoF _ _ rfl hown2 _ n c l rfl (B1.out.below b12) (by simp;omega) b12.size ?_)
       intro v3 w3 hown3 hb3 hg3
       have b13:=b12.trans hb3
       clear tok2 hb3 hg3 _t
       obtain ⟨s03,s13,s23⟩:=S1.out.below b13)
    | (at_builtin;have _t:=tok3
       go_loud (refine wpList_app rfl (.tmp 20) (.tmp 25) 40 rfl w1.heap.size 5 Tryz.underlying40 byteInfoF _ _ rfl (hown3.alloc _) _ 2 2 [28,13] rfl (Bs.lit _ [28,13] 5 _ _ (by simp) rfl rfl (by simp [maxLen])) (by simp;omega) (by have:=b13.size;simp;omega) ?_)
       intro v4 w4 hown4 hb4 hg4
       have b14:Below w1.heap.size w1 w4:=(b13.alloc b13.size _).trans hb4
       clear tok3 hb4 hg4 _t))
  go_ret2
  obtain ⟨A4,c4,rfl,hB4,hlo4⟩:=hown4.bs
  have hl4:([]++[11]++l++[28,13]:List UInt8)=11 :: (l++[28,13]):=by simp
  rw [hl4] at hB4 ⊢
  exact ⟨A4,c4,rfl,hB4,fun b hb=>Nat.le_trans hb1.size (hlo4 b hb),hb1.trans (b14.mono hb1.size)⟩
end
end Go.Proofs.YtodjilljcjkacaaGreatDoor
