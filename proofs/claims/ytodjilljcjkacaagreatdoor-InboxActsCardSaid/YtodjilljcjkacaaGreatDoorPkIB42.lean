/- InboxActs: whatever the input, the law's call returns true, and the arguments read afterwards as before. No condition of ours. -/
import Derived.Test.YtodjilljcjkacaaGreatDoorPkIB41
import Derived.SliceStrings
import Derived.Test.YtodjilljcjkacaaGreatDoorCards
import Derived.Test.YtodjilljcjkacaaGreatDoorTie
import Derived.Lib.LaidTab
import Derived.Deep.DeepHandedRow

namespace Go.Proofs.YtodjilljcjkacaaGreatDoor
open Lib (hid)
section
open Go.RowKit Go.ChangeShapes Go.WideShapes
theorem cellsStr:Tryz.prog.cellsOf 9=1:=by kernel_rfl
end
/- Arguments that are texts,bytes,slices of texts and signs. -/
/- The table of versions as the statement lays it;arguments that are texts,bytes and slices of texts. -/
section
open Go.RowKit Go.ChangeShapes Go.WideShapes
theorem cellsArr10:Tryz.prog.cellsOf 230=10:=by kernel_rfl
theorem gVers:Tryz.prog.globalNamed "lamplighter/msh.versions"=some 3:=by kernel_rfl
theorem gtVers:(Tryz.prog.globals[3]?).map (·.type)=some 230:=by kernel_rfl
theorem ba_of_list {s:ByteArray} {l:List UInt8} (h:s.data.toList=l):s=⟨l.toArray⟩:=by
  subst h
  apply ByteArray.ext
  simp
set_option maxRecDepth 100000 in
theorem vers_of_laid {W:World} {rest:List (String × DataW Unit)} (h:laidMet Tryz.prog (("lamplighter/msh.versions",Rows.laid_lamplighter_msh_versions) :: rest) W):Vers W:=by
  obtain ⟨ps,⟨g',t',cs,fuel,p,q,hg',ht',hvar,hd,_,_⟩,_⟩:=h
  obtain rfl:=Option.some.inj (gVers.symm.trans hg')
  obtain rfl:=Option.some.inj (gtVers.symm.trans ht')
  have hcell:=fun i=>World.var?_cell gVers hvar i
  obtain ⟨xs,m,_,hx,hl,hn,hi⟩:=DataW.trod_array Tryz.underlying230 hd
  obtain ⟨l⟩:=cs
  simp only [Prod.mk.injEq] at hx hl hi
  have h0:=hi 0 (by omega)
  have h1:=hi 1 (by omega)
  have h2:=hi 2 (by omega)
  have h3:=hi 3 (by omega)
  have h4:=hi 4 (by omega)
  have h5:=hi 5 (by omega)
  have h6:=hi 6 (by omega)
  have h7:=hi 7 (by omega)
  have h8:=hi 8 (by omega)
  have h9:=hi 9 (by omega)
  rw [cellsStr] at h0 h1 h2 h3 h4 h5 h6 h7 h8 h9
  rw [cellsArr10] at hl
  match xs,hn with
  | [x0,x1,x2,x3,x4,x5,x6,x7,x8,x9],_ =>
    obtain ⟨s0,e0,rfl,_⟩:=DataW.trod_string Tryz.underlying9 h0
    obtain ⟨s1,e1,rfl,_⟩:=DataW.trod_string Tryz.underlying9 h1
    obtain ⟨s2,e2,rfl,_⟩:=DataW.trod_string Tryz.underlying9 h2
    obtain ⟨s3,e3,rfl,_⟩:=DataW.trod_string Tryz.underlying9 h3
    obtain ⟨s4,e4,rfl,_⟩:=DataW.trod_string Tryz.underlying9 h4
    obtain ⟨s5,e5,rfl,_⟩:=DataW.trod_string Tryz.underlying9 h5
    obtain ⟨s6,e6,rfl,_⟩:=DataW.trod_string Tryz.underlying9 h6
    obtain ⟨s7,e7,rfl,_⟩:=DataW.trod_string Tryz.underlying9 h7
    obtain ⟨s8,e8,rfl,_⟩:=DataW.trod_string Tryz.underlying9 h8
    obtain ⟨s9,e9,rfl,_⟩:=DataW.trod_string Tryz.underlying9 h9
    match l,hl with
    | [v0,v1,v2,v3,v4,v5,v6,v7,v8,v9],_ =>
      simp at e0 e1 e2 e3 e4 e5 e6 e7 e8 e9
      simp [Rows.laid_lamplighter_msh_versions] at hx
      subst e0 e1 e2 e3 e4 e5 e6 e7 e8 e9
      obtain ⟨⟨y0,y1,y2,y3,y4,y5,y6,y7,y8,y9⟩,_⟩:=hx
      have z0:s0=vB 0:=ba_of_list y0.symm
      have z1:s1=vB 1:=ba_of_list y1.symm
      have z2:s2=vB 2:=ba_of_list y2.symm
      have z3:s3=vB 3:=ba_of_list y3.symm
      have z4:s4=vB 4:=ba_of_list y4.symm
      have z5:s5=vB 5:=ba_of_list y5.symm
      have z6:s6=vB 6:=ba_of_list y6.symm
      have z7:s7=vB 7:=ba_of_list y7.symm
      have z8:s8=vB 8:=ba_of_list y8.symm
      have z9:s9=vB 9:=ba_of_list y9.symm
      subst z0 z1 z2 z3 z4 z5 z6 z7 z8 z9
      exact ⟨hcell 0,hcell 1,hcell 2,hcell 3,hcell 4,hcell 5,hcell 6,hcell 7,hcell 8,hcell 9⟩
end
/- An argument that is a head. -/
section
open Go.RowKit Go.ChangeShapes Go.WideShapes
end
/- The table of codes as the statement lays it;arguments that are heads. -/
section
open Go.RowKit Go.ChangeShapes Go.WideShapes
theorem cellsArr3s:Tryz.prog.cellsOf 179=3:=by kernel_rfl
theorem gCds:Tryz.prog.globalNamed "lamplighter/ack.codes"=some 1:=by kernel_rfl
theorem gtCds:(Tryz.prog.globals[1]?).map (·.type)=some 179:=by kernel_rfl
theorem ba_of_list3 {s:ByteArray} {l:List UInt8} (h:s.data.toList=l):s=⟨l.toArray⟩:=by
  subst h
  apply ByteArray.ext
  simp
set_option maxRecDepth 100000 in
theorem cds_of_laid {W:World} {rest:List (String × DataW Unit)} (h:laidMet Tryz.prog (("lamplighter/ack.codes",Rows.laid_lamplighter_ack_codes) :: rest) W):Cds W:=by
  obtain ⟨ps,⟨g',t',cs,fuel,p,q,hg',ht',hvar,hd,_,_⟩,_⟩:=h
  obtain rfl:=Option.some.inj (gCds.symm.trans hg')
  obtain rfl:=Option.some.inj (gtCds.symm.trans ht')
  have hcell:=fun i=>World.var?_cell gCds hvar i
  obtain ⟨xs,m,_,hx,hl,hn,hi⟩:=DataW.trod_array Tryz.underlying179 hd
  obtain ⟨l⟩:=cs
  simp only [Prod.mk.injEq] at hx hl hi
  have h0:=hi 0 (by omega)
  have h1:=hi 1 (by omega)
  have h2:=hi 2 (by omega)
  rw [cellsStr] at h0 h1 h2
  rw [cellsArr3s] at hl
  match xs,hn with
  | [x0,x1,x2],_ =>
    obtain ⟨s0,e0,rfl,_⟩:=DataW.trod_string Tryz.underlying9 h0
    obtain ⟨s1,e1,rfl,_⟩:=DataW.trod_string Tryz.underlying9 h1
    obtain ⟨s2,e2,rfl,_⟩:=DataW.trod_string Tryz.underlying9 h2
    match l,hl with
    | [v0,v1,v2],_ =>
      simp at e0 e1 e2
      simp [Rows.laid_lamplighter_ack_codes] at hx
      subst e0 e1 e2
      obtain ⟨⟨y0,y1,y2⟩,_⟩:=hx
      have z0:s0=cB 0:=ba_of_list3 y0.symm
      have z1:s1=cB 1:=ba_of_list3 y1.symm
      have z2:s2=cB 2:=ba_of_list3 y2.symm
      subst z0 z1 z2
      exact ⟨hcell 0,hcell 1,hcell 2⟩
end
/- The three tables as the statements lay them. -/
section
open Go.RowKit Go.ChangeShapes Go.WideShapes
theorem laid_tail {P:Program} {x:String × DataW Unit} {r:List (String × DataW Unit)} {w:World} (h:laidMet P (x :: r) w):laidMet P r w:=by
  obtain ⟨ps,hl,hn,hc⟩:=h
  obtain ⟨n,d⟩:=x
  obtain ⟨g,t,cs,fuel,p,q,h1,h2,h3,h4,h5,rfl⟩:=hl
  exact ⟨q,h5,(List.nodup_append.1 hn).2.1,fun b off hm=>hc b off (List.mem_append_right _ hm)⟩
theorem gSgs:Tryz.prog.globalNamed "lamplighter/frame.signs"=some 0:=by kernel_rfl
theorem gtSgs:(Tryz.prog.globals[0]?).map (·.type)=some 132:=by kernel_rfl
theorem gcSgs:Tryz.prog.cellsOf 132=3:=by kernel_rfl
theorem geSgs:Tryz.prog.cellsOf 5=1:=by kernel_rfl
theorem signs_of_laid {W:World} {rest:List (String × DataW Unit)} (h:laidMet Tryz.prog (("lamplighter/frame.signs",Rows.laid_lamplighter_frame_signs) :: rest) W):Signs W:=by
  have t:Lib.TabIs Tryz.prog W "lamplighter/frame.signs" .u8 [11,28,13]:=Lib.tabIs_of_head (rest:=rest) gSgs gtSgs Tryz.underlying132 Tryz.underlying5 geSgs gcSgs h
  exact ⟨t.cell gSgs 0 (by decide),t.cell gSgs 1 (by decide),t.cell gSgs 2 (by decide)⟩
theorem acc_laid {W:World} (h:laidMet Tryz.prog [("lamplighter/frame.signs",Rows.laid_lamplighter_frame_signs),("lamplighter/msh.versions",Rows.laid_lamplighter_msh_versions),("lamplighter/ack.codes",Rows.laid_lamplighter_ack_codes)] W):Vers W∧Signs W∧Cds W :=
  ⟨vers_of_laid (laid_tail h),signs_of_laid h,cds_of_laid (laid_tail (laid_tail h))⟩
end
section
open Go.RowKit Go.ChangeShapes Go.WideShapes
theorem cellsInt:Tryz.prog.cellsOf 3=1:=by kernel_rfl
theorem cellsArr2:Tryz.prog.cellsOf 22=2:=by kernel_rfl
set_option maxRecDepth 100000 in
theorem open_arr2 {H:Type} {enc:TypeId × Value→H} {W:World} {base:Nat} {v:Value} {d:DataW H} {p:List MemPlace} (ok:Value.okWide Tryz.prog W .any base 22 v)
    (h:DataW.Trod enc Tryz.prog W 0 (fun _=>true) true 22 v d p):∃ a b:Int,v=.agg #[.int .i64 a,.int .i64 b]∧d=.agg [.lit (.int .i64 a),.lit (.int .i64 b)]∧p=[]:=by
  simp only [Value.okWide,Tryz.underlying22] at ok
  obtain ⟨cs,rfl,hsz,_⟩:=ok
  obtain ⟨fuel,hf⟩:=h
  obtain ⟨xs,m,rfl,hx,hl,hn,hi⟩:=DataW.trod_array Tryz.underlying22 hf
  obtain ⟨l⟩:=cs
  simp only [Value.cells,Prod.mk.injEq] at hx hl hi
  have h0:=hi 0 (by omega)
  have h1:=hi 1 (by omega)
  rw [cellsInt] at h0 h1
  rw [cellsArr2] at hl
  match xs,hn with
  | [x0,x1],_ =>
    obtain ⟨n0,e0,rfl,_⟩:=DataW.trod_int Tryz.underlying3 h0
    obtain ⟨n1,e1,rfl,_⟩:=DataW.trod_int Tryz.underlying3 h1
    match l,hl with
    | [v0,v1],_ =>
      simp at e0 e1 hx
      obtain ⟨rfl,rfl⟩:=hx
      subst e0 e1
      exact ⟨n0,n1,rfl,rfl,rfl⟩
end
end Go.Proofs.YtodjilljcjkacaaGreatDoor
/- InboxActs: whatever the input, the law's call returns true, and the arguments read afterwards as before. No condition of ours. -/
namespace Go.Proofs.YtodjilljcjkacaaGreatDoor.inboxActs
open Go.ChangeShapes Go.WideShapes Go.ChangeAt Go.RowKit
open Go.ChangeMaps (open_string shut_string)
set_option linter.unusedVariables false


set_option maxRecDepth 100000 in
/-- what the walk gives, for every argument -/
theorem contract (H : Type) (enc : TypeId × Value → H) (W : World) (base : Nat) (args : Array Value) (ds gs : List (DataW H)) (before : List MemPlace)
    (hval : ∀ (j : Nat) t v, Tryz.f3.params[j]? = some t → args[j]? = some v → Value.okWide Tryz.prog W .any base t v)
    (hW : DataW.Whole enc Tryz.prog Tryz.f3.params.toList Rows.inboxActsSpec.vars false W args.toList ds gs before)
    (hsz0 : (DataW.weightsEach Tryz.prog (Tryz.f3.params.toList ++ Rows.inboxActsSpec.plain.varTypes Tryz.prog) (ds ++ gs)).all (· ≤ reachBytes) = true) (hL : laidMetH Tryz.prog Rows.inboxActsRow.laid W) (hSh : W.ShapedOpen Tryz.prog) :
    Calls Tryz.prog 3 args W fun e W' => ∃ v, e = .returned v ∧ Rows.inboxActsSpec.post enc Tryz.prog Tryz.f3 false true false false W args v W' := by
  have hW' := hW
  obtain ⟨p, q, hA0, hV, rfl, hfz, hnd⟩ := hW
  have hA : DataW.TrodAll enc Tryz.prog W 0 (fun _ => true) true Tryz.f3.params.toList args.toList ds p := hA0
  rw [Tryz.params3] at hA hval hsz0
  obtain ⟨v0, vs0, d0, ds0, p0, q0, hargs, rfl, rfl, h0, r0⟩ := trodAll_cons hA
  obtain ⟨v1, vs1, d1, ds1, p1, q1, rfl, rfl, rfl, h1, r1⟩ := trodAll_cons r0
  obtain ⟨rfl, rfl, rfl⟩ := trodAll_nil r1
  obtain rfl : args = #[v0, v1] := by cases args; simp_all
  obtain ⟨rfl, rfl⟩ := trodVars_none hV
  have hsz : (DataW.weightsEach Tryz.prog [22, 23] [d0, d1]).all (· ≤ reachBytes) = true := by
    have hv : Rows.inboxActsSpec.plain.varTypes Tryz.prog = [] := rfl
    rw [hv] at hsz0
    simpa using hsz0
  have k0 := h0
  obtain ⟨x0, y0, rfl, rfl, rfl⟩ := open_arr2 (hval 0 22 v0 rfl rfl) h0
  obtain ⟨A1, n1, c1, rfl⟩ := okWide_slice Tryz.underlying23 (hval 1 23 v1 rfl rfl)
  have k1 := h1
  have lt1 : ∀ x ∈ p1, x.block < W.heap.size := by obtain ⟨m, hm⟩ := k1; exact DataW.trod_lt m _ _ _ hm
  obtain ⟨l1, B1⟩ := open_iacts h1 1 rfl rfl hsz
  clear hA0
  refine (inboxActs_walk x0 y0 A1 n1 c1 l1 W (acc_laid hL) B1 ).mono fun e W' ⟨he, bel⟩ => ?_
  subst he
  exact ⟨_, rfl, _, _, _, [], _, [], hW', trodAll_mk1 (shut_bool Tryz.underlying4 _), (trodAll_cons_mk (Below.trod laidOut (by kernel_rfl) (of_decide_eq_true (by kernel_rfl)) k0 bel (fun x hx => by cases hx)) (trodAll_cons_mk (Below.trod laidOut (by kernel_rfl) (of_decide_eq_true (by kernel_rfl)) k1 bel lt1) trodAll_mk0)), rfl, bel.frame _, fun h => by cases h⟩

/-- a world in which the listed variables hold what the program's text lays -/
noncomputable def laidWorld (os : Os) : World :=
  { World.holding Tryz.prog os ⟨#[], #[], []⟩ with heap := ((((World.holding Tryz.prog os ⟨#[], #[], []⟩).heap.modify 0 fun
      | .cells _ t frozen => .cells #[.int .u8 11, .int .u8 28, .int .u8 13] t frozen
      | o => o).modify 3 fun
      | .cells _ t frozen => .cells #[.string ⟨#[50, 46, 49]⟩, .string ⟨#[50, 46, 50]⟩, .string ⟨#[50, 46, 51]⟩, .string ⟨#[50, 46, 51, 46, 49]⟩, .string ⟨#[50, 46, 52]⟩, .string ⟨#[50, 46, 53]⟩, .string ⟨#[50, 46, 53, 46, 49]⟩, .string ⟨#[50, 46, 54]⟩, .string ⟨#[50, 46, 55]⟩, .string ⟨#[50, 46, 56]⟩] t frozen
      | o => o).modify 1 fun
      | .cells _ t frozen => .cells #[.string ⟨#[65, 65]⟩, .string ⟨#[65, 69]⟩, .string ⟨#[65, 82]⟩] t frozen
      | o => o) }
theorem laid_met (os : Os) : laidMet Tryz.prog Rows.inboxActsRow.laid ((laidWorld os).forCall (fun _ _ => 0) ⟨#[], #[.agg #[.int .i64 0, .int .i64 0], .slice none 0 0], []⟩).memory :=
  laidMet_of_run' 8 (by kernel_rfl) (by kernel_rfl)
theorem reads (os : Os) {H : Type} (enc : TypeId × Value → H) : ∃ places, DataW.whole enc Tryz.prog ((laidWorld os).forCall (fun _ _ => 0) ⟨#[], #[.agg #[.int .i64 0, .int .i64 0], .slice none 0 0], []⟩).memory Tryz.f3.params.toList Rows.inboxActsSpec.vars false (#[.agg #[.int .i64 0, .int .i64 0], .slice none 0 0] : Array Value).toList 8 = some ([.agg [.lit (.int .i64 0), .lit (.int .i64 0)], .nil], [], places) :=
  ⟨[], by kernel_rfl⟩

set_option maxRecDepth 100000 in
theorem lifted (os : Os) (started : os.Started) (H : Type) (enc : TypeId × Value → H) (F : Stop.Interp) :
    ReturnsInHanded {} Tryz.checked os 3 .any ((OpenSpec.ofChange Rows.inboxActsSpec).preRow enc Tryz.prog Tryz.f3 Rows.inboxActsRow.domain false Rows.inboxActsRow.laid) (((OpenSpec.ofChange Rows.inboxActsSpec).at F).post enc Tryz.prog Tryz.f3 false true false false) := by
  obtain ⟨places, hx⟩ := reads os enc
  refine returnsInHanded_of_row (C := Tryz.checked) (s := (OpenSpec.ofChange Rows.inboxActsSpec)) own started (by kernel_rfl) Tryz.func3
    (witness_row_at (enc := enc) (C := Tryz.checked) false (laidWorld os) #[.agg #[.int .i64 0, .int .i64 0], .slice none 0 0] rfl (by kernel_rfl) (by kernel_rfl) (by kernel_rfl)
      (OpenSpec.preRow_of_cond 8 hx (by kernel_rfl) (fun k hk => by cases hk) (by kernel_rfl) (laid_met os))) ?_
  intro W base args ds gs before hval hW _ hcond hsz hL hSh _
  exact contract H enc W base args ds gs before hval hW hsz hL hSh

theorem said : Rows.InboxActsSaid :=
  OpenClaim.holds_of_cond 3 Tryz.f3 rfl rfl rfl rfl rfl rfl rfl ⟨rfl, rfl, rfl, rfl, rfl⟩ rfl rfl rfl rfl rfl (by kernel_rfl) Tryz.func3 (by kernel_rfl)
    (of_decide_eq_true (by kernel_rfl)) (by unfold Func.isWrapper; first | (rw [if_pos (by decide +kernel)]; kernel_rfl) | (rw [if_neg (by decide +kernel)]; exact ⟨rfl, rfl⟩))
    (fun os started H enc _ F => by rw [OpenClaim.pre_eq_preRow]; exact lifted os started H enc F)

theorem plain (f : FuncId) (fn : Func) (hf : Tryz.pinned.checked.prog.funcNamed "lamplighter/lamplighterlaw17.InboxActs" = some f) (hfn : Tryz.pinned.checked.prog.funcs[f]? = some fn) :
    true = Tryz.pinned.checked.prog.looks [] ∧ ∀ (j : Nat) t, fn.params[j]? = some t → Tryz.pinned.checked.prog.wantsStandIn t = false := by
  obtain rfl : f = 3 := Option.some.inj ((show Tryz.prog.funcNamed "lamplighter/lamplighterlaw17.InboxActs" = some 3 by kernel_rfl).symm.trans hf) |>.symm
  obtain rfl : fn = Tryz.f3 := (Option.some.inj (Tryz.func3.symm.trans hfn)).symm
  refine ⟨by kernel_rfl, fun j t ht => ?_⟩
  rw [Tryz.params3] at ht

  have z22 : Tryz.prog.wantsStandIn 22 = false := by kernel_rfl
  have z23 : Tryz.prog.wantsStandIn 23 = false := by kernel_rfl
  rcases j with _ | _ | j
  · obtain rfl : t = 22 := by simpa using ht.symm
    exact z22
  · obtain rfl : t = 23 := by simpa using ht.symm
    exact z23
  · simp at ht

/-- the card -/
theorem card : Rows.InboxActsCardSaid :=
  Claim7.holds_tied_plain_at .later [] _ _ _ _ said (fun _ h => by cases h) (by kernel_rfl) (fun _ h => by cases h) inboxActs_row_tie rfl ⟨rfl, rfl⟩ (by kernel_rfl) rfl plain (by kernel_rfl)
end Go.Proofs.YtodjilljcjkacaaGreatDoor.inboxActs
