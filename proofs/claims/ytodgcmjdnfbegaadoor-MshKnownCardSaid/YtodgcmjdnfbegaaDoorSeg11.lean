/- Layer 8: the answer's Fields and Field, walked. -/
import Derived.Test.YtodgcmjdnfbegaaDoorSeg10
import Derived.BigQuiet
import Derived.Deep.RegionLaw
namespace Go.Proofs.YtodgcmjdnfbegaaDoor
open Go.RowKit

theorem Ss.drop {w : World} {A : Option Addr} {n c : Nat} {T : List (List UInt8)} (h : Ss w A n c T) {q : Nat} (hq : q ≤ n) : Ss w (if c = q then A else Option.map (fun x => x.add q) A) (n - q) (c - q) (T.drop q) := by
  obtain ⟨h1, h2, h3, h4⟩ := h
  refine ⟨by rw [List.length_drop, h1], by omega, by omega, fun hn => ?_⟩
  obtain ⟨b, o, rfl, hc⟩ := h4 (by omega)
  rw [if_neg (by omega)]
  refine ⟨b, o + q, by simp [Addr.add], fun i x hx => ?_⟩
  rw [List.getElem?_drop] at hx
  have := hc _ _ hx
  rw [Nat.add_assoc]
  exact this

theorem step_strs {ops : Array Oper} {o : Oper} {a : Act} {w : World} {K : Act → World → Prop} {Q : Exit → Act → World → Prop} {E : Prop} (hgd : o.guard = none) (s x : Operand)
    (ho : o.op = .call { callee := .builtin .append, args := #[s, x], argTypes := #[39, 39] }) (base : Nat)
    (v : Value) (T : List (List UInt8)) (hs : a.eval s = v) (hown : OwnS w base v T) (A : Option Addr) (m c : Nat) (U : List (List UInt8)) (hx : a.eval x = .slice A m c) (hU : Ss w A m c U) (h0 : 0 < m) (hn : T.length + m ≤ 1099511627776) (hbase : base ≤ w.heap.size)
    (h : ∀ v' w', OwnS w' base v' (T ++ U) → Below base w w' → w.grownBy w' v.ownBlock → K (a.put o.dst v') w') :
    if Region.wanted o (yielded ops a.tmps) = true then Oper.wp Tryd.prog o a w K Q else E := by
  have hw : Region.wanted o (yielded ops a.tmps) = true := by simp [Region.wanted, hgd]
  rw [if_pos hw]
  have hi : (Tryd.prog.info? 9).map (fun i => (i.zero, i.size, i.bytes)) = some (some (.string ByteArray.empty), 1, 16) := by kernel_rfl
  obtain ⟨i, hi, hzz⟩ := Option.map_eq_some_iff.1 hi
  simp only [Prod.mk.injEq] at hzz
  have hUl := hU.len
  obtain ⟨b, off, rfl, _, hc⟩ := hU.at_ h0
  obtain ⟨v', w', hrun, h2, h3, _, _⟩ := run_append_own_at (P := Tryd.prog) w base 39 o.type 9 i (.string ByteArray.empty) 1 16 Tryd.underlying39 hi hzz.1 hzz.2.1 hzz.2.2 rfl (by decide) v T.length (T.map str) hown ⟨b, off, none⟩ m c (U.map str) (by rw [List.length_map, hUl, Nat.mul_one])
    (fun j z hz => by
      rw [List.getElem?_map] at hz
      cases hj : U[j]? with
      | none => rw [hj] at hz; cases hz
      | some y =>
        rw [hj] at hz
        simp only [Option.map_some, Option.some.injEq] at hz
        subst hz
        rw [Addr.add_lit]
        exact hc j y hj) (fun z hz => by
      obtain ⟨y, _, rfl⟩ := List.mem_map.1 hz
      rfl) (by simp only [maxLen]; omega) (by omega) hbase
  unfold Oper.wp
  simp [execOp, ho, resolve, invoke, builtin, hs, hx, hrun, Result.andThen]
  refine h v' w' ?_ ((Below.refl _ _).grown h3 hbase fun k hk => (World.ownsRow.lt hown k hk).1) h3
  unfold OwnS
  rw [List.length_append, List.map_append, hUl]
  exact h2

theorem strIdx (x : ByteArray) (j : Nat) (h : j < x.size) (z : Int) (hz : z = (j : Int)) (W : World) : (Instr.index 9 (.string x) (.int .i64 z)).run Tryd.prog W = .ok (u8 x[j]) W := by
  subst hz
  simp [Instr.index, asIntOf, run_underlying Tryd.underlying9, go_sem, h]

set_option maxHeartbeats 8000000 in
set_option maxRecDepth 100000 in
theorem refFields (s : ByteArray) (d : Sgn) (w : World) (hs : s.size ≤ 1000000) : Calls Tryd.prog 27 #[.string s, d.v] w (RetSs w (fieldsD s d.a)) := by
  have HB0 := Lib.hid (boxSgn_below d w)
  have HX0 : Hid (BoxS d w.heap.size (boxSgn d w)) := Lib.hid (heap_alloc_new w _)
  have HS := Lib.hid hs
  obtain ⟨c0, c1, c2, c3, c4⟩ := HX0.out.cells
  clear hs
  by_cases hm : nameS s = mshB
  · have d1 := name_t hm
    by_cases h4 : s.size < 4
    · have d2 : decide ((s.size : Int) < 4) = true := by simp; omega
      have hf : fieldsD s d.a = [] := by
        unfold fieldsD
        rw [if_pos hm]
        unfold behD
        rw [if_neg (by omega)]
      have HFF := Lib.hid hf
      clear hf hm h4
      go_enter Tryd.func27, Tryd.ntmps27
      go_wp2_with (fail)
      refine (refName s _).mono ?_
      rintro e w1 ⟨rfl, rfl⟩
      go_wp2_with (fail)
      go_quiet (fail)
      go_wp2_with (fail)
      go_ret
      exact RetSs.nil HFF.out (drawN_below HB0.out _)
    · have d2 : decide ((s.size : Int) < 4) = false := by simp; omega
      have h3 : 3 < s.size := by omega
      have ix := fun W => strIdx s 3 h3 3 rfl W
      have hix : s.data[3]'h3 = s.data.toList.getD 3 0 := by
        rw [List.getD_eq_getElem?_getD, List.getElem?_eq_getElem (by simpa using h3)]; rfl
      by_cases hc : s.data.toList.getD 3 0 = d.a
      · have d3 : ((((s.data[3]'h3).toNat : Nat) : Int) != ((d.a.toNat : Nat) : Int)) = false := by rw [hix, hc]; simp
        have d4 : ((((s[3]'h3).toNat : Nat) : Int) != ((d.a.toNat : Nat) : Int)) = false := d3
        have hb : behD s d.a = some (s.extract 4 s.size) := if_pos ⟨h3, hc⟩
        have hex : s.extract 3 4 = txt [d.a] := by
          apply ba_ext
          rw [ex_list, List.drop_eq_getElem_cons (by simpa using h3)]
          rw [show 4 - 3 = 1 from rfl, List.take_succ_cons, List.take_zero]
          rw [← hc, List.getD_eq_getElem?_getD, List.getElem?_eq_getElem (by simpa using h3)]
          rfl
        have hf : fieldsD s d.a = [d.a] :: cutAt d.a (s.extract 4 s.size).data.toList := by unfold fieldsD; rw [if_pos hm, hb]
        have HFF := Lib.hid hf
        have HEX := Lib.hid hex
        have h44 : (4 : Int) ≤ s.size := by omega
        have HR : Hid ((s.extract 4 s.size).size ≤ 1000000) := Lib.hid (by rw [ByteArray.size_extract]; have := HS.out; omega)
        have HCL : Hid (0 < (cutAt d.a (s.extract 4 s.size).data.toList).length ∧ (cutAt d.a (s.extract 4 s.size).data.toList).length ≤ 1000001) := Lib.hid ⟨by rw [cutAt_length]; omega, by have := cut_le d.a (s.extract 4 s.size); have := HR.out; omega⟩
        clear hb hf hm h4 hix hc hex
        go_enter Tryd.func27, Tryd.ntmps27
        go_wp2_with (fail)
        refine (refName s _).mono ?_
        rintro e w1 ⟨rfl, rfl⟩
        go_wp2_with (fail)
        go_quiet (fail)
        go_wp2_with (fail)
        have HB1 : Hid (Below w.heap.size w ((boxSgn d w).drewN nq)) := Lib.hid (drawN_below HB0.out nq)
        have HX1 : Hid (BoxS d w.heap.size ((boxSgn d w).drewN nq)) := Lib.hid (HX0.out.below (drawN_below (Below.refl _ _) nq))
        rw [show (w.alloc (.cells #[.int .u8 (d.a.toNat : Int), .int .u8 (d.b.toNat : Int), .int .u8 (d.c.toNat : Int), .int .u8 (d.d.toNat : Int), .int .u8 (d.e.toNat : Int)] 25)).drewN nq = (boxSgn d w).drewN nq from rfl]
        clear c0 c1 c2 c3 c4
        generalize (boxSgn d w).drewN nq = w1 at *
        obtain ⟨c0, c1, c2, c3, c4⟩ := HX1.out.cells
        have c0a : (w1.alloc (.cells #[.string (s.extract 3 4)] 9)).cell? ⟨w.heap.size, 0, none⟩ = some (u8 d.a) := (((Below.refl w1.heap.size w1).alloc (Nat.le_refl _) _).cell (p := ⟨w.heap.size, 0, none⟩) (Array.getElem?_eq_some_iff.1 HX1.out).1).trans c0
        have tok1 : Hid True := Lib.hid trivial
        have tok2 : Hid True := Lib.hid trivial
        clear c1 c2 c3 c4 d1 d2 d3 d4 ix
        have HONE : Hid (∀ (W : World) (B : Nat), B ≤ W.heap.size → OwnS (W.alloc (.cells #[.string (s.extract 3 4)] 9)) B (.slice (some ⟨W.heap.size, 0, none⟩) 1 1) [[d.a]]) := Lib.hid (fun W B hB => by rw [HEX.out]; exact OwnS.one W [d.a] hB)
        obtain ⟨U, hU⟩ : ∃ U, U = cutAt d.a (s.extract 4 s.size).data.toList := ⟨_, rfl⟩
        have HU := Lib.hid hU
        rw [← hU] at HCL HFF
        clear hU
        go_region_law (first
          | (have _t := tok1; go_loud (refine step_strs rfl (.tmp 25) (.tmp 30) rfl w.heap.size _ [[d.a]] rfl (by first | exact (HONE.out w1 w.heap.size HB1.out.size).below ((Below.refl _ _).drew.trans HBCC.out) | exact (HONE.out w1 w.heap.size HB1.out.size).below HBCC.out | exact HONE.out wC w.heap.size HBC.out.size) A2 U.length c2' U rfl (by first | exact HSC.out | exact HSC.out.below ((Below.refl _ _).alloc (Nat.le_refl _) _)) HCL.out.1 (by have := HCL.out.2; simp; omega) (by first | exact HBC.out.size | exact (HBC.out.alloc HBC.out.size _).size) ?_)
             intro v3 w3 hown3 hb3 _
             have HB3 : Hid (Below w.heap.size w w3) := Lib.hid (by first | exact HBC.out.trans hb3 | exact (HBC.out.alloc HBC.out.size _).trans hb3)
             obtain ⟨A3, c3', rfl, hS3, _⟩ := hown3.ss
             have HS3 := Lib.hid hS3
             clear tok1 hown3 hb3 hS3 _t)
          | (go_simp; go_at_call 52; have _t := tok2; go_loud ((refine (refCut (s.extract 4 s.size) d.a _ (by have := HR.out; omega)).mono ?_; rintro e wC ⟨A2, c2', rfl, hS2, hbC⟩; rw [← HU.out] at hS2 ⊢; have HSC := Lib.hid hS2; have HBC : Hid (Below w.heap.size w wC) := Lib.hid (by first | exact (HB1.out.alloc HB1.out.size _).drew.trans (hbC.mono (HB1.out.alloc HB1.out.size _).drew.size) | exact HB1.out.drew.trans (hbC.mono HB1.out.drew.size) | exact HB1.out.trans (hbC.mono HB1.out.size)); have HBCC := Lib.hid hbC; clear tok2 hS2 hbC _t))))
        all_goals
          go_wp2_with (fail)
          go_ret
          refine ⟨A3, c3', ?_, ?_, HB3.out⟩
          · rw [HFF.out]; rfl
          · rw [HFF.out]; exact HS3.out
      · have d3 : ((((s.data[3]'h3).toNat : Nat) : Int) != ((d.a.toNat : Nat) : Int)) = true := by
          rw [hix, bne_iff_ne]; intro e; exact hc (UInt8.toNat_inj.1 (by omega))
        have d4 : ((((s[3]'h3).toNat : Nat) : Int) != ((d.a.toNat : Nat) : Int)) = true := d3
        have hf : fieldsD s d.a = [] := by
          unfold fieldsD
          rw [if_pos hm]
          unfold behD
          rw [if_neg (fun h => hc h.2)]
        have HFF := Lib.hid hf
        clear hf hm h4 hix hc
        go_enter Tryd.func27, Tryd.ntmps27
        go_wp2_with (fail)
        refine (refName s _).mono ?_
        rintro e w1 ⟨rfl, rfl⟩
        go_wp2_with (fail)
        go_quiet (fail)
        go_wp2_with (fail)
        go_ret
        exact RetSs.nil HFF.out (drawN_below HB0.out _)
  · have d1 := name_f hm
    have hf : fieldsD s d.a = (cutAt d.a s.data.toList).drop 1 := by unfold fieldsD; rw [if_neg hm, List.drop_one]
    have HFF := Lib.hid hf
    clear hf hm
    go_enter Tryd.func27, Tryd.ntmps27
    go_wp2_with (fail)
    refine (refName s _).mono ?_
    rintro e w1 ⟨rfl, rfl⟩
    go_wp2_with (fail)
    refine (refCut s d.a _ (by have := HS.out; omega)).mono ?_
    rintro e w2 ⟨A, c, rfl, hS, hb2⟩
    have HT := Lib.hid hS
    have HB2 := Lib.hid (HB0.out.trans (hb2.mono HB0.out.size))
    have hl0 : (1 : Int) ≤ ((cutAt d.a s.data.toList).length : Int) := by have := cutAt_length d.a s.data.toList; omega
    have HL0 : Hid (1 ≤ (cutAt d.a s.data.toList).length) := Lib.hid (by omega)
    obtain ⟨b, o, rfl, _, _⟩ := hS.at_ (by omega)
    have hle := hS.le
    have hmx := hS.max
    generalize cutAt d.a s.data.toList = T at *
    obtain ⟨m1, hm1⟩ : ∃ m1 : Nat, (T.length : Int) - 1 = (m1 : Int) := ⟨T.length - 1, by omega⟩
    have HM1 : Hid (m1 = T.length - 1) := Lib.hid (by omega)
    clear hS hb2 c0 c1 c2 c3 c4
    by_cases hc1 : c = 1
    · subst hc1
      have HD := Lib.hid (HT.out.drop (q := 1) HL0.out)
      rw [if_pos rfl] at HD
      have HTL : Hid (T.length - 1 = 0) := Lib.hid (by have := HT.out.le; omega)
      go_wp2_with (fail)
      go_ret
      have h1 : fieldsD s d.a = [] := by
        rw [HFF.out]
        exact List.drop_eq_nil_of_le (by have := HTL.out; omega)
      refine ⟨some ⟨b, o, none⟩, 0, by rw [h1]; rfl, ?_, HB2.out⟩
      rw [h1]
      exact Ss.nil _ _ _ (by simp [maxLen])
    · have HD := Lib.hid (HT.out.drop (q := 1) HL0.out)
      rw [if_neg hc1] at HD
      go_wp2_with (fail)
      go_ret
      refine ⟨some ⟨b, o + 1, none⟩, c - 1, ?_, ?_, HB2.out⟩
      · rw [HFF.out, List.length_drop]; rfl
      · rw [HFF.out, List.length_drop]
        have := HD.out
        simp only [Option.map_some, Addr.add] at this
        exact this

theorem fieldsD_len (s : ByteArray) (c : UInt8) : (fieldsD s c).length ≤ s.size + 1 := by
  have h1 := cut_le c s
  unfold fieldsD
  split
  · split
    · simp
    · rename_i r hb
      have h2 := behD_size hb
      have h3 := cut_le c r
      simp; omega
  · rw [List.length_tail]; omega

end Go.Proofs.YtodgcmjdnfbegaaDoor
