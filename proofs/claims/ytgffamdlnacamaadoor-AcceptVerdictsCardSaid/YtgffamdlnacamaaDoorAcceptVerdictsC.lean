/- Laid together: Tail, Ref09, Ref09c, SegMA, Txt, Ref09w, RefBld10, Ref04, Ref11, AcceptVerdictsW. -/
import Derived.Test.YtgffamdlnacamaaDoorLater
import Derived.StillTail
import Derived.BigQuiet
import Derived.Test.YtgffamdlnacamaaDoorMsh4
import Derived.Test.YtgffamdlnacamaaDoorHdRow
import Derived.Test.YtgffamdlnacamaaDoorSegMakesM
import Derived.BigRegion
import Derived.Test.YtgffamdlnacamaaDoorMsh2
import Derived.Test.YtgffamdlnacamaaDoorSegQ
import Derived.Laws.AppendOwnNone
import Derived.Deep.RegionHeld3
import Derived.Test.YtgffamdlnacamaaDoorConv
import Derived.Test.YtgffamdlnacamaaDoorRefCut
import Derived.Laws.Tables
import Derived.Test.YtgffamdlnacamaaDoorMsh6
import Derived.Test.YtgffamdlnacamaaDoorAckP
import Derived.Test.YtgffamdlnacamaaDoorFrame2
import Derived.Test.YtgffamdlnacamaaDoorAccP

/- A region that draws its order, whose first operations only read, and whose last ones do what they like: one walk, in the order of the text, by the cheap step. -/
namespace Go.Proofs.YtgffamdlnacamaaDoor
open Go.RowKit

/-- this world -/
structure Here (w : World) where
  u : World
  h : u = w
instance (w : World) : Nonempty (Here w) := ⟨⟨w, rfl⟩⟩
theorem still_of_quiet {P : Program} {o : Oper} {a : Act} {W : World} {K : Act → Prop} (h : o.quiet P a (fun w' => ∃ m : Here W, w' = m.u) K) : o.still P a W K := by
  obtain ⟨v, h1, h2⟩ := h
  have h3 := h1 W ⟨⟨W, rfl⟩, rfl⟩
  unfold Oper.quietAt at h3
  unfold Oper.still
  generalize (execOp a.eval o).run P W = r at *
  cases r with
  | ok n w' =>
    cases n with
    | value u => obtain ⟨rfl, rfl⟩ := h3; exact ⟨rfl, h2⟩
    | skip => obtain ⟨rfl, rfl⟩ := h3; exact ⟨rfl, h2⟩
    | enter f args =>
      obtain ⟨rfl, hc⟩ := h3
      exact ⟨rfl, v, hc.mono (fun e w'' hh => ⟨hh.1, by obtain ⟨m, rfl⟩ := hh.2; exact m.h⟩), h2⟩
    | _ => cases h3
  | halt x w' => cases h3
theorem wpStill_of_quiet {P : Program} {ops : Array Oper} {W : World} {Q : Act → Prop} : ∀ (l : List Oper) (a : Act), wpQuiet P ops (fun w' => ∃ m : Here W, w' = m.u) Q l a → wpStill P ops W Q l a
  | [], _, h => h
  | o :: rest, a, h => by
    unfold wpQuiet at h
    unfold wpStill
    split
    · rename_i hw
      rw [if_pos hw] at h
      exact Oper.still_mono (fun a1 ha => wpStill_of_quiet rest a1 ha) (still_of_quiet h)
    · rename_i hw
      rw [if_neg hw] at h
      exact wpStill_of_quiet rest _ h
theorem region_tail {P : Program} {id : Nat} {Q : Exit → Act → World → Prop} {a : Act} {w : World} {l : List Oper} (n : Nat) (hm : P.follows .mixedOrders = true) (hB : Region.lexTailB .any l.toArray n = true)
    (h : wpQuiet P l.toArray (fun w' => ∃ m : Here w.drew, w' = m.u) (fun a' => wpList P l.toArray Q (l.drop n) a' w.drew) (l.take n) a) : (Code.region id l.toArray true).wp P Q a w :=
  wp_region_still_tail n hm hB (wpStill_of_quiet _ _ h)
theorem Here.cell {w : World} {a : Addr} {v : Value} (h : w.cell? a = some v) (n : Here w.drew) : n.u.cell? a = some v := by
  rw [n.h]; exact h
end Go.Proofs.YtgffamdlnacamaaDoor

/- Layer 9's answer: a message's head, walked. -/
namespace Go.Proofs.YtgffamdlnacamaaDoor
open Go.RowKit

theorem cutAt_head {c x : UInt8} {r : List UInt8} (h : x ≠ c) : ∃ y t, cutAt c r = y :: t ∧ cutAt c (x :: r) = (x :: y) :: t := by
  cases hr : cutAt c r with
  | nil => exact absurd hr (cutAt_ne _ _)
  | cons y t =>
    refine ⟨y, t, rfl, ?_⟩
    conv => lhs; unfold cutAt
    rw [if_neg h, hr]
theorem seg0_name {l : List UInt8} (h : (readD l).2 = 0) : nameS (txt ((splitD l).getD 0 [])) = mshB := by
  have h3 : l.take 3 = [77, 83, 72] := by
    unfold readD at h
    split at h
    · cases h
    · split at h
      · cases h
      · rename_i _ h2
        exact Decidable.not_not.1 (fun e => h2 (.inl e))
  obtain ⟨r, rfl⟩ : ∃ r, l = 77 :: 83 :: 72 :: r := ⟨l.drop 3, by have := List.take_append_drop 3 l; rw [h3] at this; exact this.symm⟩
  obtain ⟨y1, t1, _, e1⟩ := cutAt_head (c := 13) (x := 72) (r := r) (by decide)
  obtain ⟨y2, t2, f2, e2⟩ := cutAt_head (c := 13) (x := 83) (r := 72 :: r) (by decide)
  obtain ⟨y3, t3, f3, e3⟩ := cutAt_head (c := 13) (x := 77) (r := 83 :: 72 :: r) (by decide)
  rw [e1] at f2
  rw [e2] at f3
  obtain ⟨rfl, rfl⟩ := List.cons.inj f2
  obtain ⟨rfl, rfl⟩ := List.cons.inj f3
  have hz : (splitD (77 :: 83 :: 72 :: r)).getD 0 [] = 77 :: 83 :: 72 :: y1 := by
    unfold splitD
    rw [e3]
    split
    · rename_i hl
      cases t1 with
      | nil => simp at hl
      | cons b t => rfl
    · rfl
  rw [hz]
  exact nameS_of mshB y1 rfl
/-- texts in a row of new memory -/
def RetOs (w : World) (T : List (List UInt8)) (e : Ending) (w' : World) : Prop :=
  ∃ v, e = .returned v ∧ OwnS w' w.heap.size v T ∧ Below w.heap.size w w'

set_option maxHeartbeats 8000000 in
set_option maxRecDepth 100000 in
theorem refFieldsM (s : ByteArray) (d : Sgn) (w : World) (hs : s.size ≤ 1000000) (hm : nameS s = mshB) : Calls Tryd.prog 49 #[.string s, d.v] w (RetOs w (fieldsD s d.a)) := by
  have HB0 := Lib.hid (boxSgn_below d w)
  have HX0 : Hid (BoxS d w.heap.size (boxSgn d w)) := Lib.hid (heap_alloc_new w _)
  have HS := Lib.hid hs
  obtain ⟨c0, c1, c2, c3, c4⟩ := HX0.out.cells
  clear hs
  · have d1 := name_t hm
    by_cases h4 : s.size < 4
    · have d2 : decide ((s.size : Int) < 4) = true := by simp; omega
      have hf : fieldsD s d.a = [] := by
        unfold fieldsD
        rw [if_pos hm]
        unfold behD
        rw [if_neg (by omega)]
      have HFF := Lib.hid hf
      clear hf hm h4
      go_enter Tryd.func49, Tryd.ntmps49
      go_wp2_with (fail)
      refine (refName s _).mono ?_
      rintro e w1 ⟨rfl, rfl⟩
      go_wp2_with (fail)
      go_quiet (fail)
      go_wp2_with (fail)
      go_ret
      exact ⟨_, rfl, by rw [HFF.out]; exact OwnS.nil _ _, drawN_below HB0.out _⟩
    · have d2 : decide ((s.size : Int) < 4) = false := by simp; omega
      have h3 : 3 < s.size := by omega
      have ix := fun W => strIdx s 3 h3 3 rfl W
      have hix : s.data[3]'h3 = s.data.toList.getD 3 0 := by
        rw [List.getD_eq_getElem?_getD, List.getElem?_eq_getElem (by simpa using h3)]; rfl
      by_cases hc : s.data.toList.getD 3 0 = d.a
      · have d3 : ((((s.data[3]'h3).toNat : Nat) : Int) != ((d.a.toNat : Nat) : Int)) = false := by rw [hix, hc]; simp
        have d4 : ((((s[3]'h3).toNat : Nat) : Int) != ((d.a.toNat : Nat) : Int)) = false := d3
        have hb : behD s d.a = some (s.extract 4 s.size) := if_pos ⟨h3, hc⟩
        have hex : s.extract 3 4 = txt [d.a] := by
          apply ba_ext
          rw [ex_list, List.drop_eq_getElem_cons (by simpa using h3)]
          rw [show 4 - 3 = 1 from rfl, List.take_succ_cons, List.take_zero]
          rw [← hc, List.getD_eq_getElem?_getD, List.getElem?_eq_getElem (by simpa using h3)]
          rfl
        have hf : fieldsD s d.a = [d.a] :: cutAt d.a (s.extract 4 s.size).data.toList := by unfold fieldsD; rw [if_pos hm, hb]
        have HFF := Lib.hid hf
        have HEX := Lib.hid hex
        have h44 : (4 : Int) ≤ s.size := by omega
        have HR : Hid ((s.extract 4 s.size).size ≤ 1000000) := Lib.hid (by rw [ByteArray.size_extract]; have := HS.out; omega)
        have HCL : Hid (0 < (cutAt d.a (s.extract 4 s.size).data.toList).length ∧ (cutAt d.a (s.extract 4 s.size).data.toList).length ≤ 1000001) := Lib.hid ⟨by rw [cutAt_length]; omega, by have := cut_le d.a (s.extract 4 s.size); have := HR.out; omega⟩
        clear hb hf hm h4 hix hc hex
        go_enter Tryd.func49, Tryd.ntmps49
        go_wp2_with (fail)
        refine (refName s _).mono ?_
        rintro e w1 ⟨rfl, rfl⟩
        go_wp2_with (fail)
        go_quiet (fail)
        go_wp2_with (fail)
        have HB1 : Hid (Below w.heap.size w ((boxSgn d w).drewN nq)) := Lib.hid (drawN_below HB0.out nq)
        have HX1 : Hid (BoxS d w.heap.size ((boxSgn d w).drewN nq)) := Lib.hid (HX0.out.below (drawN_below (Below.refl _ _) nq))
        rw [show (w.alloc (.cells #[.int .u8 (d.a.toNat : Int), .int .u8 (d.b.toNat : Int), .int .u8 (d.c.toNat : Int), .int .u8 (d.d.toNat : Int), .int .u8 (d.e.toNat : Int)] 25)).drewN nq = (boxSgn d w).drewN nq from rfl]
        clear c0 c1 c2 c3 c4
        generalize (boxSgn d w).drewN nq = w1 at *
        obtain ⟨c0, c1, c2, c3, c4⟩ := HX1.out.cells
        have c0a : (w1.alloc (.cells #[.string (s.extract 3 4)] 9)).cell? ⟨w.heap.size, 0, none⟩ = some (u8 d.a) := (((Below.refl w1.heap.size w1).alloc (Nat.le_refl _) _).cell (p := ⟨w.heap.size, 0, none⟩) (Array.getElem?_eq_some_iff.1 HX1.out).1).trans c0
        have tok1 : Hid True := Lib.hid trivial
        have tok2 : Hid True := Lib.hid trivial
        clear c1 c2 c3 c4 d1 d2 d3 d4 ix
        have HONE : Hid (∀ (W : World) (B : Nat), B ≤ W.heap.size → OwnS (W.alloc (.cells #[.string (s.extract 3 4)] 9)) B (.slice (some ⟨W.heap.size, 0, none⟩) 1 1) [[d.a]]) := Lib.hid (fun W B hB => by rw [HEX.out]; exact OwnS.one W [d.a] hB)
        obtain ⟨U, hU⟩ : ∃ U, U = cutAt d.a (s.extract 4 s.size).data.toList := ⟨_, rfl⟩
        have HU := Lib.hid hU
        rw [← hU] at HCL HFF
        clear hU
        go_region_law (first
          | (have _t := tok1; go_loud (refine step_strs rfl (.tmp 25) (.tmp 30) rfl w.heap.size _ [[d.a]] rfl (by first | exact (HONE.out w1 w.heap.size HB1.out.size).below ((Below.refl _ _).drew.trans HBCC.out) | exact (HONE.out w1 w.heap.size HB1.out.size).below HBCC.out | exact HONE.out wC w.heap.size HBC.out.size) A2 U.length c2' U rfl (by first | exact HSC.out | exact HSC.out.below ((Below.refl _ _).alloc (Nat.le_refl _) _)) HCL.out.1 (by have := HCL.out.2; simp; omega) (by first | exact HBC.out.size | exact (HBC.out.alloc HBC.out.size _).size) ?_)
             intro v3 w3 hown3 hb3 _
             have HB3 : Hid (Below w.heap.size w w3) := Lib.hid (by first | exact HBC.out.trans hb3 | exact (HBC.out.alloc HBC.out.size _).trans hb3)
             have HO3 := Lib.hid hown3
             obtain ⟨A3, c3', rfl, hS3, _⟩ := hown3.ss
             have HS3 := Lib.hid hS3
             clear tok1 hown3 hb3 hS3 _t)
          | (go_simp; go_at_call 82; have _t := tok2; go_loud ((refine (refCut (s.extract 4 s.size) d.a _ (by have := HR.out; omega)).mono ?_; rintro e wC ⟨A2, c2', rfl, hS2, hbC⟩; rw [← HU.out] at hS2 ⊢; have HSC := Lib.hid hS2; have HBC : Hid (Below w.heap.size w wC) := Lib.hid (by first | exact (HB1.out.alloc HB1.out.size _).drew.trans (hbC.mono (HB1.out.alloc HB1.out.size _).drew.size) | exact HB1.out.drew.trans (hbC.mono HB1.out.drew.size) | exact HB1.out.trans (hbC.mono HB1.out.size)); have HBCC := Lib.hid hbC; clear tok2 hS2 hbC _t))))
        all_goals
          go_wp2_with (fail)
          go_ret
          exact ⟨_, rfl, by rw [HFF.out]; exact HO3.out, HB3.out⟩
      · have d3 : ((((s.data[3]'h3).toNat : Nat) : Int) != ((d.a.toNat : Nat) : Int)) = true := by
          rw [hix, bne_iff_ne]; intro e; exact hc (UInt8.toNat_inj.1 (by omega))
        have d4 : ((((s[3]'h3).toNat : Nat) : Int) != ((d.a.toNat : Nat) : Int)) = true := d3
        have hf : fieldsD s d.a = [] := by
          unfold fieldsD
          rw [if_pos hm]
          unfold behD
          rw [if_neg (fun h => hc h.2)]
        have HFF := Lib.hid hf
        clear hf hm h4 hix hc
        go_enter Tryd.func49, Tryd.ntmps49
        go_wp2_with (fail)
        refine (refName s _).mono ?_
        rintro e w1 ⟨rfl, rfl⟩
        go_wp2_with (fail)
        go_quiet (fail)
        go_wp2_with (fail)
        go_ret
        exact ⟨_, rfl, by rw [HFF.out]; exact OwnS.nil _ _, drawN_below HB0.out _⟩

/-- how long a slice is -/
def sliceLen : Value → Nat
  | .slice _ n _ => n
  | _ => 0
def padD (F : List (List UInt8)) (j : Nat) : List (List UInt8) := F ++ List.replicate j []
theorem padD_zero (F : List (List UInt8)) : padD F 0 = F := by simp [padD]
theorem padD_succ (F : List (List UInt8)) (j : Nat) : padD F j ++ [[]] = padD F (j + 1) := by
  unfold padD
  rw [List.append_assoc, ← List.replicate_succ']
theorem padD_len (F : List (List UInt8)) (j : Nat) : (padD F j).length = F.length + j := by simp [padD]
theorem padD_getD (F : List (List UInt8)) (j i : Nat) : (padD F j).getD i [] = F.getD i [] := by
  unfold padD
  rw [List.getD_eq_getElem?_getD, List.getD_eq_getElem?_getD]
  rcases Nat.lt_or_ge i F.length with h | h
  · rw [List.getElem?_append_left h]
  · rw [List.getElem?_append_right h, List.getElem?_eq_none h]
    cases hx : (List.replicate j ([] : List UInt8))[i - F.length]? with
    | none => rfl
    | some y =>
      have := List.eq_of_mem_replicate (List.mem_of_getElem? hx)
      subst this
      rfl
theorem BoxS.keep {d : Sgn} {g B : Nat} {w w' : World} (k : BoxS d g w) (hb : Below B w w') (hg : g < B) : BoxS d g w' := (hb.block g hg).trans k
theorem pad_cell {w : World} {B g c j : Nat} {F : List (List UInt8)} (h : OwnS w B (.slice (some ⟨g, 0, none⟩) (padD F j).length c) (padD F j)) (i : Nat) (hi : 2 + i < (padD F j).length) : w.cell? ⟨g, 2 + i, none⟩ = some (.string (textsD F i)) := by
  rw [h.cell (j := 2 + i) (x := (padD F j).getD (2 + i) []) (by rw [List.getD_eq_getElem?_getD, List.getElem?_eq_getElem hi]; rfl), padD_getD]
  rfl

theorem idxAt (g M c k : Nat) (z : Int) (hz : z = (k : Int)) (h : k < M) (W : World) : (Instr.indexAt 47 (.slice (some ⟨g, 0, none⟩) M c) (.int .i64 z)).run Tryd.prog W = .ok (.pointer (some ⟨g, k, none⟩)) W := by
  subst hz
  simp [Instr.indexAt, asIntOf, run_underlying Tryd.underlying47, go_sem]
  intro h3
  omega
theorem cell_ne {b G : Nat} (h : b ≠ G) (W : World) (j : Nat) (u : Value) (o : Nat) : (W.setCell ⟨G, j, none⟩ u).cell? ⟨b, o, none⟩ = W.cell? ⟨b, o, none⟩ := by
  unfold World.cell?
  rw [Below.heap_setCell W ⟨G, j, none⟩ u b h]
theorem drew_cell (W : World) (a : Addr) : W.drew.cell? a = W.cell? a := rfl

set_option maxHeartbeats 16000000 in
set_option maxRecDepth 100000 in
theorem refRead09 (A : Option Addr) (n c : Nat) (l : List UInt8) (w : World) (hB : Bs w A n c l) (hn : n ≤ 1000000) :
    Calls Tryd.prog 25 #[.slice A n c] w fun e w' => e = .returned (.tuple #[(readH l).1.v, .int .i64 (readH l).2]) ∧ Below w.heap.size w w' := by
  have HL := Lib.hid hB.len
  have HN := Lib.hid hn
  have HR0 : Hid (BoxH Hd.zero w.heap.size (w.alloc (.cells Hd.zero.cells TH))) := Lib.hid (BoxH.new _ w)
  have HB0 : Hid (Below w.heap.size w (w.alloc (.cells Hd.zero.cells TH))) := Lib.hid (boxHd_below _ w)
  have HBS := Lib.hid (hB.below (boxHd_below Hd.zero w))
  clear hB hn
  go_enter Tryd.func25, Tryd.ntmps25
  go_wp2_with (fail)
  generalize hw0 : w.alloc (.cells #[.int .u8 0, .int .u8 0, .int .u8 0, .int .u8 0, .int .u8 0, .string ⟨#[]⟩, .string ⟨#[]⟩, .string ⟨#[]⟩, .string ⟨#[]⟩, .string ⟨#[]⟩, .string ⟨#[]⟩, .string ⟨#[]⟩, .string ⟨#[]⟩, .string ⟨#[]⟩, .string ⟨#[]⟩] TH) = w0
  rw [show w.alloc (.cells Hd.zero.cells TH) = w0 from hw0] at HR0 HB0 HBS
  clear hw0
  refine (refRead A n c l w0 HBS.out).mono ?_
  rintro e w1 ⟨rfl, hb1⟩
  have HR1 := Lib.hid (HR0.out.below hb1)
  have HB1 := Lib.hid (HB0.out.trans (hb1.mono HB0.out.size))
  have HBS1 := Lib.hid (HBS.out.below hb1)
  clear hb1
  by_cases he : (readD l).2 = 0
  · have HE0 : Hid (readH l = if (fieldsD (txt ((splitD l).getD 0 [])) (readD l).1.a).getD 1 [] = [(readD l).1.b, (readD l).1.c, (readD l).1.d, (readD l).1.e] then (hdTo (readD l).1 (textsD (fieldsD (txt ((splitD l).getD 0 [])) (readD l).1.a)) 10, 0) else (Hd.zero, 11)) := Lib.hid (if_pos he)
    have HSP : Hid (0 < (splitD l).length) := Lib.hid (splitD_pos (by have := readD_long he; omega))
    have HXL : Hid (((splitD l).getD 0 []).length ≤ n) := Lib.hid (by rw [← HL.out]; exact splitD_le)
    have HNM0 := Lib.hid (seg0_name he)
    rw [he]
    obtain ⟨d, hd⟩ : ∃ d, d = (readD l).1 := ⟨_, rfl⟩
    rw [← hd] at HE0 ⊢
    have HR2 : Hid (BoxH Hd.zero w.heap.size (w1.alloc (.cells #[.int .u8 (d.a.toNat : Int), .int .u8 (d.b.toNat : Int), .int .u8 (d.c.toNat : Int), .int .u8 (d.d.toNat : Int), .int .u8 (d.e.toNat : Int)] 25))) := Lib.hid (HR1.out.below ((Below.refl _ _).alloc (Nat.le_refl _) _))
    have HB2 : Hid (Below w.heap.size w (w1.alloc (.cells #[.int .u8 (d.a.toNat : Int), .int .u8 (d.b.toNat : Int), .int .u8 (d.c.toNat : Int), .int .u8 (d.d.toNat : Int), .int .u8 (d.e.toNat : Int)] 25))) := Lib.hid (HB1.out.alloc HB1.out.size _)
    have HD2 : Hid (BoxS d w1.heap.size (w1.alloc (.cells #[.int .u8 (d.a.toNat : Int), .int .u8 (d.b.toNat : Int), .int .u8 (d.c.toNat : Int), .int .u8 (d.d.toNat : Int), .int .u8 (d.e.toNat : Int)] 25))) := Lib.hid (heap_alloc_new w1 _)
    have HBS2 : Hid (Bs (w1.alloc (.cells #[.int .u8 (d.a.toNat : Int), .int .u8 (d.b.toNat : Int), .int .u8 (d.c.toNat : Int), .int .u8 (d.d.toNat : Int), .int .u8 (d.e.toNat : Int)] 25)) A n c l) := Lib.hid (HBS1.out.alloc _)
    have HDN : Hid (w.heap.size < w1.heap.size) := Lib.hid (Array.getElem?_eq_some_iff.1 HR1.out).1
    clear he hd
    go_wp2_with (fail)
    generalize w1.alloc (.cells #[.int .u8 (d.a.toNat : Int), .int .u8 (d.b.toNat : Int), .int .u8 (d.c.toNat : Int), .int .u8 (d.d.toNat : Int), .int .u8 (d.e.toNat : Int)] 25) = w2 at *
    generalize w1.heap.size = D at *
    refine (refSplit A n c l w2 HBS2.out HN.out).mono ?_
    rintro e w3 ⟨A2, c2, rfl, hS, hb3⟩
    have HR3 := Lib.hid (HR2.out.below hb3)
    have HB3 := Lib.hid (HB2.out.trans (hb3.mono HB2.out.size))
    have HD3 := Lib.hid (HD2.out.below hb3)
    obtain ⟨b, o, rfl, _, hc⟩ := hS.read HSP.out
    rw [Nat.add_zero] at hc
    have h0 : (0 : Int) < ((splitD l).length : Int) := by have := HSP.out; omega
    obtain ⟨s, hs⟩ : ∃ s : ByteArray, s = txt ((splitD l).getD 0 []) := ⟨_, rfl⟩
    rw [show str ((splitD l).getD 0 []) = .string s from congrArg Value.string hs.symm] at hc
    rw [← hs] at HE0 HNM0
    have HSZ : Hid (s.size ≤ 1000000) := Lib.hid (by rw [hs, txt_size']; have := HXL.out; have := HN.out; omega)
    obtain ⟨c0, c1, c2', c3, c4⟩ := HD3.out.cells
    obtain ⟨m, hm⟩ : ∃ m, m = (splitD l).length := ⟨_, rfl⟩
    rw [← hm] at h0 ⊢
    clear hb3 hS hs hm HR1 HB1 HBS1 HR2 HB2 HD2 HBS2
    go_wp2_with (fail)
    have HDB : Hid (D < w3.heap.size ∧ w.heap.size < w3.heap.size) := Lib.hid ⟨(Array.getElem?_eq_some_iff.1 HD3.out).1, (Array.getElem?_eq_some_iff.1 HR3.out).1⟩
    refine (refFieldsM s d w3 HSZ.out HNM0.out).mono ?_
    rintro e w4 ⟨v4, rfl, hO4, hb4⟩
    have HR4 := Lib.hid (HR3.out.below hb4)
    have HB4 := Lib.hid (HB3.out.trans (hb4.mono HB3.out.size))
    have HD4 := Lib.hid (HD3.out.below hb4)
    have HBZ := Lib.hid hb4.size
    obtain ⟨Fl, hF⟩ : ∃ Fl, Fl = fieldsD s d.a := ⟨_, rfl⟩
    rw [← hF] at HE0 hO4
    have HFN : Hid (Fl.length ≤ 1000001) := Lib.hid (by have := fieldsD_len s d.a; rw [hF]; have := HSZ.out; omega)
    clear hb4 hF c0 c1 c2' c3 c4 hc HR3 HB3 HD3
    by_cases hl2 : Fl.length < 2
    · as_aux_lemma =>
      have HE : Hid (readH l = (Hd.zero, 11)) := Lib.hid (by
        rw [HE0.out, if_neg]
        rw [List.getD_eq_getElem?_getD, List.getElem?_eq_none (by omega)]
        exact fun e => by cases e)
      obtain ⟨A4, c4', rfl, _, _⟩ := hO4.ss
      obtain ⟨L, hL⟩ : ∃ L, L = Fl.length := ⟨_, rfl⟩
      rw [← hL] at hl2 ⊢
      have d1 : decide ((L : Int) < 2) = true := by simp; omega
      have d2 : (L : Int) < 2 := by omega
      clear hO4 hL hl2
      go_wp2_with (fail)
      go_quiet (fail)
      have HR5 := Lib.hid (HR4.out.below (drawN_below (Below.refl _ _) nq))
      have HB5 := Lib.hid (drawN_below HB4.out nq)
      generalize w4.drewN nq = w5 at *
      go_wp2_with (with_reducible refine wpList_storeH w.heap.size Hd.zero Hd.zero (by kernel_rfl) (by kernel_rfl) HR5.out ?_)
      have HR6 := Lib.hid (HR5.out.setRow Hd.zero)
      have HB6 := Lib.hid (below_setRow HB5.out (Nat.le_refl _) Hd.zero.cells)
      generalize w5.setRow w.heap.size Hd.zero.cells = w6 at *
      refine bodyPost_ret (v := .tuple #[Hd.zero.v, .int .i64 11]) ?_ rfl ⟨by rw [HE.out], HB6.out⟩
      exact resultsH Tryd.results25 _ _ _ _ _ (by kernel_rfl) (by kernel_rfl) HR6.out
    · obtain ⟨g4, c4', rfl, hg4, hg4', hcap, _⟩ := hO4.form (by omega)
      have HO4 := Lib.hid hO4
      have hx1 := hO4.cell (j := 1) (x := Fl.getD 1 []) (by rw [List.getD_eq_getElem?_getD, List.getElem?_eq_getElem (by omega)]; rfl)
      have HLN : Hid (2 ≤ Fl.length) := Lib.hid (by omega)
      obtain ⟨x, hx⟩ : ∃ x, x = Fl.getD 1 [] := ⟨_, rfl⟩
      rw [← hx] at hx1 HE0
      have HPL := Lib.hid (padD_len Fl)
      obtain ⟨L, hL⟩ : ∃ L, L = Fl.length := ⟨_, rfl⟩
      rw [← hL] at HO4 HLN HFN HPL hl2 ⊢
      have d1 : decide ((L : Int) < 2) = false := by simp; omega
      have d3 : (1 : Int) < (L : Int) := by omega
      have HLF := Lib.hid hL
      obtain ⟨c0, c1, c2', c3, c4⟩ := HD4.out.cells
      clear hx hO4 hL hl2 hcap
      have HR5 : Hid (BoxH Hd.zero w.heap.size (w4.alloc (.cells #[u8 d.b, u8 d.c, u8 d.d, u8 d.e] 5))) := Lib.hid (HR4.out.below ((Below.refl _ _).alloc (Nat.le_refl _) _))
      have HB5 : Hid (Below w.heap.size w (w4.alloc (.cells #[u8 d.b, u8 d.c, u8 d.d, u8 d.e] 5))) := Lib.hid (HB4.out.alloc HB4.out.size _)
      have HD5 : Hid (BoxS d D (w4.alloc (.cells #[u8 d.b, u8 d.c, u8 d.d, u8 d.e] 5))) := Lib.hid (HD4.out.below ((Below.refl _ _).alloc (Nat.le_refl _) _))
      have HO5 : Hid (OwnS (w4.alloc (.cells #[u8 d.b, u8 d.c, u8 d.d, u8 d.e] 5)) w3.heap.size (.slice (some ⟨g4, 0, none⟩) L c4') Fl) := Lib.hid (HO4.out.below ((Below.refl _ _).alloc (Nat.le_refl _) _))
      have HBS5 : Hid (Bs (w4.alloc (.cells #[u8 d.b, u8 d.c, u8 d.d, u8 d.e] 5)) (some ⟨w4.heap.size, 0, none⟩) 4 4 [d.b, d.c, d.d, d.e]) := Lib.hid (Bs.lit w4 [d.b, d.c, d.d, d.e] 5 _ _ rfl rfl rfl (by simp [maxLen]))
      have y1 : (w4.alloc (.cells #[u8 d.b, u8 d.c, u8 d.d, u8 d.e] 5)).cell? ⟨g4, 1, none⟩ = some (str x) := (((Below.refl w4.heap.size w4).alloc (Nat.le_refl _) _).cell (p := ⟨g4, 1, none⟩) hg4').trans hx1
      have hcv := HBS5.out.str (P := Tryd.prog) 22 5 9 Tryd.underlying22 Tryd.underlying5 Tryd.underlying9
      have hcd := (HBS5.out.drew).str (P := Tryd.prog) 22 5 9 Tryd.underlying22 Tryd.underlying5 Tryd.underlying9
      have hne4 : g4 ≠ w4.heap.size := by omega
      have hneD : D ≠ w4.heap.size := by have := HDB.out; have := HBZ.out; omega
      go_wp2_with (fail)
      go_region
      have HWZ : Hid (w3.heap.size ≤ (w4.alloc (.cells #[u8 d.b, u8 d.c, u8 d.d, u8 d.e] 5)).drew.heap.size) := Lib.hid (by show w3.heap.size ≤ (w4.alloc _).heap.size; rw [World.size_alloc]; have := HBZ.out; omega)
      have HR6 : Hid (BoxH Hd.zero w.heap.size (w4.alloc (.cells #[u8 d.b, u8 d.c, u8 d.d, u8 d.e] 5)).drew) := HR5
      have HB6 : Hid (Below w.heap.size w (w4.alloc (.cells #[u8 d.b, u8 d.c, u8 d.d, u8 d.e] 5)).drew) := Lib.hid HB5.out.drew
      have HD6 : Hid (BoxS d D (w4.alloc (.cells #[u8 d.b, u8 d.c, u8 d.d, u8 d.e] 5)).drew) := HD5
      have HO6 : Hid (OwnS (w4.alloc (.cells #[u8 d.b, u8 d.c, u8 d.d, u8 d.e] 5)).drew w3.heap.size (.slice (some ⟨g4, 0, none⟩) L c4') Fl) := HO5
      generalize (w4.alloc (.cells #[u8 d.b, u8 d.c, u8 d.d, u8 d.e] 5)).drew = w5 at *
      clear HR4 HB4 HD4 HR5 HB5 HD5 HO5 HBS5 y1 hcv hcd hne4 hneD c0 c1 c2' c3 c4 hx1 HO4 hg4'
      by_cases hq : x = [d.b, d.c, d.d, d.e]
      · as_aux_lemma =>
        have HE : Hid (readH l = (hdTo d (textsD Fl) 10, 0)) := Lib.hid (by rw [HE0.out, if_pos hq])
        rw [show (x == [d.b, d.c, d.d, d.e]) = true by simpa using hq, Bool.not_true]
        clear hq HE0
        go_wp2_with (fail)
        clear d1 d3
        go_loopw [7] (fun v wr => ∃ j, OwnS wr w3.heap.size v (padD Fl j) ∧ (j = 0 ∨ (padD Fl j).length ≤ 12) ∧ Below w3.heap.size w5 wr) (fun v _ => 12 - sliceLen v)
        case atStart => exact ⟨0, by rw [padD_zero]; exact HO6.out, .inl rfl, Below.refl _ _⟩
        case round =>
          clear HO6
          obtain ⟨wo, rfl⟩ : ∃ wo : World, wo = wr := ⟨_, rfl⟩
          obtain ⟨j, ho, hj, hb⟩ := hrel
          have HO := Lib.hid ho
          have HB := Lib.hid hb
          have HM0 := Lib.hid (padD_len Fl j)
          have HWB : Hid (w3.heap.size ≤ w5.heap.size) := HWZ
          clear hb
          by_cases hlt : (padD Fl j).length < 12
          · as_aux_lemma =>
            obtain ⟨A6, c6, rfl, _, _⟩ := ho.ss
            obtain ⟨M, hM⟩ : ∃ M, M = (padD Fl j).length := ⟨_, rfl⟩
            rw [← hM] at hlt HO HM0 ⊢
            have d5 : decide ((M : Int) < 12) = true := by simp; omega
            have HLT := Lib.hid hlt
            have HMM := Lib.hid hM
            have tok1 : Hid True := Lib.hid trivial
            clear ho hj hlt hM
            go_wp2_with (at_builtin; have _t := tok1; go_loud ((refine wpList_str rfl (.tmp 47) (.tmp 48) rfl w3.heap.size _ (padD Fl j) rfl (HO.out.below ((Below.refl _ wo).alloc (Nat.le_refl _) _)) wo.heap.size [] rfl (heap_alloc_new wo _) (by rw [← HMM.out]; have := HLT.out; omega) (by have := HB.out.size; have := HWB.out; simp; omega) ?_; intro v' w' hown hbel hgr; rw [padD_succ] at hown; obtain ⟨A7, c7, rfl, _, _⟩ := hown.ss; have HOWN := Lib.hid hown; have HB3 : Hid (Below w3.heap.size w5 w') := Lib.hid ((HB.out.alloc (Nat.le_trans HWB.out HB.out.size) _).trans hbel); have HM1 : Hid ((padD Fl (j + 1)).length = M + 1) := Lib.hid (by rw [padD_len]; have := HM0.out; omega); clear tok1 hown hbel hgr _t)))
            go_roundw
            case rel => exact ⟨j + 1, HOWN.out, .inr (by rw [HM1.out]; have := HLT.out; omega), HB3.out⟩
            case measure => rw [HM1.out]; have := HLT.out; simp only [sliceLen]; omega
          · as_aux_lemma =>
            obtain ⟨g6, c6, rfl, hg6, _, _, _⟩ := ho.form (by omega)
            have HDW := Lib.hid (HD6.out.keep HB.out HDB.out.1)
            have HRW := Lib.hid (HR6.out.keep HB.out HDB.out.2)
            have HBW : Hid (Below w.heap.size w wo) := Lib.hid (HB6.out.trans (HB.out.mono (by have := HDB.out.2; omega)))
            have p0 : wo.cell? ⟨g6, 2, none⟩ = some (.string (textsD Fl 0)) := pad_cell ho 0 (by omega)
            have p1 : wo.cell? ⟨g6, 3, none⟩ = some (.string (textsD Fl 1)) := pad_cell ho 1 (by omega)
            have p2 : wo.cell? ⟨g6, 4, none⟩ = some (.string (textsD Fl 2)) := pad_cell ho 2 (by omega)
            have p3 : wo.cell? ⟨g6, 5, none⟩ = some (.string (textsD Fl 3)) := pad_cell ho 3 (by omega)
            have p4 : wo.cell? ⟨g6, 6, none⟩ = some (.string (textsD Fl 4)) := pad_cell ho 4 (by omega)
            have p5 : wo.cell? ⟨g6, 7, none⟩ = some (.string (textsD Fl 5)) := pad_cell ho 5 (by omega)
            have p6 : wo.cell? ⟨g6, 8, none⟩ = some (.string (textsD Fl 6)) := pad_cell ho 6 (by omega)
            have p7 : wo.cell? ⟨g6, 9, none⟩ = some (.string (textsD Fl 7)) := pad_cell ho 7 (by omega)
            have p8 : wo.cell? ⟨g6, 10, none⟩ = some (.string (textsD Fl 8)) := pad_cell ho 8 (by omega)
            have p9 : wo.cell? ⟨g6, 11, none⟩ = some (.string (textsD Fl 9)) := pad_cell ho 9 (by omega)
            obtain ⟨M, hM⟩ : ∃ M, M = (padD Fl j).length := ⟨_, rfl⟩
            rw [← hM] at hlt HO HM0 ⊢
            have d5 : decide ((M : Int) < 12) = false := by simp; omega
            have i2 := fun W => idxAt g6 M c6 2 2 rfl (by omega) W
            have i3 := fun W => idxAt g6 M c6 3 3 rfl (by omega) W
            have i4 := fun W => idxAt g6 M c6 4 4 rfl (by omega) W
            have i5 := fun W => idxAt g6 M c6 5 5 rfl (by omega) W
            have i6 := fun W => idxAt g6 M c6 6 6 rfl (by omega) W
            have i7 := fun W => idxAt g6 M c6 7 7 rfl (by omega) W
            have i8 := fun W => idxAt g6 M c6 8 8 rfl (by omega) W
            have i9 := fun W => idxAt g6 M c6 9 9 rfl (by omega) W
            have i10 := fun W => idxAt g6 M c6 10 10 rfl (by omega) W
            have i11 := fun W => idxAt g6 M c6 11 11 rfl (by omega) W
            obtain ⟨c0, c1, c2', c3, c4⟩ := HDW.out.cells
            obtain ⟨t0, ht0⟩ : ∃ t, t = textsD Fl 0 := ⟨_, rfl⟩
            obtain ⟨t1, ht1⟩ : ∃ t, t = textsD Fl 1 := ⟨_, rfl⟩
            obtain ⟨t2, ht2⟩ : ∃ t, t = textsD Fl 2 := ⟨_, rfl⟩
            obtain ⟨t3, ht3⟩ : ∃ t, t = textsD Fl 3 := ⟨_, rfl⟩
            obtain ⟨t4, ht4⟩ : ∃ t, t = textsD Fl 4 := ⟨_, rfl⟩
            obtain ⟨t5, ht5⟩ : ∃ t, t = textsD Fl 5 := ⟨_, rfl⟩
            obtain ⟨t6, ht6⟩ : ∃ t, t = textsD Fl 6 := ⟨_, rfl⟩
            obtain ⟨t7, ht7⟩ : ∃ t, t = textsD Fl 7 := ⟨_, rfl⟩
            obtain ⟨t8, ht8⟩ : ∃ t, t = textsD Fl 8 := ⟨_, rfl⟩
            obtain ⟨t9, ht9⟩ : ∃ t, t = textsD Fl 9 := ⟨_, rfl⟩
            have HQ : Hid (hdTo d (textsD Fl) 10 = ⟨d, t0, t1, t2, t3, t4, t5, t6, t7, t8, t9⟩) := Lib.hid (by rw [ht0, ht1, ht2, ht3, ht4, ht5, ht6, ht7, ht8, ht9]; rfl)
            rw [← ht0] at p0
            rw [← ht1] at p1
            rw [← ht2] at p2
            rw [← ht3] at p3
            rw [← ht4] at p4
            rw [← ht5] at p5
            rw [← ht6] at p6
            rw [← ht7] at p7
            rw [← ht8] at p8
            rw [← ht9] at p9
            clear ht0 ht1 ht2 ht3 ht4 ht5 ht6 ht7 ht8 ht9
            have hne1 : D ≠ w.heap.size := by have := HDN.out; omega
            have hne2 : g6 ≠ w.heap.size := by have := HDB.out.2; omega
            clear ho hj hlt hM
            go_wp2_with (fail)
            have q0 := Here.cell c0
            have q1 := Here.cell c1
            have q2 := Here.cell c2'
            have q3 := Here.cell c3
            have q4 := Here.cell c4
            have q5 := Here.cell p0
            have q6 := Here.cell p1
            have q7 := Here.cell p2
            have q8 := Here.cell p3
            have q9 := Here.cell p4
            have q10 := Here.cell p5
            have q11 := Here.cell p6
            have q12 := Here.cell p7
            have q13 := Here.cell p8
            have q14 := Here.cell p9
            clear c0 c1 c2' c3 c4 p0 p1 p2 p3 p4 p5 p6 p7 p8 p9
            clear hne1 hne2 HM0 HPL HFN HLN HLF HWB HWZ HBZ HDB HDN HSZ HN HL HXL HSP HNM0 HO HB d5 h0 hg6 hg4
            refine region_tail 31 (by kernel_rfl) (by kernel_rfl) ?_
            simp only [List.take_succ_cons, List.take_zero, List.drop_succ_cons, List.drop_zero]
            repeat (go_big_quiet_step (fail))
            refine wpQuiet_nil ?_
            clear q0 q1 q2 q3 q4 q5 q6 q7 q8 q9 q10 q11 q12 q13 q14
            have HRD : Hid (BoxH Hd.zero w.heap.size wo.drew) := Lib.hid (BoxH.drew HRW.out)
            have HBD : Hid (Below w.heap.size w wo.drew) := Lib.hid HBW.out.drew
            generalize wo.drew = wd at *
            as_aux_lemma =>
            go_wp2_with (first | (with_reducible refine wpList_buildH (⟨d, t0, t1, t2, t3, t4, t5, t6, t7, t8, t9⟩ : Hd) (⟨d, t0, t1, t2, t3, t4, t5, t6, t7, t8, t9⟩ : Hd).parts (by kernel_rfl) (built_parts _) ?_) | (with_reducible refine wpList_storeH w.heap.size (⟨d, t0, t1, t2, t3, t4, t5, t6, t7, t8, t9⟩ : Hd) Hd.zero (by kernel_rfl) (by kernel_rfl) HRD.out ?_))
            have HR3 := Lib.hid (HRD.out.setRow (⟨d, t0, t1, t2, t3, t4, t5, t6, t7, t8, t9⟩ : Hd))
            have HB3 := Lib.hid (below_setRow HBD.out (Nat.le_refl _) (⟨d, t0, t1, t2, t3, t4, t5, t6, t7, t8, t9⟩ : Hd).cells)
            generalize wd.setRow w.heap.size (⟨d, t0, t1, t2, t3, t4, t5, t6, t7, t8, t9⟩ : Hd).cells = w3' at *
            refine bodyPost_ret (v := .tuple #[(⟨d, t0, t1, t2, t3, t4, t5, t6, t7, t8, t9⟩ : Hd).v, .int .i64 0]) ?_ rfl ⟨by rw [HE.out, HQ.out], HB3.out⟩
            exact resultsH Tryd.results25 _ _ _ _ _ (by kernel_rfl) (by kernel_rfl) HR3.out
      · as_aux_lemma =>
        have HE : Hid (readH l = (Hd.zero, 11)) := Lib.hid (by rw [HE0.out, if_neg hq])
        rw [show (x == [d.b, d.c, d.d, d.e]) = false by simpa using hq, Bool.not_false]
        clear hq HE0
        go_wp2_with (with_reducible refine wpList_storeH w.heap.size Hd.zero Hd.zero (by kernel_rfl) (by kernel_rfl) HR6.out ?_)
        have HR7 := Lib.hid (HR6.out.setRow Hd.zero)
        have HB7 := Lib.hid (below_setRow HB6.out (Nat.le_refl _) Hd.zero.cells)
        generalize w5.setRow w.heap.size Hd.zero.cells = w6 at *
        refine bodyPost_ret (v := .tuple #[Hd.zero.v, .int .i64 11]) ?_ rfl ⟨by rw [HE.out], HB7.out⟩
        exact resultsH Tryd.results25 _ _ _ _ _ (by kernel_rfl) (by kernel_rfl) HR7.out
  · as_aux_lemma =>
    have HE : Hid (readH l = (Hd.zero, (readD l).2)) := Lib.hid (if_neg he)
    have de : (((readD l).2) == 0) = false := by simpa using he
    have de2 : (((readD l).2) != 0) = true := by simpa using he
    obtain ⟨D, hD⟩ : ∃ D, D = readD l := ⟨_, rfl⟩
    rw [← hD] at HE de de2 ⊢
    clear hD
    have HR2 : Hid (BoxH Hd.zero w.heap.size (w1.alloc (.cells #[.int .u8 (D.1.a.toNat : Int), .int .u8 (D.1.b.toNat : Int), .int .u8 (D.1.c.toNat : Int), .int .u8 (D.1.d.toNat : Int), .int .u8 (D.1.e.toNat : Int)] 25))) := Lib.hid (HR1.out.below ((Below.refl _ _).alloc (Nat.le_refl _) _))
    have HB2 : Hid (Below w.heap.size w (w1.alloc (.cells #[.int .u8 (D.1.a.toNat : Int), .int .u8 (D.1.b.toNat : Int), .int .u8 (D.1.c.toNat : Int), .int .u8 (D.1.d.toNat : Int), .int .u8 (D.1.e.toNat : Int)] 25))) := Lib.hid (HB1.out.alloc HB1.out.size _)
    clear he
    go_wp2_with (with_reducible refine wpList_storeH w.heap.size Hd.zero Hd.zero (by kernel_rfl) (by kernel_rfl) HR2.out ?_)
    have HR3 := Lib.hid (HR2.out.setRow Hd.zero)
    have HB3 := Lib.hid (below_setRow HB2.out (Nat.le_refl _) Hd.zero.cells)
    generalize World.setRow (w1.alloc (.cells #[.int .u8 (D.1.a.toNat : Int), .int .u8 (D.1.b.toNat : Int), .int .u8 (D.1.c.toNat : Int), .int .u8 (D.1.d.toNat : Int), .int .u8 (D.1.e.toNat : Int)] 25)) w.heap.size Hd.zero.cells = w3 at *
    refine bodyPost_ret (v := .tuple #[Hd.zero.v, .int .i64 D.2]) ?_ rfl ⟨by rw [HE.out], HB3.out⟩
    exact resultsH Tryd.results25 _ _ _ _ _ (by kernel_rfl) (by kernel_rfl) HR3.out
end Go.Proofs.YtgffamdlnacamaaDoor

/- Layer 9's answer: what is wrong with a head, walked. -/
namespace Go.Proofs.YtgffamdlnacamaaDoor
open Go.RowKit

set_option maxHeartbeats 1000000 in
theorem refVersions09 (w : World) : Calls Tryd.prog 51 #[] w (fun e w' => ∃ g c, e = .returned (.slice (some ⟨g, 0, none⟩) 10 c) ∧ Ss w' (some ⟨g, 0, none⟩) 10 c (versL.map (·.data.toList)) ∧ Below w.heap.size w w') := by
  go_enter Tryd.func51, Tryd.ntmps51
  go_wp2_with (fail)
  go_ret
  refine ⟨w.heap.size, 10, rfl, ?_, (Below.refl _ w).alloc (Nat.le_refl _) _⟩
  refine Ss.of_block (heap_alloc_new w _) (fun i x hx => ?_) rfl (by omega) (by simp [maxLen])
  rw [List.getElem?_map] at hx
  match i with
  | 0 => (simp [versL] at hx; subst hx; rfl)
  | 1 => (simp [versL] at hx; subst hx; rfl)
  | 2 => (simp [versL] at hx; subst hx; rfl)
  | 3 => (simp [versL] at hx; subst hx; rfl)
  | 4 => (simp [versL] at hx; subst hx; rfl)
  | 5 => (simp [versL] at hx; subst hx; rfl)
  | 6 => (simp [versL] at hx; subst hx; rfl)
  | 7 => (simp [versL] at hx; subst hx; rfl)
  | 8 => (simp [versL] at hx; subst hx; rfl)
  | 9 => (simp [versL] at hx; subst hx; rfl)
  | i + 10 => simp [versL] at hx
theorem vers_at (k : Nat) (hk : k < 10) : str ((versL.map (·.data.toList)).getD k []) = .string (vB k) := by
  match k, hk with
  | 0, _ => rfl
  | 1, _ => rfl
  | 2, _ => rfl
  | 3, _ => rfl
  | 4, _ => rfl
  | 5, _ => rfl
  | 6, _ => rfl
  | 7, _ => rfl
  | 8, _ => rfl
  | 9, _ => rfl
theorem knownD_any (s : ByteArray) : knownD s = (List.range 10).any fun k => decide (vB k = s) := rfl
/-- known by the first k of them -/
def knownK (s : ByteArray) (k : Nat) : Bool := (List.range k).any fun j => decide (vB j = s)
theorem knownK_succ (s : ByteArray) (k : Nat) : knownK s (k + 1) = (knownK s k || decide (vB k = s)) := by
  unfold knownK
  rw [List.range_succ, List.any_append]
  simp
theorem proc_t (p : ByteArray) : procD p = true → (p.toList == [80]) = true ∨ ((p.toList == [80]) = false ∧ (p.toList == [68]) = true) ∨ ((p.toList == [80]) = false ∧ (p.toList == [68]) = false ∧ (p.toList == [84]) = true) := by
  unfold procD
  cases (p.toList == [80]) <;> cases (p.toList == [68]) <;> cases (p.toList == [84]) <;> simp

set_option maxHeartbeats 8000000 in
set_option maxRecDepth 100000 in
theorem refCheck09 (h : Hd) (w : World) (h8 : h.a8.size ≤ 1000000000) (h9 : h.a9.size ≤ 1000000000) : Calls Tryd.prog 26 #[h.v] w fun e w' => e = .returned (.int .i64 (checkD h)) ∧ Below w.heap.size w w' := by
  have HX0 := Lib.hid (BoxH.new h w)
  have HB0 := Lib.hid (boxHd_below h w)
  have H8 := Lib.hid h8
  have H9 := Lib.hid h9
  have HC : Hid (checkD h = if h.a6.toList.isEmpty || h.a7.toList.isEmpty || decide (50 < h.a7.size) then 14 else if !knownD (txt (firstD h.a9 h.d)) then 12 else if !procD (txt (firstD h.a8 h.d)) then 13 else 0) := Lib.hid rfl
  clear h8 h9
  go_enter Tryd.func26, Tryd.ntmps26
  obtain ⟨c0, c1, c2, c3, c4, _, _, _, _, _, _, c11, c12, c13, c14⟩ := HX0.out.cells
  cases d6 : h.a6.toList.isEmpty
  · cases d7 : h.a7.toList.isEmpty
    · by_cases h50 : 50 < h.a7.size
      · as_aux_lemma =>
        have d50 : decide ((50 : Int) < (h.a7.size : Int)) = true := by simp; omega
        have d51 : decide (50 < h.a7.size) = true := by simpa using h50
        have HE : Hid (checkD h = 14) := Lib.hid (by rw [HC.out, d6, d7, d51]; rfl)
        go_wp2_with (fail)
        go_ret
        rw [HE.out]; exact ⟨rfl, HB0.out⟩
      · have d50 : decide ((50 : Int) < (h.a7.size : Int)) = false := by simp; omega
        have d51 : decide (50 < h.a7.size) = false := by simpa using h50
        have HE : Hid (checkD h = if !knownD (txt (firstD h.a9 h.d)) then 12 else if !procD (txt (firstD h.a8 h.d)) then 13 else 0) := Lib.hid (by rw [HC.out, d6, d7, d51]; rfl)
        go_wp2_with (fail)
        generalize (w.alloc (.cells #[u8 h.d.a, u8 h.d.b, u8 h.d.c, u8 h.d.d, u8 h.d.e, .string h.a0, .string h.a1, .string h.a2, .string h.a3, .string h.a4, .string h.a5, .string h.a6, .string h.a7, .string h.a8, .string h.a9] TH)) = w0 at *
        refine (first_ h.a9 h.d w0 (by have := H9.out; omega)).mono ?_
        rintro e w1 ⟨rfl, hb1⟩
        have HB1 := Lib.hid (HB0.out.trans (hb1.mono HB0.out.size))
        have HX1 := Lib.hid (HX0.out.below hb1)
        clear hb1 HX0 HB0 c0 c1 c2 c3 c4 c11 c12 c13 c14 d6 d7 d50 d51 h50
        obtain ⟨s, hs⟩ : ∃ s, s = txt (firstD h.a9 h.d) := ⟨_, rfl⟩
        rw [← hs] at HE
        rw [show str (firstD h.a9 h.d) = .string s from congrArg Value.string hs.symm]
        clear hs
        go_wp2_with (fail)
        refine (refVersions09 w1).mono ?_
        rintro e w2 ⟨g, cg, rfl, hS, hb2⟩
        have HB2 := Lib.hid (HB1.out.trans (hb2.mono HB1.out.size))
        have HX2 := Lib.hid (HX1.out.below hb2)
        have HS2 := Lib.hid hS
        clear hb2 HX1 HB1 hS
        go_wp2_with (fail)
        go_loopw [4, 6] (fun v i wr => ∃ k : Nat, k ≤ 10 ∧ v = .bool (knownK s k) ∧ i = .int .i64 k ∧ wr = w2) (fun _ i _ => 10 - (intOf i).toNat)
        case atStart => exact ⟨0, by omega, rfl, rfl, rfl⟩
        case round =>
          obtain ⟨k, hk, rfl, rfl, rfl⟩ := hrel
          by_cases hlt : k < 10
          · as_aux_lemma =>
            obtain ⟨b, o, hbo, _, hc⟩ := HS2.out.read hlt
            rw [vers_at k hlt] at hc
            injection hbo with hbo
            injection hbo with e1 e2
            subst e1 e2
            rw [Nat.zero_add] at hc
            have d5 : decide ((k : Int) < 10) = true := by simp; omega
            have d6 : (k : Int) < 10 := by omega
            have w1' : wrap64 ((k : Int) + 1) = (k : Int) + 1 := IntWalk.wrap64_in _ (by omega)
            have HK := Lib.hid hlt
            have HSU := Lib.hid (knownK_succ s k)
            cases he : decide (vB k = s)
            · have d := strEq_f (of_decide_eq_false he)
              rw [he, Bool.or_false] at HSU
              clear he hlt hk
              generalize vB k = v at *
              go_wp2_with (fail)
              try rw [w1']
              exact ⟨⟨k + 1, HK.out, by rw [HSU.out], by go_num, (by trivial)⟩, by have := HK.out; simp [intOf]; omega⟩
            · have d := strEq_t (of_decide_eq_true he)
              rw [he, Bool.or_true] at HSU
              clear he hlt hk
              generalize vB k = v at *
              go_wp2_with (fail)
              try rw [w1']
              exact ⟨⟨k + 1, HK.out, by rw [HSU.out], by go_num, (by trivial)⟩, by have := HK.out; simp [intOf]; omega⟩
          · obtain rfl : k = 10 := by omega
            have d5 : decide (((10 : Nat) : Int) < 10) = false := by simp
            rw [show knownK s 10 = knownD s from (knownD_any s).symm]
            clear hlt hk
            cases dk : knownD s
            · as_aux_lemma =>
              have HE2 : Hid (checkD h = 12) := Lib.hid (by rw [HE.out, dk]; rfl)
              go_wp2_with (fail)
              go_ret
              rw [HE2.out]; exact ⟨rfl, HB2.out⟩
            · have HE2 : Hid (checkD h = if !procD (txt (firstD h.a8 h.d)) then 13 else 0) := Lib.hid (by rw [HE.out, dk]; rfl)
              obtain ⟨c0, c1, c2, c3, c4, _, _, _, _, _, _, c11, c12, c13, c14⟩ := HX2.out.cells
              clear HE dk HS2
              go_wp2_with (fail)
              refine (first_ h.a8 h.d _ (by have := H8.out; omega)).mono ?_
              rintro e w3 ⟨rfl, hb3⟩
              have HB3 := Lib.hid (HB2.out.trans (hb3.mono HB2.out.size))
              clear hb3 c0 c1 c2 c3 c4 c11 c12 c13 c14
              obtain ⟨p, hp⟩ : ∃ p, p = txt (firstD h.a8 h.d) := ⟨_, rfl⟩
              rw [← hp] at HE2
              rw [show str (firstD h.a8 h.d) = .string p from congrArg Value.string hp.symm]
              clear hp
              have HP : Hid (procD p = (p.toList == [80] || p.toList == [68] || p.toList == [84])) := Lib.hid rfl
              cases p1 : (p.toList == [80])
              · have q1 : (p.toList != [80]) = true := by rw [bne, p1]; rfl
                cases p2 : (p.toList == [68])
                · have q2 : (p.toList != [68]) = true := by rw [bne, p2]; rfl
                  cases p3 : (p.toList == [84])
                  · as_aux_lemma =>
                    have q3 : (p.toList != [84]) = true := by rw [bne, p3]; rfl
                    have HE3 : Hid (checkD h = 13) := Lib.hid (by rw [HE2.out, HP.out, p1, p2, p3]; rfl)
                    go_wp2_with (fail)
                    go_ret
                    rw [HE3.out]; exact ⟨rfl, HB3.out⟩
                  · as_aux_lemma =>
                    have q3 : (p.toList != [84]) = false := by rw [bne, p3]; rfl
                    have HE3 : Hid (checkD h = 0) := Lib.hid (by rw [HE2.out, HP.out, p1, p2, p3]; rfl)
                    go_wp2_with (fail)
                    go_ret
                    rw [HE3.out]; exact ⟨rfl, HB3.out⟩
                · as_aux_lemma =>
                  have q2 : (p.toList != [68]) = false := by rw [bne, p2]; rfl
                  have HE3 : Hid (checkD h = 0) := Lib.hid (by rw [HE2.out, HP.out, p1, p2]; rfl)
                  go_wp2_with (fail)
                  go_ret
                  rw [HE3.out]; exact ⟨rfl, HB3.out⟩
              · as_aux_lemma =>
                have q1 : (p.toList != [80]) = false := by rw [bne, p1]; rfl
                have HE3 : Hid (checkD h = 0) := Lib.hid (by rw [HE2.out, HP.out, p1]; rfl)
                go_wp2_with (fail)
                go_ret
                rw [HE3.out]; exact ⟨rfl, HB3.out⟩
    · as_aux_lemma =>
      have HE : Hid (checkD h = 14) := Lib.hid (by rw [HC.out, d6, d7]; rfl)
      go_wp2_with (fail)
      go_ret
      rw [HE.out]; exact ⟨rfl, HB0.out⟩
  · as_aux_lemma =>
    have HE : Hid (checkD h = 14) := Lib.hid (by rw [HC.out, d6]; rfl)
    go_wp2_with (fail)
    go_ret
    rw [HE.out]; exact ⟨rfl, HB0.out⟩
end Go.Proofs.YtgffamdlnacamaaDoor

/- Laid together: CleanOf, SegMakesA. -/

/- Texts without a byte. -/
namespace Go.Proofs.YtgffamdlnacamaaDoor
open Go.RowKit

/-- those without the sign -/
def cleanOf (c : UInt8) (T : List (List UInt8)) : List (List UInt8) := T.filter fun x => !x.contains c
theorem cleanOf_no (c : UInt8) (T : List (List UInt8)) (k : Nat) (hk : k < T.length) (h : (T.getD k []).contains c = false) : cleanOf c (T.take (k + 1)) = cleanOf c (T.take k) ++ [T.getD k []] := by
  unfold cleanOf
  rw [take_getD T k hk, List.filter_append]
  simp only [List.filter_cons, List.filter_nil, h, Bool.not_false, if_true]
theorem cleanOf_yes (c : UInt8) (T : List (List UInt8)) (k : Nat) (hk : k < T.length) (h : (T.getD k []).contains c = true) : cleanOf c (T.take (k + 1)) = cleanOf c (T.take k) := by
  unfold cleanOf
  rw [take_getD T k hk, List.filter_append]
  simp only [List.filter_cons, List.filter_nil, h, Bool.not_true, if_false, List.append_nil, Bool.false_eq_true]
theorem lens_filter (f : List UInt8 → Bool) : ∀ T : List (List UInt8), Lib.lens (T.filter f) ≤ Lib.lens T
  | [] => by simp [Lib.lens]
  | x :: r => by
    have := lens_filter f r
    simp only [Lib.lens] at this ⊢
    rw [List.filter_cons]
    split
    · simp only [List.map_cons, List.sum_cons]; omega
    · simp only [List.map_cons, List.sum_cons]; omega
theorem take_snocY (y : ByteArray) (j : Nat) (hj : j < y.size) : y.data.toList.take (j + 1) = y.data.toList.take j ++ [y[j]] := by
  rw [List.take_succ_eq_append_getElem (by simpa using hj)]
  rfl
theorem contains_take (c : UInt8) (y : ByteArray) (j : Nat) (hj : j < y.size) : (y.data.toList.take (j + 1)).contains c = ((y.data.toList.take j).contains c || decide (y[j] = c)) := by
  rw [take_snocY y j hj, List.contains_append]
  congr 1
  by_cases h : y[j] = c
  · simp [h]
  · have h2 : ¬ c = y[j] := fun e => h e.symm
    simp [h, h2]
theorem cleanOf_bulk (c : UInt8) (T : List (List UInt8)) : Lib.lens (cleanOf c T) + (cleanOf c T).length ≤ Lib.lens T + T.length := by
  have hfl := lens_filter (fun x => !x.contains c) T
  have hfn := List.length_filter_le (fun x => !x.contains c) T
  unfold cleanOf
  omega
theorem cleanOf_mem (c : UInt8) (T : List (List UInt8)) : ∀ x ∈ cleanOf c T, c ∉ x := fun x hx => by
  have := (List.mem_filter.1 hx).2
  simpa using this
theorem cleanOf_len (c : UInt8) (T : List (List UInt8)) (k : Nat) : (cleanOf c (T.take k)).length ≤ k := by
  have h1 := List.length_filter_le (fun x => !x.contains c) (T.take k)
  rw [List.length_take] at h1
  exact Nat.le_trans h1 (Nat.min_le_left _ _)
end Go.Proofs.YtgffamdlnacamaaDoor

/- Texts appended to a row of texts of the call's own. -/
namespace Go.Proofs.YtgffamdlnacamaaDoor
open Go.RowKit

theorem OwnS.two (w : World) (x y : List UInt8) (base : Nat) (hb : base ≤ w.heap.size) : OwnS (w.alloc (.cells #[str x, str y] 9)) base (.slice (some ⟨w.heap.size, 0, none⟩) 2 2) [x, y] :=
  ⟨by simp, .inr ⟨w.heap.size, 2, #[str x, str y], rfl, hb, heap_alloc_new w _, Nat.le_refl _, by simp [maxLen], by simp, by simp⟩⟩

theorem wpList_strs {ops : Array Oper} {rest : List Oper} {o : Oper} {a : Act} {Q : Exit → Act → World → Prop} {w : World} (hgd : o.guard = none) (s x : Operand)
    (ho : o.op = .call { callee := .builtin .append, args := #[s, x], argTypes := #[47, 47] }) (base : Nat) (v : Value) (T : List (List UInt8)) (hs : a.eval s = v) (hown : OwnS w base v T)
    (base2 : Nat) (vx : Value) (U : List (List UInt8)) (hx : a.eval x = vx) (hU : OwnS w base2 vx U) (hn : T.length + U.length ≤ 1099511627776) (hbase : base ≤ w.heap.size)
    (h : ∀ v' w', OwnS w' base v' (T ++ U) → Below base w w' → wpList Tryd.prog ops Q rest (a.put o.dst v') w') : wpList Tryd.prog ops Q (o :: rest) a w := by
  have hi : (Tryd.prog.info? 9).map (fun i => (i.zero, i.size, i.bytes)) = some (some (.string ByteArray.empty), 1, 16) := by kernel_rfl
  obtain ⟨i, hi, hzz⟩ := Option.map_eq_some_iff.1 hi
  simp only [Prod.mk.injEq] at hzz
  by_cases h0 : 0 < U.length
  · obtain ⟨g, c, rfl, _, _, _, _⟩ := hU.form h0
    refine wpList_append_own w hgd s x 47 ho base 9 i (.string ByteArray.empty) 1 16 Tryd.underlying47 hi hzz.1 hzz.2.1 hzz.2.2 rfl (by decide) v T.length (T.map str) hs hown ⟨g, 0, none⟩ U.length c (U.map str) hx (by simp)
      (fun j u hu => by
        rw [List.getElem?_map] at hu
        cases hj : U[j]? with
        | none => rw [hj] at hu; cases hu
        | some y =>
          rw [hj] at hu
          simp only [Option.map_some, Option.some.injEq] at hu
          subst hu
          rw [Addr.add_lit, Nat.zero_add]
          exact hU.cell hj) (fun u hu => by
        obtain ⟨y, _, rfl⟩ := List.mem_map.1 hu
        rfl) (by simp only [maxLen]; omega) (by omega) hbase (fun v' w' h2 h3 _ => h v' w' (by unfold OwnS; simpa using h2) ((Below.refl _ _).grown h3 hbase fun k hk => (World.ownsRow.lt hown k hk).1))
  · have hUe : U = [] := List.eq_nil_of_length_eq_zero (by omega)
    subst hUe
    rcases hU.2 with ⟨rfl, _⟩ | ⟨g, cap, cur, rfl, _, _, _, _, _, _⟩
    · exact wpList_append_own_none hgd s x 47 ho base 9 i 1 Tryd.underlying47 hi v T.length (T.map str) hs hown hx (h v w (by simpa using hown) (Below.refl _ _))
    · exact wpList_append_own w hgd s x 47 ho base 9 i (.string ByteArray.empty) 1 16 Tryd.underlying47 hi hzz.1 hzz.2.1 hzz.2.2 rfl (by decide) v T.length (T.map str) hs hown ⟨g, 0, none⟩ 0 cap [] hx rfl
        (fun j u hu => by simp at hu) (fun u hu => by simp at hu) (by simp only [maxLen]; simp at hn; omega) (by simp at hn; omega) hbase (fun v' w' h2 h3 _ => h v' w' (by unfold OwnS; simpa using h2) ((Below.refl _ _).grown h3 hbase fun k hk => (World.ownsRow.lt hown k hk).1))
end Go.Proofs.YtgffamdlnacamaaDoor

/- Sums of texts, and their bytes, in one step each. -/
namespace Go.Proofs.YtgffamdlnacamaaDoor
open Go.RowKit

theorem addT (X Y : List UInt8) (h : X.length + Y.length ≤ 9223372036854775807) (W : World) : (binOp .add 9 (.string (txt X)) (.string (txt Y))).run Tryd.prog W = .ok (.string (txt (X ++ Y))) W := by
  rw [add_run _ _ (by simp only [txt_size]; omega) W, txt_app]
theorem wpList_addT {ops : Array Oper} {rest : List Oper} {dst : Option Tmp} {x y : Operand} {tb ty : TypeId} {pos : String} {af} {a : Act} {w : World} {Q : Exit → Act → World → Prop}
    (X Y Z : List UInt8) (hZ : Hid (Z = X ++ Y)) (hx : a.eval x = .string (txt X)) (hy : a.eval y = .string (txt Y)) (h : Z.length ≤ 9223372036854775807)
    (next : wpList Tryd.prog ops Q rest (a.put dst (str Z)) w) : wpList Tryd.prog ops Q ((⟨dst, .binOp .add 9 x y tb, ty, pos, af, none⟩ : Oper) :: rest) a w :=
  wpList_plain rfl fun K hK => by
    obtain rfl : Z = X ++ Y := hZ
    unfold Oper.wp execOp
    simp only [hx, hy]
    simp [eqGuard, addT X Y (by rw [List.length_append] at h; exact h) w, Result.andThen, Oper.upon]
    exact hK _ _ next
theorem wpList_convT {ops : Array Oper} {rest : List Oper} {dst : Option Tmp} {x : Operand} {ty : TypeId} {pos : String} {af} {a : Act} {w : World} {Q : Exit → Act → World → Prop}
    (l : List UInt8) (N g : Nat) (hx : a.eval x = .string (txt l)) (hN : l.length = N) (hl : N ≤ maxLen) (hg : w.heap.size = g)
    (next : ∀ cap W, Hid (Conv W g N cap g l) → Below w.heap.size w W → wpList Tryd.prog ops Q rest (a.put dst (.slice (some ⟨g, 0, none⟩) N cap)) W) : wpList Tryd.prog ops Q ((⟨dst, .convert 9 22 x, ty, pos, af, none⟩ : Oper) :: rest) a w := by
  subst hg
  obtain ⟨cap, W, hrun, hC, hb⟩ := conv_list (P := Tryd.prog) w 9 22 5 l N Tryd.underlying9 Tryd.underlying22 Tryd.underlying5 hN hl
  refine wpList_plain rfl fun K hK => ?_
  unfold Oper.wp execOp
  simp only [hx]
  simp [hrun, Result.andThen, Oper.upon]
  exact hK _ _ (next cap W (Lib.hid hC) hb)
/-- string(b) of bytes that lie somewhere -/
theorem wpList_strT {ops : Array Oper} {rest : List Oper} {dst : Option Tmp} {x : Operand} {ty : TypeId} {pos : String} {af} {a : Act} {w : World} {Q : Exit → Act → World → Prop}
    (A : Option Addr) (n c : Nat) (l : List UInt8) (hx : a.eval x = .slice A n c) (hB : Bs w A n c l)
    (next : wpList Tryd.prog ops Q rest (a.put dst (str l)) w) : wpList Tryd.prog ops Q ((⟨dst, .convert 22 9 x, ty, pos, af, none⟩ : Oper) :: rest) a w := by
  have hrun := hB.str (P := Tryd.prog) 22 5 9 Tryd.underlying22 Tryd.underlying5 Tryd.underlying9
  refine wpList_plain rfl fun K hK => ?_
  unfold Oper.wp execOp
  simp only [hx]
  simp [hrun, Result.andThen, Oper.upon]
  exact hK _ _ next
theorem run_bytes4 (a b c d : UInt8) (w : World) : (Instr.buildSlice 22 4 #[(0, u8 a), (1, u8 b), (2, u8 c), (3, u8 d)]).run Tryd.prog w = .ok (.slice (some ⟨w.heap.size, 0, none⟩) 4 4) (w.alloc (.cells #[u8 a, u8 b, u8 c, u8 d] 5)) := by
  simp [Instr.buildSlice, go_sem]
/-- four bytes in a row of their own -/
theorem wpList_bytes4 {ops : Array Oper} {rest : List Oper} {dst : Option Tmp} {x0 x1 x2 x3 : Operand} {ty : TypeId} {pos : String} {af} {a : Act} {w : World} {Q : Exit → Act → World → Prop}
    (g : Nat) (b c d e : UInt8) (h0 : a.eval x0 = u8 b) (h1 : a.eval x1 = u8 c) (h2 : a.eval x2 = u8 d) (h3 : a.eval x3 = u8 e) (hg : w.heap.size = g)
    (next : wpList Tryd.prog ops Q rest (a.put dst (.slice (some ⟨g, 0, none⟩) 4 4)) (w.alloc (.cells #[u8 b, u8 c, u8 d, u8 e] 5))) : wpList Tryd.prog ops Q ((⟨dst, .buildSlice 22 4 #[(0, x0), (1, x1), (2, x2), (3, x3)], ty, pos, af, none⟩ : Oper) :: rest) a w := by
  subst hg
  refine wpList_plain rfl fun K hK => ?_
  unfold Oper.wp execOp
  simp only [List.map_toArray, List.map_cons, List.map_nil, h0, h1, h2, h3, Sem.run_bind, run_bytes4, Result.andThen_ok]
  exact hK _ _ next
/-- a byte's load -/
theorem wpList_loadU8 {ops : Array Oper} {rest : List Oper} {dst : Option Tmp} {x : Operand} {ty : TypeId} {pos : String} {af} {a : Act} {w : World} {Q : Exit → Act → World → Prop}
    (b o : Nat) (v : UInt8) (hx : a.eval x = .pointer (some ⟨b, o, none⟩)) (hc : Hid (w.cell? ⟨b, o, none⟩ = some (u8 v)))
    (next : wpList Tryd.prog ops Q rest (a.put dst (u8 v)) w) : wpList Tryd.prog ops Q ((⟨dst, .load 5 x, ty, pos, af, none⟩ : Oper) :: rest) a w := by
  have hcc := hc.out
  refine wpList_plain rfl fun K hK => ?_
  unfold Oper.wp execOp
  simp only [hx]
  have hrun : (Instr.loadAt 5 (.pointer (some ⟨b, o, none⟩))).run Tryd.prog w = .ok (u8 v) w := by
    simp [Instr.loadAt, go_sem, hcc]
  simp only [Sem.run_bind, hrun, Result.andThen_ok]
  exact hK _ _ next
end Go.Proofs.YtgffamdlnacamaaDoor

/- Layer 9's answer: a head written, and checked, walked. -/
namespace Go.Proofs.YtgffamdlnacamaaDoor
open Go.RowKit

theorem OwnS.cut {w : World} {B g c k : Nat} {T : List (List UInt8)} {n : Nat} (h : OwnS w B (.slice (some ⟨g, 0, none⟩) n c) T) (hk : k ≤ T.length) : OwnS w B (.slice (some ⟨g, 0, none⟩) k c) (T.take k) := by
  have hl : (T.take k).length = k := by rw [List.length_take]; omega
  obtain ⟨_, ⟨h0, _⟩ | ⟨g', cap, cur, e, h1, h2, h3, h4, h5, h6⟩⟩ := h
  · cases h0
  · injection e with e1 e2 e3
    injection e1 with e1
    injection e1 with e1
    subst e1 e2 e3
    refine ⟨by simp, .inr ⟨g, c, cur, by rw [hl], h1, h2, by omega, h4, h5, ?_⟩⟩
    rw [hl, List.map_take, ← h6, List.take_take]
    congr 1
    omega
theorem lensL2 (a b : List UInt8) (T : List (List UInt8)) : Lib.lens ([a, b] ++ T) = a.length + (b.length + Lib.lens T) := by simp [Lib.lens]

set_option maxHeartbeats 2000000 in
set_option maxRecDepth 100000 in
theorem refTexts (h : Hd) (w : World) : Calls Tryd.prog 85 #[h.v] w fun e w' => ∃ g, e = .returned (.slice (some ⟨g, 0, none⟩) 10 10) ∧ OwnS w' w.heap.size (.slice (some ⟨g, 0, none⟩) 10 10) (h.l.map (·.data.toList)) ∧ Below w.heap.size w w' := by
  have HB0 := Lib.hid (boxHd_below h w)
  have HRW : Hid (((w.alloc (.cells #[u8 h.d.a, u8 h.d.b, u8 h.d.c, u8 h.d.d, u8 h.d.e, .string h.a0, .string h.a1, .string h.a2, .string h.a3, .string h.a4, .string h.a5, .string h.a6, .string h.a7, .string h.a8, .string h.a9] TH)).alloc (.cells #[.string h.a0, .string h.a1, .string h.a2, .string h.a3, .string h.a4, .string h.a5, .string h.a6, .string h.a7, .string h.a8, .string h.a9] 9)).heap[w.heap.size + 1]? = some (.cells #[.string h.a0, .string h.a1, .string h.a2, .string h.a3, .string h.a4, .string h.a5, .string h.a6, .string h.a7, .string h.a8, .string h.a9] 9)) := Lib.hid (by
    have t := heap_alloc_new (w.alloc (.cells #[u8 h.d.a, u8 h.d.b, u8 h.d.c, u8 h.d.d, u8 h.d.e, .string h.a0, .string h.a1, .string h.a2, .string h.a3, .string h.a4, .string h.a5, .string h.a6, .string h.a7, .string h.a8, .string h.a9] TH)) (.cells #[.string h.a0, .string h.a1, .string h.a2, .string h.a3, .string h.a4, .string h.a5, .string h.a6, .string h.a7, .string h.a8, .string h.a9] 9)
    rw [World.size_alloc] at t
    exact t)
  go_enter Tryd.func85, Tryd.ntmps85
  go_wp2_with (fail)
  go_ret
  exact ⟨w.heap.size + 1, rfl, ⟨rfl, .inr ⟨w.heap.size + 1, 10, #[.string h.a0, .string h.a1, .string h.a2, .string h.a3, .string h.a4, .string h.a5, .string h.a6, .string h.a7, .string h.a8, .string h.a9], rfl, Nat.le_succ _, HRW.out, Nat.le_refl _, by simp [maxLen], rfl, rfl⟩⟩, HB0.out.alloc HB0.out.size _⟩

set_option maxHeartbeats 16000000 in
set_option maxRecDepth 100000 in
theorem refWrite09 (h : Hd) (w : World) (hb : Lib.lens (h.l.map (·.data.toList)) ≤ 1000000) :
    Calls Tryd.prog 56 #[h.v] w fun e w' => e = .returned (.tuple #[str (writeH h).1, .int .i64 (writeH h).2]) ∧ Below w.heap.size w w' := by
  have HX0 := Lib.hid (BoxH.new h w)
  have HB0 := Lib.hid (boxHd_below h w)
  have HLB := Lib.hid hb
  have HW : Hid (writeH h = if h.d.good = true then if h.l.all (standD h.d.a) = true then (makeD mshB h.d.a ((rowH h).take (filledD h.l 10)), 0) else ([], 10) else ([], 11)) := Lib.hid rfl
  clear hb
  go_enter Tryd.func56, Tryd.ntmps56
  obtain ⟨c0, c1, c2, c3, c4, hrest⟩ := HX0.out.cells
  clear hrest
  have HX1 : Hid (BoxH h w.heap.size ((w.alloc (.cells #[u8 h.d.a, u8 h.d.b, u8 h.d.c, u8 h.d.d, u8 h.d.e, .string h.a0, .string h.a1, .string h.a2, .string h.a3, .string h.a4, .string h.a5, .string h.a6, .string h.a7, .string h.a8, .string h.a9] TH)).alloc (.cells #[.int .u8 (h.d.a.toNat : Int), .int .u8 (h.d.b.toNat : Int), .int .u8 (h.d.c.toNat : Int), .int .u8 (h.d.d.toNat : Int), .int .u8 (h.d.e.toNat : Int)] 25))) := Lib.hid (HX0.out.below ((Below.refl _ _).alloc (Nat.le_refl _) _))
  have HD1 : Hid (BoxS h.d (w.heap.size + 1) ((w.alloc (.cells #[u8 h.d.a, u8 h.d.b, u8 h.d.c, u8 h.d.d, u8 h.d.e, .string h.a0, .string h.a1, .string h.a2, .string h.a3, .string h.a4, .string h.a5, .string h.a6, .string h.a7, .string h.a8, .string h.a9] TH)).alloc (.cells #[.int .u8 (h.d.a.toNat : Int), .int .u8 (h.d.b.toNat : Int), .int .u8 (h.d.c.toNat : Int), .int .u8 (h.d.d.toNat : Int), .int .u8 (h.d.e.toNat : Int)] 25))) := Lib.hid (by
    have t := heap_alloc_new (w.alloc (.cells #[u8 h.d.a, u8 h.d.b, u8 h.d.c, u8 h.d.d, u8 h.d.e, .string h.a0, .string h.a1, .string h.a2, .string h.a3, .string h.a4, .string h.a5, .string h.a6, .string h.a7, .string h.a8, .string h.a9] TH)) (.cells #[.int .u8 (h.d.a.toNat : Int), .int .u8 (h.d.b.toNat : Int), .int .u8 (h.d.c.toNat : Int), .int .u8 (h.d.d.toNat : Int), .int .u8 (h.d.e.toNat : Int)] 25)
    rw [World.size_alloc] at t
    exact t)
  have HB1 : Hid (Below w.heap.size w ((w.alloc (.cells #[u8 h.d.a, u8 h.d.b, u8 h.d.c, u8 h.d.d, u8 h.d.e, .string h.a0, .string h.a1, .string h.a2, .string h.a3, .string h.a4, .string h.a5, .string h.a6, .string h.a7, .string h.a8, .string h.a9] TH)).alloc (.cells #[.int .u8 (h.d.a.toNat : Int), .int .u8 (h.d.b.toNat : Int), .int .u8 (h.d.c.toNat : Int), .int .u8 (h.d.d.toNat : Int), .int .u8 (h.d.e.toNat : Int)] 25))) := Lib.hid (HB0.out.alloc HB0.out.size _)
  go_wp2_with (fail)
  generalize (w.alloc (.cells #[u8 h.d.a, u8 h.d.b, u8 h.d.c, u8 h.d.d, u8 h.d.e, .string h.a0, .string h.a1, .string h.a2, .string h.a3, .string h.a4, .string h.a5, .string h.a6, .string h.a7, .string h.a8, .string h.a9] TH)).alloc (.cells #[.int .u8 (h.d.a.toNat : Int), .int .u8 (h.d.b.toNat : Int), .int .u8 (h.d.c.toNat : Int), .int .u8 (h.d.d.toNat : Int), .int .u8 (h.d.e.toNat : Int)] 25) = w1 at *
  generalize w.heap.size + 1 = D at *
  clear c0 c1 c2 c3 c4 HX0 HB0
  refine (refRight h.d w1).mono ?_
  rintro e w2 ⟨rfl, hb2⟩
  have HX2 := Lib.hid (HX1.out.below hb2)
  have HD2 := Lib.hid (HD1.out.below hb2)
  have HB2 := Lib.hid (HB1.out.trans (hb2.mono HB1.out.size))
  clear hb2 HX1 HD1 HB1
  cases hg : h.d.good
  · have HE : Hid (writeH h = ([], 11)) := Lib.hid (by rw [HW.out, hg]; rfl)
    go_wp2_with (fail)
    go_ret2
    exact ⟨by rw [HE.out]; rfl, HB2.out⟩
  · have HE : Hid (writeH h = if h.l.all (standD h.d.a) = true then (makeD mshB h.d.a ((rowH h).take (filledD h.l 10)), 0) else ([], 10)) := Lib.hid (by rw [HW.out, hg]; rfl)
    clear hg HW
    go_wp2_with (with_reducible refine wpList_loadHG w.heap.size h (by kernel_rfl) (by kernel_rfl) HX2.out ?_)
    refine (refTexts h w2).mono ?_
    rintro e w3 ⟨g, rfl, hO, hb3⟩
    have HO3 := Lib.hid hO
    have HD3 := Lib.hid (HD2.out.below hb3)
    have HB3 := Lib.hid (HB2.out.trans (hb3.mono HB2.out.size))
    have HX2Z := Lib.hid hb3.size
    clear hO hb3 HX2 HD2 HB2
    go_wp2_with (fail)
    go_loopw [6, 7] (fun i _ wr => ∃ p : Nat, p ≤ 10 ∧ i = .int .i64 p ∧ (h.l.take p).all (standD h.d.a) = true ∧ Below w3.heap.size w3 wr) (fun i _ _ => 10 - (intOf i).toNat)
    case atStart => exact ⟨0, by omega, rfl, rfl, Below.refl _ _⟩
    case round =>
      obtain ⟨wo, rfl⟩ : ∃ wo : World, wo = wr := ⟨_, rfl⟩
      obtain ⟨p, hp, rfl, hst, hbo⟩ := hrel
      have HST := Lib.hid hst
      have HBO := Lib.hid hbo
      clear hst hbo
      by_cases hlt : p < 10
      · have HP := Lib.hid hlt
        have HYM : Hid (h.l.getD p ⟨#[]⟩ ∈ h.l) := Lib.hid (h.text_mem p hlt)
        have HTA : Hid (standD h.d.a (h.l.getD p ⟨#[]⟩) = true → (h.l.take (p + 1)).all (standD h.d.a) = true) := Lib.hid (h.take_all _ p hlt HST.out)
        have HCE : Hid (∀ W, Below w3.heap.size w3 W → W.cell? ⟨g, p, none⟩ = some (.string (h.l.getD p ⟨#[]⟩))) := Lib.hid (fun W hW => by
          have t := OwnS.cell (T := h.l.map (·.data.toList)) (HO3.out.below hW) (j := p) (x := (h.l.getD p ⟨#[]⟩).data.toList) (by rw [List.getElem?_map, List.getD_eq_getElem?_getD, List.getElem?_eq_getElem hlt]; rfl)
          exact t)
        have cy := HCE.out wo HBO.out
        obtain ⟨y, hy⟩ : ∃ y, y = h.l.getD p ⟨#[]⟩ := ⟨_, rfl⟩
        rw [← hy] at cy HYM HTA HCE
        have hYS : y.size ≤ 1000000 := by
          have h1 := HLB.out
          have h2 := mem_lens (List.mem_map.2 ⟨y, HYM.out, rfl⟩ : y.data.toList ∈ h.l.map (·.data.toList))
          simp at h2
          omega
        have HYS := Lib.hid hYS
        have d5 : decide ((p : Int) < 10) = true := by simp; omega
        have d6 : (p : Int) < 10 := by omega
        have w2' : wrap64 ((p : Int) + 1) = (p : Int) + 1 := IntWalk.wrap64_in _ (by omega)
        have dy : decide ((0 : Int) < (y.size : Int)) = decide (0 < y.size) := by simp
        clear hy hp hlt hYS
        go_wp2_with (fail)
        clear cy d5 dy
        go_loopw [7] (fun k wr => ∃ q : Nat, q ≤ y.size ∧ k = .int .i64 q ∧ (∀ c ∈ y.data.toList.take q, c ≠ h.d.a ∧ c ≠ 13) ∧ Below w3.heap.size w3 wr) (fun k _ => y.size - (intOf k).toNat)
        case atStart => exact ⟨0, by omega, rfl, by simp, HBO.out⟩
        case round =>
          obtain ⟨wi, rfl⟩ : ∃ wi : World, wi = wr := ⟨_, rfl⟩
          obtain ⟨q, hq, rfl, hall, hbi⟩ := hrel
          have HALLQ := Lib.hid hall
          have HBI := Lib.hid hbi
          have cy := HCE.out wi hbi
          obtain ⟨c0, c1, c2, c3, c4⟩ := (HD3.out.below hbi).cells
          clear hall hbi c1 c2 c3 c4
          by_cases hlq : q < y.size
          · have ix := fun W => strIdx y q hlq q rfl W
            have HQ := Lib.hid hlq
            have d7 : decide ((q : Int) < (y.size : Int)) = true := by simp; omega
            have w1' : wrap64 ((q : Int) + 1) = (q : Int) + 1 := IntWalk.wrap64_in _ (by have := HYS.out; omega)
            have htk : y.data.toList.take (q + 1) = y.data.toList.take q ++ [y[q]] := by rw [List.take_succ_eq_append_getElem (by simpa using hlq)]; rfl
            have hmem : y[q] ∈ y.data.toList := List.getElem_mem (l := y.data.toList) (by simpa using hlq)
            obtain ⟨z, hz⟩ : ∃ z, z = y[q] := ⟨_, rfl⟩
            rw [← hz] at htk hmem
            have ix2 : ∀ W, (Instr.index 9 (.string y) (.int .i64 (q : Int))).run Tryd.prog W = .ok (u8 z) W := fun W => by rw [ix W, hz]; rfl
            have HTK := Lib.hid htk
            have HMEM := Lib.hid hmem
            clear htk hmem hz ix
            by_cases hza : z = h.d.a
            · as_aux_lemma =>
              have k1 : (((z.toNat : Nat) : Int) == ((h.d.a.toNat : Nat) : Int)) = true := by rw [hza]; simp
              have HEF : Hid (writeH h = ([], 10)) := Lib.hid (by
                rw [HE.out, if_neg]
                intro e
                have t := List.all_eq_true.1 e y HYM.out
                simp only [standD, Bool.and_eq_true, Bool.not_eq_true'] at t
                have := t.1
                rw [List.contains_iff_mem.2 (hza ▸ HMEM.out)] at this
                exact absurd this (by decide))
              clear hza
              go_wp2_with (fail)
              go_quiet (fail)
              have HBN := Lib.hid (HB3.out.trans ((drawN_below HBI.out nq).mono HB3.out.size))
              go_wp2_with (fail)
              go_ret2
              exact ⟨by rw [HEF.out]; rfl, HBN.out⟩
            · have k1 : (((z.toNat : Nat) : Int) == ((h.d.a.toNat : Nat) : Int)) = false := by
                rw [beq_eq_false_iff_ne]; intro e; exact hza (UInt8.toNat_inj.1 (by omega))
              by_cases hz13 : z = 13
              · have k2 : (((z.toNat : Nat) : Int) == 13) = true := by rw [hz13]; rfl
                have HEF : Hid (writeH h = ([], 10)) := Lib.hid (by
                  rw [HE.out, if_neg]
                  intro e
                  have t := List.all_eq_true.1 e y HYM.out
                  simp only [standD, Bool.and_eq_true, Bool.not_eq_true'] at t
                  have := t.2
                  rw [List.contains_iff_mem.2 (hz13 ▸ HMEM.out)] at this
                  exact absurd this (by decide))
                clear hza hz13
                go_wp2_with (fail)
                go_quiet (fail)
                have HBN := Lib.hid (HB3.out.trans ((drawN_below HBI.out nq).mono HB3.out.size))
                go_wp2_with (fail)
                go_ret2
                exact ⟨by rw [HEF.out]; rfl, HBN.out⟩
              · have k2 : (((z.toNat : Nat) : Int) == 13) = false := by
                  rw [beq_eq_false_iff_ne]; intro e; exact hz13 (UInt8.toNat_inj.1 (by show z.toNat = 13; omega))
                have HNX : Hid (∀ c ∈ y.data.toList.take (q + 1), c ≠ h.d.a ∧ c ≠ 13) := Lib.hid (fun c hc => by
                  rw [HTK.out] at hc
                  rcases List.mem_append.1 hc with hc | hc
                  · exact HALLQ.out c hc
                  · rw [List.mem_singleton.1 hc]; exact ⟨hza, hz13⟩)
                clear hza hz13
                go_wp2_with (fail)
                go_quiet (fail)
                have HBN := Lib.hid (drawN_below HBI.out nq)
                go_wp2_with (fail)
                try rw [w1']
                exact ⟨⟨q + 1, HQ.out, by go_num, HNX.out, HBN.out⟩, by have := HQ.out; simp [intOf]; omega⟩
          · obtain rfl : q = y.size := by omega
            have d7 : decide ((y.size : Int) < (y.size : Int)) = false := by simp
            have HSY : Hid (standD h.d.a y = true) := Lib.hid (by
              have t := HALLQ.out
              rw [List.take_of_length_le (by simp)] at t
              simp only [standD, Bool.and_eq_true, Bool.not_eq_true']
              constructor
              · rw [← Bool.not_eq_true, List.contains_iff_mem]; exact fun hm => (t _ hm).1 rfl
              · rw [← Bool.not_eq_true, List.contains_iff_mem]; exact fun hm => (t _ hm).2 rfl)
            clear hlq hq
            go_wp2_with (fail)
            try rw [w2']
            exact ⟨⟨p + 1, HP.out, by go_num, HTA.out HSY.out, HBI.out⟩, by have := HP.out; simp [intOf]; omega⟩
      · obtain rfl : p = 10 := by omega
        have HALL : Hid (h.l.all (standD h.d.a) = true) := HST
        have d5 : decide ((10 : Int) < 10) = false := by decide
        clear hlt hp
        rw [show ((10 : Nat) : Int) = 10 from rfl]
        go_wp2_with (fail)
        clear d5
        go_loopw [5] (fun v wr => ∃ m : Nat, m ≤ 10 ∧ v = .slice (some ⟨g, 0, none⟩) m 10 ∧ filledD h.l 10 = filledD h.l m ∧ Below w3.heap.size w3 wr) (fun v _ => sliceLen v)
        case atStart => exact ⟨10, by omega, rfl, rfl, HBO.out⟩
        case round =>
          clear HBO
          obtain ⟨wq, rfl⟩ : ∃ wq : World, wq = wr := ⟨_, rfl⟩
          obtain ⟨m, hm, rfl, hf, hbq⟩ := hrel
          have HBQ := Lib.hid hbq
          clear hbq
          match m, hm, hf with
          | 0, hm, hf =>
            as_aux_lemma =>
            have HF : Hid (filledD h.l 10 = 0 + 2) := Lib.hid (by rw [hf]; rfl)
            have d8 : decide ((0 : Int) < ((0 : Nat) : Int)) = false := by simp
            clear hf
            have HCUT : Hid (OwnS wq w2.heap.size (.slice (some ⟨g, 0, none⟩) 0 10) ((h.l.map (·.data.toList)).take 0)) := Lib.hid ((HO3.out.below HBQ.out).cut (Nat.zero_le _))
            have HDQ := Lib.hid (HD3.out.below HBQ.out)
            have HEW : Hid (writeH h = (makeD mshB h.d.a ([h.d.a] :: [h.d.b, h.d.c, h.d.d, h.d.e] :: (h.l.map (·.data.toList)).take 0), 0)) := Lib.hid (by rw [HE.out, if_pos HALL.out, HF.out]; rfl)
            have HLN : Hid (Lib.lens ((h.l.map (·.data.toList)).take 0) ≤ 1000000 ∧ ((h.l.map (·.data.toList)).take 0).length ≤ 10) := Lib.hid ⟨Nat.le_trans (Lib.lens_take_le _ _) HLB.out, by rw [List.length_take]; omega⟩
            have HDL : Hid (D < wq.heap.size) := Lib.hid (Array.getElem?_eq_some_iff.1 HDQ.out).1
            obtain ⟨c0, c1, c2, c3, c4⟩ := HDQ.out.cells
            have HQ1 : Hid (∀ o1 : Obj, BoxS h.d D (wq.alloc o1)) := Lib.hid (fun o1 => HDQ.out.below ((Below.refl _ _).alloc (Nat.le_refl _) o1))
            have HQC1 : Hid ((wq.alloc (.cells #[u8 h.d.a] 5)).cell? ⟨D, 1, none⟩ = some (u8 h.d.b)) := Lib.hid (cell_of_row _ D 1 _ _ _ (HQ1.out _))
            have HQC2 : Hid ((wq.alloc (.cells #[u8 h.d.a] 5)).cell? ⟨D, 2, none⟩ = some (u8 h.d.c)) := Lib.hid (cell_of_row _ D 2 _ _ _ (HQ1.out _))
            have HQC3 : Hid ((wq.alloc (.cells #[u8 h.d.a] 5)).cell? ⟨D, 3, none⟩ = some (u8 h.d.d)) := Lib.hid (cell_of_row _ D 3 _ _ _ (HQ1.out _))
            have HQC4 : Hid ((wq.alloc (.cells #[u8 h.d.a] 5)).cell? ⟨D, 4, none⟩ = some (u8 h.d.e)) := Lib.hid (cell_of_row _ D 4 _ _ _ (HQ1.out _))
            have HS1 : Hid (Bs (wq.alloc (.cells #[u8 h.d.a] 5)) (some ⟨wq.heap.size, 0, none⟩) 1 1 [h.d.a]) := Lib.hid (Bs.lit (n := 1) wq [h.d.a] 5 #[u8 h.d.a] wq.heap.size rfl rfl rfl (by simp [maxLen]))
            have HS2 : Hid (Bs ((wq.alloc (.cells #[u8 h.d.a] 5)).alloc (.cells #[u8 h.d.b, u8 h.d.c, u8 h.d.d, u8 h.d.e] 5)) (some ⟨wq.heap.size + 1, 0, none⟩) 4 4 [h.d.b, h.d.c, h.d.d, h.d.e]) := Lib.hid (Bs.lit (n := 4) (wq.alloc (.cells #[u8 h.d.a] 5)) [h.d.b, h.d.c, h.d.d, h.d.e] 5 #[u8 h.d.b, u8 h.d.c, u8 h.d.d, u8 h.d.e] (wq.heap.size + 1) (World.size_alloc _ _).symm rfl rfl (by simp [maxLen]))
            have HB4 : Hid (Below w.heap.size w wq) := Lib.hid (HB3.out.trans (HBQ.out.mono HB3.out.size))
            clear HO3 HBQ HD3 HE HALL HF hm HQ1 HX2Z
            have tok1 : Hid True := Lib.hid trivial
            go_wp2_with (first | (with_reducible refine wpList_loadU8 (dst := some 71) D 1 h.d.b (by kernel_rfl) HQC1 ?_) | (with_reducible refine wpList_loadU8 (dst := some 73) D 2 h.d.c (by kernel_rfl) HQC2 ?_) | (with_reducible refine wpList_loadU8 (dst := some 75) D 3 h.d.d (by kernel_rfl) HQC3 ?_) | (with_reducible refine wpList_loadU8 (dst := some 77) D 4 h.d.e (by kernel_rfl) HQC4 ?_) | (with_reducible refine wpList_strT (dst := some 69) (some ⟨wq.heap.size, 0, none⟩) 1 1 [h.d.a] (by kernel_rfl) HS1.out ?_; (try clear e1 e2 e3 e4 e5 d8)) | (with_reducible refine wpList_bytes4 (dst := some 78) (wq.heap.size + 1) h.d.b h.d.c h.d.d h.d.e (by kernel_rfl) (by kernel_rfl) (by kernel_rfl) (by kernel_rfl) (World.size_alloc _ _) ?_) | (with_reducible refine wpList_strT (dst := some 79) (some ⟨wq.heap.size + 1, 0, none⟩) 4 4 [h.d.b, h.d.c, h.d.d, h.d.e] (by kernel_rfl) HS2.out ?_) | (at_builtin; have _t := tok1; go_loud ((refine wpList_strs rfl (.tmp 80) (.tmp 81) rfl wq.heap.size _ [[h.d.a], [h.d.b, h.d.c, h.d.d, h.d.e]] rfl (by have t := OwnS.twoH ((wq.alloc (.cells #[u8 h.d.a] 5)).alloc (.cells #[u8 h.d.b, u8 h.d.c, u8 h.d.d, u8 h.d.e] 5)) [h.d.a] [h.d.b, h.d.c, h.d.d, h.d.e] wq.heap.size (by simp only [World.size_alloc]; omega); simp only [World.size_alloc] at t; exact t) w2.heap.size _ ((h.l.map (·.data.toList)).take 0) rfl (HCUT.out.below ((((Below.refl _ wq).alloc (Nat.le_refl _) _).alloc (by simp) _).alloc (by simp; omega) _)) (by have := HLN.out.2; simp only [List.length_cons, List.length_nil]; omega) (by simp only [World.size_alloc]; omega) ?_; intro v5 w5 hown hbel; obtain ⟨TT, hTT⟩ : ∃ TT, TT = ([[h.d.a], [h.d.b, h.d.c, h.d.d, h.d.e]] : List (List UInt8)) ++ (h.l.map (·.data.toList)).take 0 := ⟨_, rfl⟩; rw [← hTT] at hown; have HTT := Lib.hid hTT; clear hTT; have hb5 : Below wq.heap.size wq w5 := ((((Below.refl _ wq).alloc (Nat.le_refl _) _).alloc (by simp) _).alloc (by simp; omega) _).trans hbel; have HD5 := Lib.hid (HDQ.out.below hb5); have HB5 : Hid (Below w.heap.size w w5) := Lib.hid (HB4.out.trans (hb5.mono HB4.out.size)); obtain ⟨A5, c5, rfl, hS5, _⟩ := hown.ss; have HS5 := Lib.hid hS5; obtain ⟨d0, d1, d2, d3, d4⟩ := HD5.out.cells; clear tok1 hown hbel hb5 hS5 _t c0 c1 c2 c3 c4))))
            refine (refMake h.d mshB A5 TT.length c5 TT w5 HS5.out (by decide) (by rw [HTT.out, lensL2, List.length_append]; have := HLN.out; simp only [List.length_cons, List.length_nil]; omega)).mono ?_
            rintro e w6 ⟨rfl, hb6⟩
            have HB6 := Lib.hid (HB5.out.trans (hb6.mono HB5.out.size))
            clear hb6 d0 d1 d2 d3 d4
            go_wp2_with (fail)
            go_ret2
            exact ⟨by rw [HEW.out, HTT.out]; rfl, HB6.out⟩

          | p + 1, hm, hf =>
            as_aux_lemma =>
            obtain ⟨y, hy⟩ : ∃ y, y = h.l.getD p ⟨#[]⟩ := ⟨_, rfl⟩
            have cy : wq.cell? ⟨g, p, none⟩ = some (.string y) := by
              rw [hy]
              exact OwnS.cell (T := h.l.map (·.data.toList)) (HO3.out.below HBQ.out) (j := p) (x := (h.l.getD p ⟨#[]⟩).data.toList) (by rw [List.getElem?_map, List.getD_eq_getElem?_getD, List.getElem?_eq_getElem (show p < h.l.length by rw [Hd.l_len]; omega)]; rfl)
            have hfs := filledD_step h p
            rw [← hy] at hfs
            obtain ⟨m, hmp⟩ : ∃ m, m = p + 1 := ⟨_, rfl⟩
            rw [← hmp] at hm hf hfs ⊢
            have d8 : decide ((0 : Int) < (m : Int)) = true := by simp; omega
            have e1 : (m : Int) - 1 = (p : Int) := by omega
            have e2 : wrap64 (p : Int) = (p : Int) := IntWalk.wrap64_in _ (by omega)
            have e3 : (p : Int) < (m : Int) := by omega
            have e4 : (p : Int) ≤ 10 := by omega
            have e5 : (0 : Int) ≤ (p : Int) := by omega
            clear hy
            cases de : y.toList.isEmpty
            · have HF : Hid (filledD h.l 10 = m + 2) := Lib.hid (by rw [hf, hfs, de]; simp; omega)
              clear hf hfs hmp
              have HCUT : Hid (OwnS wq w2.heap.size (.slice (some ⟨g, 0, none⟩) m 10) ((h.l.map (·.data.toList)).take m)) := Lib.hid ((HO3.out.below HBQ.out).cut (by simp [Hd.l]; omega))
              have HDQ := Lib.hid (HD3.out.below HBQ.out)
              have HEW : Hid (writeH h = (makeD mshB h.d.a ([h.d.a] :: [h.d.b, h.d.c, h.d.d, h.d.e] :: (h.l.map (·.data.toList)).take m), 0)) := Lib.hid (by rw [HE.out, if_pos HALL.out, HF.out]; rfl)
              have HLN : Hid (Lib.lens ((h.l.map (·.data.toList)).take m) ≤ 1000000 ∧ ((h.l.map (·.data.toList)).take m).length ≤ 10) := Lib.hid ⟨Nat.le_trans (Lib.lens_take_le _ _) HLB.out, by rw [List.length_take]; omega⟩
              have HDL : Hid (D < wq.heap.size) := Lib.hid (Array.getElem?_eq_some_iff.1 HDQ.out).1
              obtain ⟨c0, c1, c2, c3, c4⟩ := HDQ.out.cells
              have HQ1 : Hid (∀ o1 : Obj, BoxS h.d D (wq.alloc o1)) := Lib.hid (fun o1 => HDQ.out.below ((Below.refl _ _).alloc (Nat.le_refl _) o1))
              have HQC1 : Hid ((wq.alloc (.cells #[u8 h.d.a] 5)).cell? ⟨D, 1, none⟩ = some (u8 h.d.b)) := Lib.hid (cell_of_row _ D 1 _ _ _ (HQ1.out _))
              have HQC2 : Hid ((wq.alloc (.cells #[u8 h.d.a] 5)).cell? ⟨D, 2, none⟩ = some (u8 h.d.c)) := Lib.hid (cell_of_row _ D 2 _ _ _ (HQ1.out _))
              have HQC3 : Hid ((wq.alloc (.cells #[u8 h.d.a] 5)).cell? ⟨D, 3, none⟩ = some (u8 h.d.d)) := Lib.hid (cell_of_row _ D 3 _ _ _ (HQ1.out _))
              have HQC4 : Hid ((wq.alloc (.cells #[u8 h.d.a] 5)).cell? ⟨D, 4, none⟩ = some (u8 h.d.e)) := Lib.hid (cell_of_row _ D 4 _ _ _ (HQ1.out _))
              have HS1 : Hid (Bs (wq.alloc (.cells #[u8 h.d.a] 5)) (some ⟨wq.heap.size, 0, none⟩) 1 1 [h.d.a]) := Lib.hid (Bs.lit (n := 1) wq [h.d.a] 5 #[u8 h.d.a] wq.heap.size rfl rfl rfl (by simp [maxLen]))
              have HS2 : Hid (Bs ((wq.alloc (.cells #[u8 h.d.a] 5)).alloc (.cells #[u8 h.d.b, u8 h.d.c, u8 h.d.d, u8 h.d.e] 5)) (some ⟨wq.heap.size + 1, 0, none⟩) 4 4 [h.d.b, h.d.c, h.d.d, h.d.e]) := Lib.hid (Bs.lit (n := 4) (wq.alloc (.cells #[u8 h.d.a] 5)) [h.d.b, h.d.c, h.d.d, h.d.e] 5 #[u8 h.d.b, u8 h.d.c, u8 h.d.d, u8 h.d.e] (wq.heap.size + 1) (World.size_alloc _ _).symm rfl rfl (by simp [maxLen]))
              have HB4 : Hid (Below w.heap.size w wq) := Lib.hid (HB3.out.trans (HBQ.out.mono HB3.out.size))
              clear HO3 HBQ HD3 HE HALL HF hm HQ1 HX2Z
              have tok1 : Hid True := Lib.hid trivial
              go_wp2_with (first | (with_reducible refine wpList_loadU8 (dst := some 71) D 1 h.d.b (by kernel_rfl) HQC1 ?_) | (with_reducible refine wpList_loadU8 (dst := some 73) D 2 h.d.c (by kernel_rfl) HQC2 ?_) | (with_reducible refine wpList_loadU8 (dst := some 75) D 3 h.d.d (by kernel_rfl) HQC3 ?_) | (with_reducible refine wpList_loadU8 (dst := some 77) D 4 h.d.e (by kernel_rfl) HQC4 ?_) | (with_reducible refine wpList_strT (dst := some 69) (some ⟨wq.heap.size, 0, none⟩) 1 1 [h.d.a] (by kernel_rfl) HS1.out ?_; (try clear e1 e2 e3 e4 e5 d8)) | (with_reducible refine wpList_bytes4 (dst := some 78) (wq.heap.size + 1) h.d.b h.d.c h.d.d h.d.e (by kernel_rfl) (by kernel_rfl) (by kernel_rfl) (by kernel_rfl) (World.size_alloc _ _) ?_) | (with_reducible refine wpList_strT (dst := some 79) (some ⟨wq.heap.size + 1, 0, none⟩) 4 4 [h.d.b, h.d.c, h.d.d, h.d.e] (by kernel_rfl) HS2.out ?_) | (at_builtin; have _t := tok1; go_loud ((refine wpList_strs rfl (.tmp 80) (.tmp 81) rfl wq.heap.size _ [[h.d.a], [h.d.b, h.d.c, h.d.d, h.d.e]] rfl (by have t := OwnS.twoH ((wq.alloc (.cells #[u8 h.d.a] 5)).alloc (.cells #[u8 h.d.b, u8 h.d.c, u8 h.d.d, u8 h.d.e] 5)) [h.d.a] [h.d.b, h.d.c, h.d.d, h.d.e] wq.heap.size (by simp only [World.size_alloc]; omega); simp only [World.size_alloc] at t; exact t) w2.heap.size _ ((h.l.map (·.data.toList)).take m) rfl (HCUT.out.below ((((Below.refl _ wq).alloc (Nat.le_refl _) _).alloc (by simp) _).alloc (by simp; omega) _)) (by have := HLN.out.2; simp only [List.length_cons, List.length_nil]; omega) (by simp only [World.size_alloc]; omega) ?_; intro v5 w5 hown hbel; obtain ⟨TT, hTT⟩ : ∃ TT, TT = ([[h.d.a], [h.d.b, h.d.c, h.d.d, h.d.e]] : List (List UInt8)) ++ (h.l.map (·.data.toList)).take m := ⟨_, rfl⟩; rw [← hTT] at hown; have HTT := Lib.hid hTT; clear hTT; have hb5 : Below wq.heap.size wq w5 := ((((Below.refl _ wq).alloc (Nat.le_refl _) _).alloc (by simp) _).alloc (by simp; omega) _).trans hbel; have HD5 := Lib.hid (HDQ.out.below hb5); have HB5 : Hid (Below w.heap.size w w5) := Lib.hid (HB4.out.trans (hb5.mono HB4.out.size)); obtain ⟨A5, c5, rfl, hS5, _⟩ := hown.ss; have HS5 := Lib.hid hS5; obtain ⟨d0, d1, d2, d3, d4⟩ := HD5.out.cells; clear tok1 hown hbel hb5 hS5 _t c0 c1 c2 c3 c4))))
              refine (refMake h.d mshB A5 TT.length c5 TT w5 HS5.out (by decide) (by rw [HTT.out, lensL2, List.length_append]; have := HLN.out; simp only [List.length_cons, List.length_nil]; omega)).mono ?_
              rintro e w6 ⟨rfl, hb6⟩
              have HB6 := Lib.hid (HB5.out.trans (hb6.mono HB5.out.size))
              clear hb6 d0 d1 d2 d3 d4
              go_wp2_with (fail)
              go_ret2
              exact ⟨by rw [HEW.out, HTT.out]; rfl, HB6.out⟩

            · have HFP : Hid (filledD h.l 10 = filledD h.l p) := Lib.hid (by rw [hf, hfs, de]; rfl)
              have HPM : Hid (p + 1 = m ∧ m ≤ 10) := Lib.hid ⟨hmp.symm, hm⟩
              clear hf hfs hmp hm
              go_wp2_with (fail)
              go_roundw
              case rel => exact ⟨p, by have := HPM.out; omega, rfl, HFP.out, HBQ.out⟩
              case measure => have := HPM.out; simp only [sliceLen]; omega
end Go.Proofs.YtgffamdlnacamaaDoor

/- Layer 10's answer: an answer built. -/
namespace Go.Proofs.YtgffamdlnacamaaDoor
open Go.RowKit

theorem codeD_three (s : ByteArray) : codeD s = (s.toList == [65, 65] || s.toList == [65, 69] || s.toList == [65, 82]) := by
  have e : ∀ (k : Nat) (x : List UInt8), (cB k).data.toList = x → (s.toList == x) = decide (cB k = s) := by
    intro k x hx
    rw [Go.ByteArray.toList_eq]
    by_cases h : cB k = s
    · rw [decide_eq_true h, ← h, hx]; simp
    · rw [decide_eq_false h, beq_eq_false_iff_ne]
      exact fun e => h (ByteArray.ext (Array.toList_inj.1 (by rw [hx, e])))
  rw [e 0 [65, 65] rfl, e 1 [65, 69] rfl, e 2 [65, 82] rfl]
  unfold codeD codesL
  simp [Bool.or_assoc]
set_option maxHeartbeats 1000000 in
theorem refKnown10 (s : ByteArray) (w : World) : Calls Tryd.prog 55 #[.string s] w fun e w' => e = .returned (.bool (codeD s)) ∧ w' = w := by
  rw [codeD_three]
  cases d1 : (s.toList == [65, 65]) <;> cases d2 : (s.toList == [65, 69]) <;> cases d3 : (s.toList == [65, 82]) <;>
  · go_enter Tryd.func55, Tryd.ntmps55
    go_wp2_with (fail)
    go_ret
    exact ⟨rfl, rfl⟩

theorem built_ans (h : Hd) : Tryd.prog.built TH [(0, h.d.v), (1, .string h.a2), (2, .string h.a3), (3, .string h.a0), (4, .string h.a1), (5, .string h.a4), (7, .string ⟨#[65, 67, 75]⟩), (8, .string h.a7), (9, .string h.a8), (10, .string h.a9)] = some (ansH h).cells := by kernel_rfl

set_option maxHeartbeats 8000000 in
set_option maxRecDepth 100000 in
theorem refBuild10 (h : Hd) (code : ByteArray) (w : World) (hb : h.sum ≤ 300000) (hc : code.size ≤ 1000) : Calls Tryd.prog 30 #[h.v, .string code] w fun e w' => e = .returned (.tuple #[str (buildD h code).1, .int .i64 (buildD h code).2]) ∧ Below w.heap.size w w' := by
  have HX0 := Lib.hid (BoxH.new h w)
  have HB0 := Lib.hid (boxHd_below h w)
  have HS := Lib.hid hb
  have HC := Lib.hid hc
  have HAS := Lib.hid (ansH_sum h)
  have HA7 := Lib.hid (a7_le h)
  clear hb hc
  go_enter Tryd.func30, Tryd.ntmps30
  go_wp2_with (fail)
  generalize w.alloc (.cells #[u8 h.d.a, u8 h.d.b, u8 h.d.c, u8 h.d.d, u8 h.d.e, .string h.a0, .string h.a1, .string h.a2, .string h.a3, .string h.a4, .string h.a5, .string h.a6, .string h.a7, .string h.a8, .string h.a9] TH) = w0 at *
  refine (refKnown10 code w0).mono ?_
  rintro e w1 ⟨rfl, rfl⟩
  cases hk : codeD code
  · as_aux_lemma =>
    have HE : Hid (buildD h code = ([], 17)) := Lib.hid (by unfold buildD; rw [hk]; rfl)
    go_wp2_with (fail)
    go_ret2
    exact ⟨by rw [HE.out]; rfl, HB0.out⟩
  · obtain ⟨c0, c1, c2, c3, c4, c5, c6, c7, c8, c9, c10, c11, c12, c13, c14⟩ := HX0.out.cells
    have HQ0 : Hid (BoxH (ansH h) w1.heap.size (w1.alloc (.cells (ansH h).cells TH))) := Lib.hid (BoxH.new _ w1)
    have HX1 : Hid (BoxH h w.heap.size (w1.alloc (.cells (ansH h).cells TH))) := Lib.hid (HX0.out.below (boxHd_below (ansH h) w1))
    have HB1 : Hid (Below w.heap.size w (w1.alloc (.cells (ansH h).cells TH))) := Lib.hid (HB0.out.alloc HB0.out.size _)
    obtain ⟨q, hq⟩ : ∃ q, q = ansH h := ⟨_, rfl⟩
    have HQE := Lib.hid hq
    have hbu : Tryd.prog.built TH [(0, h.d.v), (1, .string h.a2), (2, .string h.a3), (3, .string h.a0), (4, .string h.a1), (5, .string h.a4), (7, .string ⟨#[65, 67, 75]⟩), (8, .string h.a7), (9, .string h.a8), (10, .string h.a9)] = some q.cells := by rw [hq]; exact built_ans h
    have HBU := Lib.hid hbu
    rw [← hq] at HQ0 HX1 HB1 HAS
    clear hq hbu
    go_wp2_with (first | (with_reducible refine wpList_buildH q [(0, h.d.v), (1, .string h.a2), (2, .string h.a3), (3, .string h.a0), (4, .string h.a1), (5, .string h.a4), (7, .string ⟨#[65, 67, 75]⟩), (8, .string h.a7), (9, .string h.a8), (10, .string h.a9)] (by kernel_rfl) HBU.out ?_; clear c0 c1 c2 c3 c4 c5 c6 c7 c8 c9 c10 c11 c12 c13 c14) | (with_reducible refine wpList_loadHG w1.heap.size q (by kernel_rfl) (by kernel_rfl) HQ0.out ?_))
    obtain ⟨G, hG⟩ : ∃ G, G = w1.heap.size := ⟨_, rfl⟩
    rw [← hG] at HQ0 ⊢
    clear hG HX0 HBU
    generalize w1.alloc (.cells #[u8 q.d.a, u8 q.d.b, u8 q.d.c, u8 q.d.d, u8 q.d.e, .string q.a0, .string q.a1, .string q.a2, .string q.a3, .string q.a4, .string q.a5, .string q.a6, .string q.a7, .string q.a8, .string q.a9] TH) = w2 at *
    refine (refWrite09 q w2 (by rw [← Hd.sum_eq]; have := HAS.out; have := HS.out; omega)).mono ?_
    rintro e w3 ⟨rfl, hb3⟩
    have HX3 := Lib.hid (HX1.out.below hb3)
    have HB3 := Lib.hid (HB1.out.trans (hb3.mono HB1.out.size))
    clear hb3 HX1 HB1 HQ0
    rw [HQE.out]
    rcases writeH_cases (ansH h) with hw | hw | ⟨hw, hg, hst⟩
    · as_aux_lemma =>
      have HE : Hid (buildD h code = ([], 11)) := Lib.hid (by unfold buildD; rw [if_pos hk, hw]; rfl)
      rw [hw]
      rw [show str (([], (11 : Int)) : List UInt8 × Int).1 = Value.string ⟨#[]⟩ from rfl]
      clear hw hk
      go_wp2_with (fail)
      go_ret2
      exact ⟨by rw [HE.out]; rfl, HB3.out⟩
    · as_aux_lemma =>
      have HE : Hid (buildD h code = ([], 10)) := Lib.hid (by unfold buildD; rw [if_pos hk, hw]; rfl)
      rw [hw]
      rw [show str (([], (10 : Int)) : List UInt8 × Int).1 = Value.string ⟨#[]⟩ from rfl]
      clear hw hk
      go_wp2_with (fail)
      go_ret2
      exact ⟨by rw [HE.out]; rfl, HB3.out⟩
    · as_aux_lemma =>
      have HE : Hid (buildD h code = (joinD [segH (ansH h), makeD msaB h.d.a [code.data.toList, h.a7.data.toList]], 0)) := Lib.hid (by unfold buildD; rw [if_pos hk, hw]; rfl)
      have HSL : Hid ((segH (ansH h)).length ≤ 300021) := Lib.hid (by have := segH_len (ansH h); have t := HAS.out; rw [HQE.out] at t; have := HS.out; omega)
      rw [hw]
      clear hw hk hg hst HAS
      obtain ⟨S, hS⟩ : ∃ S, S = segH (ansH h) := ⟨_, rfl⟩
      rw [← hS] at HE HSL ⊢
      clear hS
      obtain ⟨c0, c1, c2, c3, c4, c5, c6, c7, c8, c9, c10, c11, c12, c13, c14⟩ := HX3.out.cells
      clear c5 c6 c7 c8 c9 c10 c11 c13 c14
      go_wp2_with (fail)
      clear c0 c1 c2 c3 c4 c12
      have HO4 : Hid (OwnS (w3.alloc (.cells #[.string code, .string h.a7] 9)) w3.heap.size (.slice (some ⟨w3.heap.size, 0, none⟩) 2 2) [code.data.toList, h.a7.data.toList]) := Lib.hid (OwnS.twoH w3 code.data.toList h.a7.data.toList _ (Nat.le_refl _))
      have HB4 : Hid (Below w.heap.size w (w3.alloc (.cells #[.string code, .string h.a7] 9))) := Lib.hid (HB3.out.alloc HB3.out.size _)
      have HT : Hid (Lib.lens [code.data.toList, h.a7.data.toList] ≤ 302000) := Lib.hid (by rw [lens_two]; have := HC.out; have := HA7.out; have := HS.out; simp; omega)
      generalize w3.alloc (.cells #[.string code, .string h.a7] 9) = w4 at *
      refine (refMake h.d msaB _ 2 2 _ w4 HO4.out.ss' (by decide) (by have := HT.out; simp only [List.length_cons, List.length_nil]; omega)).mono ?_
      rintro e w5 ⟨rfl, hb5⟩
      have HB5 := Lib.hid (HB4.out.trans (hb5.mono HB4.out.size))
      have HML : Hid ((makeD msaB h.d.a [code.data.toList, h.a7.data.toList]).length ≤ 302005) := Lib.hid (by rw [msa_len, ← lens_two]; have := HT.out; omega)
      clear hb5 HO4 HB4 HT
      obtain ⟨M, hM⟩ : ∃ M, M = makeD msaB h.d.a [code.data.toList, h.a7.data.toList] := ⟨_, rfl⟩
      rw [← hM] at HE HML ⊢
      clear hM
      go_wp2_with (fail)
      have HO6 : Hid (OwnS (w5.alloc (.cells #[str S, str M] 9)) w5.heap.size (.slice (some ⟨w5.heap.size, 0, none⟩) 2 2) [S, M]) := Lib.hid (OwnS.twoH w5 S M _ (Nat.le_refl _))
      have HB6 : Hid (Below w.heap.size w (w5.alloc (.cells #[str S, str M] 9))) := Lib.hid (HB5.out.alloc HB5.out.size _)
      generalize w5.alloc (.cells #[str S, str M] 9) = w6 at *
      refine (refJoin _ 2 2 [S, M] w6 HO6.out.ss' (by rw [lens_two]; have := HSL.out; have := HML.out; simp only [List.length_cons, List.length_nil]; omega)).mono ?_
      rintro e w7 ⟨rfl, hb7⟩
      have HB7 := Lib.hid (HB6.out.trans (hb7.mono HB6.out.size))
      clear hb7 HO6
      go_wp2_with (fail)
      go_ret2
      exact ⟨by rw [HE.out]; rfl, HB7.out⟩

end Go.Proofs.YtgffamdlnacamaaDoor

/- Layer 4's answers: Good, Wrap. -/
namespace Go.Proofs.YtgffamdlnacamaaDoor
open Go.RowKit

set_option maxRecDepth 100000 in
set_option maxHeartbeats 1000000 in
theorem refGood_yes (A : Option Addr) (n c : Nat) (l : List UInt8) (w : World) (hB : Bs w A n c l) (hg : good l = true) :
    Calls Tryd.prog 15 #[.slice A n c] w fun e w' => e = .returned (.bool true) ∧ w = w' := by
  have hn := hB.nmax
  have HG := Lib.hid hg; clear hg
  have HB := Lib.hid hB; clear hB
  go_enter Tryd.func15, Tryd.ntmps15
  go_wp2
  go_loop [3] (fun i => ∃ k : Nat, k ≤ n ∧ i = .int .i64 k) (fun i => n - (intOf i).toNat)
  case atStart => exact ⟨0, Nat.zero_le _, rfl⟩
  case round =>
    obtain ⟨k, hk, rfl⟩ := hrel
    by_cases hlt : k < n
    · obtain ⟨b, o, rfl, hb, hc⟩ := HB.out.at_ (by omega)
      have hkl : k < l.length := by have := HB.out.len; omega
      have hbad := good_at HG.out hkl
      have hcell := hc k _ (List.getElem?_eq_getElem hkl)
      have h11 : l[k] ≠ 11 := fun e => good_no_start HG.out (e ▸ List.getElem_mem hkl)
      unfold badAt at hbad
      rw [List.getElem?_eq_getElem hkl] at hbad
      generalize l[k] = x at hcell hbad h11
      have h11' := u8_ne (x := x) (k := 11) 11 rfl h11
      by_cases h28 : x = 28
      · subst h28
        have hkn : k + 1 ≠ l.length := by intro e; simp [e] at hbad
        have hk1 : k + 1 < l.length := by omega
        have hcell1 := hc (k + 1) _ (List.getElem?_eq_getElem hk1)
        rw [List.getElem?_eq_getElem hk1] at hbad
        generalize l[k + 1] = y at hcell1 hbad
        have hne := u8_ne (x := y) (k := 13) 13 rfl (by intro e; subst e; simp at hbad)
        have hk2 : ((k : Int) + 1 == n) = false := by rw [beq_eq_false_iff_ne]; have := HB.out.len; omega
        have hk3 : k + 1 < n := by have := HB.out.len; omega
        clear hbad hkn hc h11 h11'
        go_wp2
        go_round
        case rel => exact ⟨k + 1, by omega, by go_num⟩
        case measure => simp [intOf]; omega
      · have hx' := u8_ne (x := x) (k := 28) 28 rfl h28
        clear hbad hc
        go_wp2
        go_round
        case rel => exact ⟨k + 1, by omega, by go_num⟩
        case measure => simp [intOf]; omega
    · go_wp2
      go_ret
      exact ⟨rfl, rfl⟩

theorem not_good_place {l : List UInt8} (h : good l = false) : ∃ j, j < l.length ∧ (l[j]? = some 11 ∨ badAt l j = true) := by
  apply Classical.byContradiction
  intro hne
  rw [good_of (l := l) (fun hm => by
    obtain ⟨j, hj, e⟩ := List.getElem_of_mem hm
    exact hne ⟨j, hj, .inl (by rw [List.getElem?_eq_getElem hj, e])⟩) (fun i hi => by
    cases hb : badAt l i with
    | false => rfl
    | true => exact absurd ⟨i, hi, .inr hb⟩ hne)] at h
  cases h

set_option maxRecDepth 100000 in
set_option maxHeartbeats 1000000 in
theorem refGood_no (A : Option Addr) (n c : Nat) (l : List UInt8) (w : World) (hB : Bs w A n c l) (hg : good l = false) :
    Calls Tryd.prog 15 #[.slice A n c] w fun e w' => e = .returned (.bool false) ∧ w = w' := by
  have hn := hB.nmax
  obtain ⟨j, hj, hjb⟩ := not_good_place hg
  have hjn : j < n := by have := hB.len; omega
  have HJ := Lib.hid hjb; clear hjb hg
  have HB := Lib.hid hB; clear hB
  go_enter Tryd.func15, Tryd.ntmps15
  go_wp2
  go_loop [3] (fun i => ∃ k : Nat, k ≤ j ∧ i = .int .i64 k) (fun i => n - (intOf i).toNat)
  case atStart => exact ⟨0, Nat.zero_le _, rfl⟩
  case round =>
    obtain ⟨k, hk, rfl⟩ := hrel
    have hlt : k < n := by omega
    obtain ⟨b, o, rfl, hb, hc⟩ := HB.out.at_ (by omega)
    have hkl : k < l.length := by have := HB.out.len; omega
    have ek := List.getElem?_eq_getElem hkl
    have hcell := hc k _ ek
    by_cases h11 : l[k] = 11
    · rw [h11] at hcell
      clear hc ek h11
      go_wp2
      go_ret
      exact ⟨rfl, rfl⟩
    · have hJ2 : k = j → badAt l k = true := by
        rintro rfl
        exact HJ.out.resolve_left (by rw [ek]; simpa using h11)
      cases hbad : badAt l k with
      | false =>
        have hkj : k < j := by
          rcases Nat.lt_or_ge k j with h | h
          · exact h
          · rw [hJ2 (by omega)] at hbad; cases hbad
        unfold badAt at hbad
        rw [ek] at hbad
        generalize l[k] = x at hcell hbad h11 ek
        have h11' := u8_ne (x := x) (k := 11) 11 rfl h11
        by_cases h28 : x = 28
        · subst h28
          have hkn : k + 1 ≠ l.length := by intro e; simp [e] at hbad
          have hk1 : k + 1 < l.length := by omega
          have hcell1 := hc (k + 1) _ (List.getElem?_eq_getElem hk1)
          rw [List.getElem?_eq_getElem hk1] at hbad
          generalize l[k + 1] = y at hcell1 hbad
          have hne := u8_ne (x := y) (k := 13) 13 rfl (by intro e; subst e; simp at hbad)
          have hk2 : ((k : Int) + 1 == n) = false := by rw [beq_eq_false_iff_ne]; have := HB.out.len; omega
          have hk3 : k + 1 < n := by have := HB.out.len; omega
          clear hbad hkn hc h11 h11' ek hJ2
          go_wp2
          go_round
          case rel => exact ⟨k + 1, by omega, by go_num⟩
          case measure => simp [intOf]; omega
        · have hx' := u8_ne (x := x) (k := 28) 28 rfl h28
          clear hbad hc ek hJ2 h11
          go_wp2
          go_round
          case rel => exact ⟨k + 1, by omega, by go_num⟩
          case measure => simp [intOf]; omega
      | true =>
        unfold badAt at hbad
        rw [ek] at hbad
        simp only [Bool.and_eq_true, beq_iff_eq, Option.some.injEq, Bool.or_eq_true, decide_eq_true_eq] at hbad
        obtain ⟨h28, hend⟩ := hbad
        rw [h28] at hcell
        by_cases he : k + 1 = l.length
        · have hk2 : ((k : Int) + 1 == n) = true := by rw [beq_iff_eq]; have := HB.out.len; omega
          clear hend he hc h28 ek hJ2 h11
          go_wp2
          go_ret
          exact ⟨rfl, rfl⟩
        · have h13 := hend.resolve_left he
          have hcell1 := hc (k + 1) _ h13
          have hk1 : k + 1 < l.length := by omega
          have hk2 : ((k : Int) + 1 == n) = false := by rw [beq_eq_false_iff_ne]; have := HB.out.len; omega
          have hk3 : k + 1 < n := by have := HB.out.len; omega
          clear hend hc h28 he h13 ek hJ2 h11
          go_wp2
          go_ret
          exact ⟨rfl, rfl⟩

theorem refGood (A : Option Addr) (n c : Nat) (l : List UInt8) (w : World) (hB : Bs w A n c l) (r : Bool) (hr : good l = r) :
    Calls Tryd.prog 15 #[.slice A n c] w fun e w' => e = .returned (.bool r) ∧ w = w' := by
  subst hr
  cases hg : good l with
  | true => exact refGood_yes A n c l w hB hg
  | false => exact refGood_no A n c l w hB hg

/-- what a call gives that answers bytes, and leaves what was there -/
def RetB4 (l : List UInt8) (w : World) (e : Ending) (w' : World) : Prop :=
  ∃ A c, e = .returned (.slice A l.length c) ∧ Bs w' A l.length c l ∧ Below w.heap.size w w'

set_option maxRecDepth 100000 in
theorem refWrap (A : Option Addr) (n c : Nat) (l : List UInt8) (w : World) (hB : Bs w A n c l) (hn : n ≤ 140737488351232) :
    Calls Tryd.prog 31 #[.slice A n c] w (RetB4 (11 :: (l ++ [28, 13])) w) := by
  have HB := Lib.hid hB
  have HL : l.length ≤ n := by have := hB.len; omega
  have tok1 : True := trivial
  have tok2 : True := trivial
  clear hB
  go_enter Tryd.func31, Tryd.ntmps31
  go_wp2_with (first
    | (at_builtin; have _t := tok1
       refine wpList_app rfl (.tmp 3) (.tmp 4) 22 rfl w.heap.size 5 Tryd.underlying22 byteInfoF _ [11] rfl (Own.lit 5 w [11] (Nat.le_refl _) (by simp [maxLen])) _ n c l rfl (HB.out.alloc _) (by simp; omega) (by simp) ?_
       intro v1 w1 hown1 hb1 hg1
       have b1 : Below w.heap.size w w1 := ((Below.refl _ _).alloc (Nat.le_refl _) _).trans hb1
       clear tok1 hb1 hg1 _t)
    | (at_builtin; have _t := tok2
       refine wpList_app rfl (.tmp 5) (.tmp 6) 22 rfl w.heap.size 5 Tryd.underlying22 byteInfoF _ ([11] ++ l) rfl (hown1.alloc _) _ 2 2 [28, 13] rfl (Bs.lit _ [28, 13] 5 _ _ rfl rfl rfl (by simp [maxLen])) (by simp; omega) (by have := b1.size; simp; omega) ?_
       intro v2 w2 hown2 hb2 hg2
       have b2 : Below w.heap.size w w2 := (b1.alloc b1.size _).trans hb2
       clear tok2 hb2 hg2 _t))
  go_ret
  obtain ⟨A4, c4, rfl, hB4, _⟩ := hown2.bs
  have hl4 : ([11] ++ l ++ [28, 13] : List UInt8) = 11 :: (l ++ [28, 13]) := by simp
  rw [hl4] at hB4 ⊢
  exact ⟨A4, c4, rfl, hB4, b2⟩

end Go.Proofs.YtgffamdlnacamaaDoor

/- Layer 11's answers: what a message is worth, and its answer. -/
namespace Go.Proofs.YtgffamdlnacamaaDoor
open Go.RowKit

theorem seg1_nil : seg1 [] = [] := by rfl
theorem seg1_cons (x : UInt8) (l : List UInt8) : seg1 (x :: l) = if x = 13 then [] else x :: seg1 l := by
  split
  · rename_i h
    subst h
    exact seg1_front (m := []) (by simp) l
  · rename_i h
    rcases seg1_cases l with ⟨h1, h2⟩ | ⟨r, h1, h2⟩
    · rw [h2, seg1_none]
      intro hm
      rcases List.mem_cons.1 hm with e | e
      · exact h e.symm
      · exact h1 e
    · obtain ⟨m, hm⟩ : ∃ m, m = seg1 l := ⟨_, rfl⟩
      rw [← hm] at h1 h2 ⊢
      rw [h2]
      exact seg1_front (m := x :: m) (by
        intro hm
        rcases List.mem_cons.1 hm with e | e
        · exact h e.symm
        · exact h1 e) r
/-- the place at which a scan of the first segment stops -/
theorem seg_scan (l : List UInt8) : ∃ j, j ≤ l.length ∧ (∀ i, i < j → ∃ x, l[i]? = some x ∧ x ≠ 13 ∧ x ≠ 28) ∧
    (((28 : UInt8) ∈ seg1 l ∧ l[j]? = some 28) ∨ ((28 : UInt8) ∉ seg1 l ∧ (j = l.length ∨ l[j]? = some 13))) := by
  induction l with
  | nil => exact ⟨0, Nat.le_refl _, fun i hi => absurd hi (by omega), .inr ⟨by rw [seg1_nil]; simp, .inl rfl⟩⟩
  | cons x l ih =>
    rw [seg1_cons]
    by_cases h13 : x = 13
    · subst h13
      exact ⟨0, by simp, fun i hi => absurd hi (by omega), .inr ⟨by simp, .inr rfl⟩⟩
    rw [if_neg h13]
    by_cases h28 : x = 28
    · subst h28
      exact ⟨0, by simp, fun i hi => absurd hi (by omega), .inl ⟨by simp, rfl⟩⟩
    obtain ⟨j, hj, hi, hr⟩ := ih
    refine ⟨j + 1, by simpa using hj, fun i hlt => ?_, ?_⟩
    · cases i with
      | zero => exact ⟨x, rfl, h13, h28⟩
      | succ i => exact hi i (by omega)
    · rcases hr with ⟨h1, h2⟩ | ⟨h1, h2⟩
      · exact .inl ⟨List.mem_cons_of_mem _ h1, h2⟩
      · refine .inr ⟨fun hm => ?_, ?_⟩
        · rcases List.mem_cons.1 hm with e | e
          · exact h28 e.symm
          · exact h1 e
        · rcases h2 with e | e
          · exact .inl (by rw [e]; rfl)
          · exact .inr e

set_option maxRecDepth 100000 in
set_option maxHeartbeats 4000000 in
theorem refVerdict11 (A : Option Addr) (n c : Nat) (l : List UInt8) (w : World) (hB : Bs w A n c l) (hn : n ≤ 1000000) :
    Calls Tryd.prog 11 #[.slice A n c] w fun e w' => e = .returned (.tuple #[(verdictD l).1.v, .string (verdictD l).2.1, .int .i64 (verdictD l).2.2]) ∧ Below w.heap.size w w' := by
  have HN := Lib.hid hn
  have HL := Lib.hid hB.len
  have HZ0 : Hid (BoxH Hd.zero w.heap.size (w.alloc (.cells Hd.zero.cells TH))) := Lib.hid (BoxH.new _ w)
  have HB0 : Hid (Below w.heap.size w (w.alloc (.cells Hd.zero.cells TH))) := Lib.hid (boxHd_below _ w)
  have HBS := Lib.hid (hB.below (boxHd_below Hd.zero w))
  clear hB hn
  go_enter Tryd.func11, Tryd.ntmps11
  go_wp2_with (fail)
  generalize hw0 : w.alloc (.cells #[.int .u8 0, .int .u8 0, .int .u8 0, .int .u8 0, .int .u8 0, .string ⟨#[]⟩, .string ⟨#[]⟩, .string ⟨#[]⟩, .string ⟨#[]⟩, .string ⟨#[]⟩, .string ⟨#[]⟩, .string ⟨#[]⟩, .string ⟨#[]⟩, .string ⟨#[]⟩, .string ⟨#[]⟩] TH) = w0
  rw [show w.alloc (.cells Hd.zero.cells TH) = w0 from hw0] at HZ0 HB0 HBS
  clear hw0
  refine (refRead09 A n c l w0 HBS.out HN.out).mono ?_
  rintro e w1 ⟨rfl, hb1⟩
  have HZ1 := Lib.hid (HZ0.out.below hb1)
  have HB1 := Lib.hid (HB0.out.trans (hb1.mono HB0.out.size))
  have HBS1 := Lib.hid (HBS.out.below hb1)
  clear hb1 HZ0 HBS HB0
  have HVD : Hid (verdictD l = if (readH l).2 = 0 then if (28 : UInt8) ∈ seg1 l then (Hd.zero, ⟨#[]⟩, 10) else ((readH l).1, codeOf (checkD (readH l).1), checkD (readH l).1) else (Hd.zero, ⟨#[]⟩, (readH l).2)) := Lib.hid rfl
  have HKS : Hid (readH l = ((readH l).1, 0) → (readH l).1.a8.size ≤ n ∧ (readH l).1.a9.size ≤ n) := Lib.hid (fun hr => by
    have t := sum_le_of (read_stands hr).2.2
    rw [HL.out] at t
    exact ⟨t.1, t.2.1⟩)
  obtain ⟨h, hh⟩ : ∃ h, h = (readH l).1 := ⟨_, rfl⟩
  obtain ⟨x, hx⟩ : ∃ x, x = (readH l).2 := ⟨_, rfl⟩
  have HPR : Hid (readH l = (h, x)) := Lib.hid (by rw [hh, hx])
  rw [← hh, ← hx] at HVD ⊢
  rw [← hh] at HKS
  clear hh hx
  have HX2 : Hid (BoxH h w1.heap.size (w1.alloc (.cells h.cells TH))) := Lib.hid (BoxH.new h w1)
  have HZ2 : Hid (BoxH Hd.zero w.heap.size (w1.alloc (.cells h.cells TH))) := Lib.hid (HZ1.out.below (boxHd_below h w1))
  have HB2 : Hid (Below w.heap.size w (w1.alloc (.cells h.cells TH))) := Lib.hid (HB1.out.alloc HB1.out.size _)
  have HBS2 : Hid (Bs (w1.alloc (.cells h.cells TH)) A n c l) := Lib.hid (HBS1.out.alloc _)
  by_cases he : x = 0
  · subst he
    rw [if_pos rfl] at HVD
    have HK2 := Lib.hid (HKS.out HPR.out)
    clear HKS
    go_wp2_with (fail)
    obtain ⟨G, hG⟩ : ∃ G, G = w1.heap.size := ⟨_, rfl⟩
    rw [← hG] at HX2 ⊢
    clear hG
    generalize w1.alloc (.cells #[u8 h.d.a, u8 h.d.b, u8 h.d.c, u8 h.d.d, u8 h.d.e, .string h.a0, .string h.a1, .string h.a2, .string h.a3, .string h.a4, .string h.a5, .string h.a6, .string h.a7, .string h.a8, .string h.a9] TH) = w2 at *
    clear HZ1 HB1 HBS1
    obtain ⟨j, hj, hbef, hat⟩ := seg_scan l
    rw [HL.out] at hj hat
    have HJ := Lib.hid hbef
    have HAT := Lib.hid hat
    have hn := HN.out
    clear hbef hat
    go_loop [7] (fun i => ∃ k : Nat, k ≤ j ∧ i = .int .i64 k) (fun i => n - (intOf i).toNat)
    case atStart => exact ⟨0, Nat.zero_le _, rfl⟩
    case round =>
      obtain ⟨k, hk, rfl⟩ := hrel
      by_cases hlt : k < j
      · as_aux_lemma =>
        obtain ⟨x, e1, e2, e3⟩ := HJ.out k hlt
        obtain ⟨b, o, rfl, hb, hc⟩ := HBS2.out.at_ (by omega)
        have hcell := hc k x e1
        have g1 := u8_bne (x := x) (k := 13) 13 rfl e2
        have g2 := u8_ne (x := x) (k := 28) 28 rfl e3
        have hkn : k < n := by omega
        clear hc hb e1 e2 e3
        go_wp2_with (fail)
        go_round
        case rel => exact ⟨k + 1, by omega, by go_num⟩
        case measure => simp [intOf]; omega
      obtain rfl : k = j := by omega
      clear hlt
      rcases HAT.out with ⟨h28, e28⟩ | ⟨h28, e13⟩
      · as_aux_lemma =>
        have HE : Hid (verdictD l = (Hd.zero, ⟨#[]⟩, 10)) := Lib.hid (by rw [HVD.out, if_pos h28])
        have hkn : k < n := by have := (List.getElem?_eq_some_iff.1 e28).1; have := HL.out; omega
        obtain ⟨b, o, rfl, hb, hc⟩ := HBS2.out.at_ (by omega)
        have hcell := hc k _ e28
        clear hc hb e28 h28
        go_wp2_with (with_reducible refine wpList_storeH w.heap.size Hd.zero Hd.zero (by kernel_rfl) (by kernel_rfl) HZ2.out ?_)
        have HR := Lib.hid (HZ2.out.setRow Hd.zero)
        have HBR := Lib.hid (below_setRow HB2.out (Nat.le_refl _) Hd.zero.cells)
        generalize w2.setRow w.heap.size Hd.zero.cells = w5 at *
        refine bodyPost_ret (v := .tuple #[Hd.zero.v, .string ⟨#[]⟩, .int .i64 10]) ?_ rfl ⟨by rw [HE.out], HBR.out⟩
        exact resultsH3 Tryd.results11 _ _ _ _ _ _ (by kernel_rfl) (by kernel_rfl) (by kernel_rfl) HR.out
      · have HE : Hid (verdictD l = (h, codeOf (checkD h), checkD h)) := Lib.hid (by rw [HVD.out, if_neg h28])
        have HN' := hn
        rcases e13 with e13 | e13
        · as_aux_lemma =>
          have hnl : ¬ k < n := by omega
          clear e13 h28
          go_wp2_with (with_reducible refine wpList_loadHG G h (by kernel_rfl) (by kernel_rfl) HX2.out ?_)
          refine (refCheck09 h w2 (by have := HK2.out.1; have := HN.out; omega) (by have := HK2.out.2; have := HN.out; omega)).mono ?_
          rintro e w5 ⟨rfl, hb5⟩
          have HX5 := Lib.hid (HX2.out.below hb5)
          have HZ5 := Lib.hid (HZ2.out.below hb5)
          have HB5 := Lib.hid (HB2.out.trans (hb5.mono HB2.out.size))
          have HCC := Lib.hid (checkD_cases h)
          clear hb5
          obtain ⟨K, hK⟩ : ∃ K, K = checkD h := ⟨_, rfl⟩
          rw [← hK] at HE HCC ⊢
          clear hK
          rcases HCC.out with rfl | rfl | rfl | rfl
          · as_aux_lemma =>
            go_wp2_with (first | (with_reducible refine wpList_loadHG G h (by kernel_rfl) (by kernel_rfl) HX5.out ?_) | (with_reducible refine wpList_storeH w.heap.size h Hd.zero (by kernel_rfl) (by kernel_rfl) HZ5.out ?_))
            have HR := Lib.hid (HZ5.out.setRow h)
            have HBR := Lib.hid (below_setRow HB5.out (Nat.le_refl _) h.cells)
            generalize w5.setRow w.heap.size h.cells = w6 at *
            refine bodyPost_ret (v := .tuple #[h.v, .string (cB 0), .int .i64 0]) ?_ rfl ⟨by rw [HE.out]; rfl, HBR.out⟩
            exact resultsH3 Tryd.results11 _ _ _ _ _ _ (by kernel_rfl) (by kernel_rfl) (by kernel_rfl) HR.out
          · as_aux_lemma =>
            go_wp2_with (first | (with_reducible refine wpList_loadHG G h (by kernel_rfl) (by kernel_rfl) HX5.out ?_) | (with_reducible refine wpList_storeH w.heap.size h Hd.zero (by kernel_rfl) (by kernel_rfl) HZ5.out ?_))
            have HR := Lib.hid (HZ5.out.setRow h)
            have HBR := Lib.hid (below_setRow HB5.out (Nat.le_refl _) h.cells)
            generalize w5.setRow w.heap.size h.cells = w6 at *
            refine bodyPost_ret (v := .tuple #[h.v, .string (cB 1), .int .i64 14]) ?_ rfl ⟨by rw [HE.out]; rfl, HBR.out⟩
            exact resultsH3 Tryd.results11 _ _ _ _ _ _ (by kernel_rfl) (by kernel_rfl) (by kernel_rfl) HR.out
          · as_aux_lemma =>
            go_wp2_with (first | (with_reducible refine wpList_loadHG G h (by kernel_rfl) (by kernel_rfl) HX5.out ?_) | (with_reducible refine wpList_storeH w.heap.size h Hd.zero (by kernel_rfl) (by kernel_rfl) HZ5.out ?_))
            have HR := Lib.hid (HZ5.out.setRow h)
            have HBR := Lib.hid (below_setRow HB5.out (Nat.le_refl _) h.cells)
            generalize w5.setRow w.heap.size h.cells = w6 at *
            refine bodyPost_ret (v := .tuple #[h.v, .string (cB 2), .int .i64 12]) ?_ rfl ⟨by rw [HE.out]; rfl, HBR.out⟩
            exact resultsH3 Tryd.results11 _ _ _ _ _ _ (by kernel_rfl) (by kernel_rfl) (by kernel_rfl) HR.out
          · as_aux_lemma =>
            go_wp2_with (first | (with_reducible refine wpList_loadHG G h (by kernel_rfl) (by kernel_rfl) HX5.out ?_) | (with_reducible refine wpList_storeH w.heap.size h Hd.zero (by kernel_rfl) (by kernel_rfl) HZ5.out ?_))
            have HR := Lib.hid (HZ5.out.setRow h)
            have HBR := Lib.hid (below_setRow HB5.out (Nat.le_refl _) h.cells)
            generalize w5.setRow w.heap.size h.cells = w6 at *
            refine bodyPost_ret (v := .tuple #[h.v, .string (cB 2), .int .i64 13]) ?_ rfl ⟨by rw [HE.out]; rfl, HBR.out⟩
            exact resultsH3 Tryd.results11 _ _ _ _ _ _ (by kernel_rfl) (by kernel_rfl) (by kernel_rfl) HR.out
        · as_aux_lemma =>
          have hkn : k < n := by have := (List.getElem?_eq_some_iff.1 e13).1; have := HL.out; omega
          obtain ⟨b, o, rfl, hb, hc⟩ := HBS2.out.at_ (by omega)
          have hcell := hc k _ e13
          clear hc hb e13 h28
          go_wp2_with (with_reducible refine wpList_loadHG G h (by kernel_rfl) (by kernel_rfl) HX2.out ?_)
          refine (refCheck09 h w2 (by have := HK2.out.1; have := HN.out; omega) (by have := HK2.out.2; have := HN.out; omega)).mono ?_
          rintro e w5 ⟨rfl, hb5⟩
          have HX5 := Lib.hid (HX2.out.below hb5)
          have HZ5 := Lib.hid (HZ2.out.below hb5)
          have HB5 := Lib.hid (HB2.out.trans (hb5.mono HB2.out.size))
          have HCC := Lib.hid (checkD_cases h)
          clear hb5
          obtain ⟨K, hK⟩ : ∃ K, K = checkD h := ⟨_, rfl⟩
          rw [← hK] at HE HCC ⊢
          clear hK
          rcases HCC.out with rfl | rfl | rfl | rfl
          · as_aux_lemma =>
            go_wp2_with (first | (with_reducible refine wpList_loadHG G h (by kernel_rfl) (by kernel_rfl) HX5.out ?_) | (with_reducible refine wpList_storeH w.heap.size h Hd.zero (by kernel_rfl) (by kernel_rfl) HZ5.out ?_))
            have HR := Lib.hid (HZ5.out.setRow h)
            have HBR := Lib.hid (below_setRow HB5.out (Nat.le_refl _) h.cells)
            generalize w5.setRow w.heap.size h.cells = w6 at *
            refine bodyPost_ret (v := .tuple #[h.v, .string (cB 0), .int .i64 0]) ?_ rfl ⟨by rw [HE.out]; rfl, HBR.out⟩
            exact resultsH3 Tryd.results11 _ _ _ _ _ _ (by kernel_rfl) (by kernel_rfl) (by kernel_rfl) HR.out
          · as_aux_lemma =>
            go_wp2_with (first | (with_reducible refine wpList_loadHG G h (by kernel_rfl) (by kernel_rfl) HX5.out ?_) | (with_reducible refine wpList_storeH w.heap.size h Hd.zero (by kernel_rfl) (by kernel_rfl) HZ5.out ?_))
            have HR := Lib.hid (HZ5.out.setRow h)
            have HBR := Lib.hid (below_setRow HB5.out (Nat.le_refl _) h.cells)
            generalize w5.setRow w.heap.size h.cells = w6 at *
            refine bodyPost_ret (v := .tuple #[h.v, .string (cB 1), .int .i64 14]) ?_ rfl ⟨by rw [HE.out]; rfl, HBR.out⟩
            exact resultsH3 Tryd.results11 _ _ _ _ _ _ (by kernel_rfl) (by kernel_rfl) (by kernel_rfl) HR.out
          · as_aux_lemma =>
            go_wp2_with (first | (with_reducible refine wpList_loadHG G h (by kernel_rfl) (by kernel_rfl) HX5.out ?_) | (with_reducible refine wpList_storeH w.heap.size h Hd.zero (by kernel_rfl) (by kernel_rfl) HZ5.out ?_))
            have HR := Lib.hid (HZ5.out.setRow h)
            have HBR := Lib.hid (below_setRow HB5.out (Nat.le_refl _) h.cells)
            generalize w5.setRow w.heap.size h.cells = w6 at *
            refine bodyPost_ret (v := .tuple #[h.v, .string (cB 2), .int .i64 12]) ?_ rfl ⟨by rw [HE.out]; rfl, HBR.out⟩
            exact resultsH3 Tryd.results11 _ _ _ _ _ _ (by kernel_rfl) (by kernel_rfl) (by kernel_rfl) HR.out
          · as_aux_lemma =>
            go_wp2_with (first | (with_reducible refine wpList_loadHG G h (by kernel_rfl) (by kernel_rfl) HX5.out ?_) | (with_reducible refine wpList_storeH w.heap.size h Hd.zero (by kernel_rfl) (by kernel_rfl) HZ5.out ?_))
            have HR := Lib.hid (HZ5.out.setRow h)
            have HBR := Lib.hid (below_setRow HB5.out (Nat.le_refl _) h.cells)
            generalize w5.setRow w.heap.size h.cells = w6 at *
            refine bodyPost_ret (v := .tuple #[h.v, .string (cB 2), .int .i64 13]) ?_ rfl ⟨by rw [HE.out]; rfl, HBR.out⟩
            exact resultsH3 Tryd.results11 _ _ _ _ _ _ (by kernel_rfl) (by kernel_rfl) (by kernel_rfl) HR.out
  · as_aux_lemma =>
    rw [if_neg he] at HVD
    have de2 : (x != 0) = true := by simpa using he
    clear he
    go_wp2_with (with_reducible refine wpList_storeH w.heap.size Hd.zero Hd.zero (by kernel_rfl) (by kernel_rfl) HZ2.out ?_)
    have HR := Lib.hid (HZ2.out.setRow Hd.zero)
    have HBR := Lib.hid (below_setRow HB2.out (Nat.le_refl _) Hd.zero.cells)
    generalize World.setRow (w1.alloc (.cells h.cells TH)) w.heap.size Hd.zero.cells = w5 at *
    refine bodyPost_ret (v := .tuple #[Hd.zero.v, .string ⟨#[]⟩, .int .i64 x]) ?_ rfl ⟨by rw [HVD.out], HBR.out⟩
    exact resultsH3 Tryd.results11 _ _ _ _ _ _ (by kernel_rfl) (by kernel_rfl) (by kernel_rfl) HR.out
theorem RetBB.none_ {w w' : World} {r : List UInt8 × Bool} (h : r = ([], false)) (hb : Below w.heap.size w w') : RetBB w r (.returned (.tuple #[.slice none 0 0, .bool false])) w' := by
  subst h
  exact ⟨none, 0, 0, rfl, Bs.none_ _, hb⟩

set_option maxRecDepth 100000 in
set_option maxHeartbeats 4000000 in
theorem refReply11 (A : Option Addr) (n c : Nat) (l : List UInt8) (kept : Bool) (w : World) (hB : Bs w A n c l) (hn : n ≤ 29000) :
    Calls Tryd.prog 13 #[.slice A n c, .bool kept] w (RetBB w (replyD l kept)) := by
  have HN := Lib.hid hn
  have HL := Lib.hid hB.len
  have HBS := Lib.hid hB
  go_enter Tryd.func13, Tryd.ntmps13
  go_wp2_with (fail)
  refine (refVerdict11 A n c l w hB (by omega)).mono ?_
  rintro e w1 ⟨rfl, hb1⟩
  have HB1 := Lib.hid hb1
  have HBS1 := Lib.hid (HBS.out.below hb1)
  clear hb1 hB hn HBS
  by_cases hcode : (verdictD l).2.1 = ⟨#[]⟩
  · as_aux_lemma =>
    have HR : Hid (replyD l kept = ([], false)) := Lib.hid (if_pos (.inl hcode))
    rw [hcode]
    obtain ⟨g, hg⟩ : ∃ g, g = (verdictD l).1 := ⟨_, rfl⟩
    obtain ⟨K, hK⟩ : ∃ K, K = (verdictD l).2.2 := ⟨_, rfl⟩
    rw [← hg, ← hK]
    clear hg hK hcode
    have HB2 : Hid (Below w.heap.size w (w1.alloc (.cells g.cells TH))) := Lib.hid (HB1.out.alloc HB1.out.size _)
    go_wp2_with (fail)
    go_ret2
    exact RetBB.none_ HR.out HB2.out
  · obtain ⟨g, hr, h28, hvd⟩ := verdict_some hcode
    have HRP : Hid (replyD l kept = if (verdictD l).2.1 = ⟨#[]⟩ ∨ good l = false then ([], false) else (11 :: ((buildD (verdictD l).1 (if (verdictD l).2.1 = cB 0 ∧ kept = false then cB 1 else (verdictD l).2.1)).1 ++ [28, 13]), true)) := Lib.hid rfl
    rw [hvd] at HRP ⊢
    obtain ⟨cne, ccd, csz⟩ := codeOf_ne (checkD g)
    have ce := code_isEmpty (checkD g)
    obtain ⟨K, hK⟩ : ∃ K, K = checkD g := ⟨_, rfl⟩
    rw [← hK] at HRP cne ccd csz ce ⊢
    obtain ⟨cd, hcd⟩ : ∃ cd, cd = codeOf K := ⟨_, rfl⟩
    rw [← hcd] at HRP cne ccd csz ce ⊢
    have HCD := Lib.hid (And.intro ccd csz)
    have HSU : Hid (g.sum ≤ 290000) := Lib.hid (by
      have t := (sum_le_of (read_stands hr).2.2).2.2
      rw [← Hd.sum_eq, HL.out] at t
      have := HN.out
      omega)
    have HAG := Lib.hid (fun (hl : good l = true) (c' : ByteArray) (hc' : codeD c' = true) => answer_good hr h28 hl hc')
    have HX2 : Hid (BoxH g w1.heap.size (w1.alloc (.cells g.cells TH))) := Lib.hid (BoxH.new g w1)
    have HB2 : Hid (Below w.heap.size w (w1.alloc (.cells g.cells TH))) := Lib.hid (HB1.out.alloc HB1.out.size _)
    have HBS2 : Hid (Bs (w1.alloc (.cells g.cells TH)) A n c l) := Lib.hid (HBS1.out.alloc _)
    have HCN := Lib.hid cne
    clear hK hcd ccd csz hr h28 hvd hcode cne
    go_wp2_with (fail)
    obtain ⟨G, hG⟩ : ∃ G, G = w1.heap.size := ⟨_, rfl⟩
    rw [← hG] at HX2 ⊢
    clear hG HB1 HBS1
    generalize w1.alloc (.cells #[u8 g.d.a, u8 g.d.b, u8 g.d.c, u8 g.d.d, u8 g.d.e, .string g.a0, .string g.a1, .string g.a2, .string g.a3, .string g.a4, .string g.a5, .string g.a6, .string g.a7, .string g.a8, .string g.a9] TH) = w2 at *
    refine (refGood A n c l w2 HBS2.out (good l) rfl).mono ?_
    rintro e w3 ⟨rfl, rfl⟩
    have HX3 := Lib.hid HX2.out
    have HB3 := Lib.hid HB2.out
    clear HX2 HB2 HBS2 ce
    cases hgl : good l
    · as_aux_lemma =>
      have HR : Hid (replyD l kept = ([], false)) := Lib.hid (by rw [HRP.out, if_pos (.inr hgl)])
      clear hgl
      go_wp2_with (fail)
      go_ret2
      exact RetBB.none_ HR.out HB3.out
    · have HA2 := Lib.hid (HAG.out hgl)
      have HR : Hid (replyD l kept = (11 :: ((buildD g (if cd = cB 0 ∧ kept = false then cB 1 else cd)).1 ++ [28, 13]), true)) := Lib.hid (by
        rw [HRP.out, if_neg]
        rintro (h | h)
        · exact HCN.out h
        · rw [hgl] at h; cases h)
      clear HAG HRP hgl
      have hd := code_eq0 cd
      cases hdd : decide (cd = cB 0)
      · as_aux_lemma =>
        rw [hdd] at hd
        have hnc : cd ≠ cB 0 := of_decide_eq_false hdd
        have HNC := Lib.hid hnc
        clear hdd hnc
        have HR2 : Hid (replyD l kept = (11 :: ((buildD g cd).1 ++ [28, 13]), true)) := Lib.hid (by rw [HR.out, if_neg (fun h => HNC.out h.1)])
        obtain ⟨hbu, hgd⟩ := HA2.out cd HCD.out.1
        have HGD := Lib.hid hgd
        have HBU2 : Hid ((buildD g cd).2 = 0) := Lib.hid (by rw [hbu])
        have HBL := Lib.hid (buildD_len g cd)
        clear hbu hgd
        go_wp2_with (with_reducible refine wpList_loadHG G g (by kernel_rfl) (by kernel_rfl) HX3.out ?_)
        refine (refBuild10 g cd w2 (by have := HSU.out; omega) (by rw [HCD.out.2]; decide)).mono ?_
        rintro e w4 ⟨rfl, hb4⟩
        have HB4 := Lib.hid (HB3.out.trans (hb4.mono HB3.out.size))
        clear hb4 HX3 HB3
        rw [HBU2.out]
        obtain ⟨X, hX⟩ : ∃ X, X = (buildD g cd).1 := ⟨_, rfl⟩
        rw [← hX] at HR2 HGD HBL ⊢
        clear hX
        obtain ⟨N, hN⟩ : ∃ N, N = X.length := ⟨_, rfl⟩
        have HNN : Hid (N ≤ 1000000) := Lib.hid (by rw [hN]; have := HBL.out; have := HSU.out; have h2 := HCD.out.2; have h3 : (cB 1).size = 2 := rfl; omega)
        obtain ⟨cap5, w5, hrun5, hC5, hb5⟩ := conv_list (P := Tryd.prog) w4 9 22 5 X N Tryd.underlying9 Tryd.underlying22 Tryd.underlying5 hN.symm (Nat.le_trans HNN.out (by decide))
        have HB5 := Lib.hid (HB4.out.trans (hb5.mono HB4.out.size))
        have HC5 := Lib.hid hC5
        clear hN HBL hb5 hC5
        go_wp2_with (fail)
        refine (refWrap (some ⟨w4.heap.size, 0, none⟩) N cap5 X w5 HC5.out.bs (by have := HNN.out; omega)).mono ?_
        rintro e w6 ⟨A6, c6, rfl, hB6, hb6⟩
        rw [show ((11 : UInt8) :: (X ++ [28, 13])).length = X.length + 2 + 1 from by simp] at hB6 ⊢
        obtain ⟨N5, hN5⟩ : ∃ N5, N5 = X.length + 2 + 1 := ⟨_, rfl⟩
        rw [← hN5] at hB6 ⊢
        clear hN5
        have HB6 := Lib.hid (HB5.out.trans (hb6.mono HB5.out.size))
        have HX6 := Lib.hid hB6
        clear hb6 hB6 hrun5
        go_wp2_with (fail)
        go_ret2
        exact ⟨A6, N5, c6, by rw [HR2.out]; rfl, by rw [HR2.out]; exact HX6.out, HB6.out⟩
      · have HYC := Lib.hid (of_decide_eq_true hdd)
        rw [hdd] at hd
        clear hdd
        cases kept
        · as_aux_lemma =>
          have HR2 : Hid (replyD l false = (11 :: ((buildD g (cB 1)).1 ++ [28, 13]), true)) := Lib.hid (by rw [HR.out, if_pos ⟨HYC.out, by trivial⟩])
          obtain ⟨hbu, hgd⟩ := HA2.out (cB 1) (by decide +kernel)
          have HGD := Lib.hid hgd
          have HBU2 : Hid ((buildD g (cB 1)).2 = 0) := Lib.hid (by rw [hbu])
          have HBL := Lib.hid (buildD_len g (cB 1))
          clear hbu hgd
          go_wp2_with (with_reducible refine wpList_loadHG G g (by kernel_rfl) (by kernel_rfl) HX3.out ?_)
          refine (refBuild10 g (cB 1) w2 (by have := HSU.out; omega) (by decide)).mono ?_
          rintro e w4 ⟨rfl, hb4⟩
          have HB4 := Lib.hid (HB3.out.trans (hb4.mono HB3.out.size))
          clear hb4 HX3 HB3
          rw [HBU2.out]
          obtain ⟨X, hX⟩ : ∃ X, X = (buildD g (cB 1)).1 := ⟨_, rfl⟩
          rw [← hX] at HR2 HGD HBL ⊢
          clear hX
          obtain ⟨N, hN⟩ : ∃ N, N = X.length := ⟨_, rfl⟩
          have HNN : Hid (N ≤ 1000000) := Lib.hid (by rw [hN]; have := HBL.out; have := HSU.out; have h2 := HCD.out.2; have h3 : (cB 1).size = 2 := rfl; omega)
          obtain ⟨cap5, w5, hrun5, hC5, hb5⟩ := conv_list (P := Tryd.prog) w4 9 22 5 X N Tryd.underlying9 Tryd.underlying22 Tryd.underlying5 hN.symm (Nat.le_trans HNN.out (by decide))
          have HB5 := Lib.hid (HB4.out.trans (hb5.mono HB4.out.size))
          have HC5 := Lib.hid hC5
          clear hN HBL hb5 hC5
          go_wp2_with (fail)
          refine (refWrap (some ⟨w4.heap.size, 0, none⟩) N cap5 X w5 HC5.out.bs (by have := HNN.out; omega)).mono ?_
          rintro e w6 ⟨A6, c6, rfl, hB6, hb6⟩
          rw [show ((11 : UInt8) :: (X ++ [28, 13])).length = X.length + 2 + 1 from by simp] at hB6 ⊢
          obtain ⟨N5, hN5⟩ : ∃ N5, N5 = X.length + 2 + 1 := ⟨_, rfl⟩
          rw [← hN5] at hB6 ⊢
          clear hN5
          have HB6 := Lib.hid (HB5.out.trans (hb6.mono HB5.out.size))
          have HX6 := Lib.hid hB6
          clear hb6 hB6 hrun5
          go_wp2_with (fail)
          go_ret2
          exact ⟨A6, N5, c6, by rw [HR2.out]; rfl, by rw [HR2.out]; exact HX6.out, HB6.out⟩
        · as_aux_lemma =>
          have HR2 : Hid (replyD l true = (11 :: ((buildD g cd).1 ++ [28, 13]), true)) := Lib.hid (by rw [HR.out, if_neg (fun h => by simp at h)])
          obtain ⟨hbu, hgd⟩ := HA2.out cd HCD.out.1
          have HGD := Lib.hid hgd
          have HBU2 : Hid ((buildD g cd).2 = 0) := Lib.hid (by rw [hbu])
          have HBL := Lib.hid (buildD_len g cd)
          clear hbu hgd
          go_wp2_with (with_reducible refine wpList_loadHG G g (by kernel_rfl) (by kernel_rfl) HX3.out ?_)
          refine (refBuild10 g cd w2 (by have := HSU.out; omega) (by rw [HCD.out.2]; decide)).mono ?_
          rintro e w4 ⟨rfl, hb4⟩
          have HB4 := Lib.hid (HB3.out.trans (hb4.mono HB3.out.size))
          clear hb4 HX3 HB3
          rw [HBU2.out]
          obtain ⟨X, hX⟩ : ∃ X, X = (buildD g cd).1 := ⟨_, rfl⟩
          rw [← hX] at HR2 HGD HBL ⊢
          clear hX
          obtain ⟨N, hN⟩ : ∃ N, N = X.length := ⟨_, rfl⟩
          have HNN : Hid (N ≤ 1000000) := Lib.hid (by rw [hN]; have := HBL.out; have := HSU.out; have h2 := HCD.out.2; have h3 : (cB 1).size = 2 := rfl; omega)
          obtain ⟨cap5, w5, hrun5, hC5, hb5⟩ := conv_list (P := Tryd.prog) w4 9 22 5 X N Tryd.underlying9 Tryd.underlying22 Tryd.underlying5 hN.symm (Nat.le_trans HNN.out (by decide))
          have HB5 := Lib.hid (HB4.out.trans (hb5.mono HB4.out.size))
          have HC5 := Lib.hid hC5
          clear hN HBL hb5 hC5
          go_wp2_with (fail)
          refine (refWrap (some ⟨w4.heap.size, 0, none⟩) N cap5 X w5 HC5.out.bs (by have := HNN.out; omega)).mono ?_
          rintro e w6 ⟨A6, c6, rfl, hB6, hb6⟩
          rw [show ((11 : UInt8) :: (X ++ [28, 13])).length = X.length + 2 + 1 from by simp] at hB6 ⊢
          obtain ⟨N5, hN5⟩ : ∃ N5, N5 = X.length + 2 + 1 := ⟨_, rfl⟩
          rw [← hN5] at hB6 ⊢
          clear hN5
          have HB6 := Lib.hid (HB5.out.trans (hb6.mono HB5.out.size))
          have HX6 := Lib.hid hB6
          clear hb6 hB6 hrun5
          go_wp2_with (fail)
          go_ret2
          exact ⟨A6, N5, c6, by rw [HR2.out]; rfl, by rw [HR2.out]; exact HX6.out, HB6.out⟩
end Go.Proofs.YtgffamdlnacamaaDoor

/- AcceptVerdicts, walked. -/
namespace Go.Proofs.YtgffamdlnacamaaDoor
open Go.RowKit

set_option maxHeartbeats 8000000 in
set_option maxRecDepth 100000 in
theorem acceptVerdicts_walk (A : Option Addr) (n c : Nat) (l : List UInt8) (kept : Bool) (w : World) (hv : Vers w ∧ Signs w ∧ Cds w) (hB : Bs w A n c l) (_hcp : c ≤ 140737488351232) :
    Calls Tryd.prog 3 #[.slice A n c, .bool kept] w (True_ w) := by
  have HV := Lib.hid (fun W (hb : Below w.heap.size w W) => hv.1.below hb)
  have HS := Lib.hid (fun W (hb : Below w.heap.size w W) => hv.2.1.below hb)
  have HC := Lib.hid (fun W (hb : Below w.heap.size w W) => hv.2.2.below hb)
  have HBS := Lib.hid hB
  have HB0 : Hid (Below w.heap.size w w) := Lib.hid (Below.refl _ _)
  clear hv hB
  go_enter Tryd.func3, Tryd.ntmps3
  by_cases hbig : 3000 < n
  · as_aux_lemma =>
    have d1 : decide ((3000 : Int) < (n : Int)) = true := by simp; omega
    go_wp2_with (fail)
    refine (alive11 w (HV.out _ HB0.out) (HS.out _ HB0.out) (HC.out _ HB0.out)).mono ?_
    rintro e w2 ⟨rfl, hbA⟩
    have HBA := Lib.hid (HB0.out.trans (hbA.mono HB0.out.size))
    clear hbA
    go_wp2_with (fail)
    go_ret
    exact ⟨rfl, HBA.out⟩
  have d1 : decide ((3000 : Int) < (n : Int)) = false := by simp; omega
  have HN : Hid (n ≤ 3000) := Lib.hid (by omega)
  clear hbig
  go_wp2_with (fail)
  clear d1
  refine (verdict_ A n c l w (HV.out _ HB0.out) HBS.out (by have := HN.out; omega)).mono ?_
  rintro e w1 ⟨rfl, hb1⟩
  have HST : Hid (∀ W, Vers W → Bs W A n c l → Calls Tryd.prog 14 #[.slice A n c] W fun e w' => e = .returned (.bool (decide ((verdictD l).2.1 = cB 0))) ∧ Below W.heap.size W w') := Lib.hid (fun W h1 h2 => stored_ A n c l W h1 h2 (by have := HN.out; omega))
  have HRV : Hid (∀ W, Bs W A n c l → Calls Tryd.prog 11 #[.slice A n c] W fun e w' => e = .returned (.tuple #[(verdictD l).1.v, .string (verdictD l).2.1, .int .i64 (verdictD l).2.2]) ∧ Below W.heap.size W w') := Lib.hid (fun W h => refVerdict11 A n c l W h (by have := HN.out; omega))
  obtain ⟨h, hh⟩ : ∃ h, h = (verdictD l).1 := ⟨_, rfl⟩
  obtain ⟨cd, hcd⟩ : ∃ cd, cd = (verdictD l).2.1 := ⟨_, rfl⟩
  obtain ⟨K, hK⟩ : ∃ K, K = (verdictD l).2.2 := ⟨_, rfl⟩
  rw [← hh, ← hcd, ← hK] at HRV ⊢
  rw [← hcd] at HST
  clear hh hcd hK
  have HX2 : Hid (BoxH h w1.heap.size (w1.alloc (.cells h.cells TH))) := Lib.hid (BoxH.new h w1)
  have HB2 : Hid (Below w.heap.size w (w1.alloc (.cells h.cells TH))) := Lib.hid (hb1.alloc hb1.size _)
  have HBS2 : Hid (Bs (w1.alloc (.cells h.cells TH)) A n c l) := Lib.hid ((HBS.out.below hb1).alloc _)
  clear hb1
  go_wp2_with (fail)
  obtain ⟨G, hG⟩ : ∃ G, G = w1.heap.size := ⟨_, rfl⟩
  rw [← hG] at HX2 ⊢
  clear hG
  generalize hw2 : w1.alloc (.cells h.cells TH) = w2 at HX2 HB2 HBS2
  clear hw2
  refine (HRV.out w2 HBS2.out).mono ?_
  rintro e w3 ⟨rfl, hb3⟩
  have HX4 : Hid (BoxH h w3.heap.size (w3.alloc (.cells h.cells TH))) := Lib.hid (BoxH.new h w3)
  have hb4 : Below w2.heap.size w2 (w3.alloc (.cells h.cells TH)) := hb3.alloc hb3.size _
  have HX5 := Lib.hid (HX2.out.below hb4)
  have HB4 := Lib.hid (HB2.out.trans (hb4.mono HB2.out.size))
  have HBS4 := Lib.hid (HBS2.out.below hb4)
  clear hb3 hb4 HX2 HB2 HBS2 HRV
  go_wp2_with (fail)
  obtain ⟨G2, hG2⟩ : ∃ G2, G2 = w3.heap.size := ⟨_, rfl⟩
  rw [← hG2] at HX4 ⊢
  clear hG2
  generalize hw4 : w3.alloc (.cells h.cells TH) = w4 at HX4 HX5 HB4 HBS4
  clear hw4
  refine (reply_ A n c l kept w4 (HV.out _ HB4.out) (HS.out _ HB4.out) (HC.out _ HB4.out) HBS4.out (by have := HN.out; omega)).mono ?_
  rintro e w5 ⟨A5, m5, c5, rfl, hB5, hb5⟩
  have HRR : Hid (∀ W, Bs W A n c l → Calls Tryd.prog 13 #[.slice A n c, .bool kept] W (RetBB W (replyD l kept))) := Lib.hid (fun W h => refReply11 A n c l kept W h (by have := HN.out; omega))
  obtain ⟨R, hR⟩ : ∃ R, R = replyD l kept := ⟨_, rfl⟩
  rw [← hR] at HRR hB5 ⊢
  clear hR
  have HY5 := Lib.hid hB5
  have HX6 := Lib.hid (HX5.out.below hb5)
  have HX7 := Lib.hid (HX4.out.below hb5)
  have HB5 := Lib.hid (HB4.out.trans (hb5.mono HB4.out.size))
  have HBS5 := Lib.hid (HBS4.out.below hb5)
  clear hb5 hB5 HX5 HX4 HB4 HBS4
  obtain ⟨R1, R2⟩ := R
  dsimp only at *
  go_wp2_with (fail)
  refine (HRR.out w5 HBS5.out).mono ?_
  rintro e w6 ⟨A6, m6, c6, rfl, hB6, hb6⟩
  have HY6 := Lib.hid hB6
  have HZ5 := Lib.hid (HY5.out.below hb6)
  have HX8 := Lib.hid (HX6.out.below hb6)
  have HX9 := Lib.hid (HX7.out.below hb6)
  have HB6 := Lib.hid (HB5.out.trans (hb6.mono HB5.out.size))
  have HBS6 := Lib.hid (HBS5.out.below hb6)
  clear hb6 hB6 HX6 HX7 HB5 HBS5 HRR HY5
  dsimp only at *
  go_wp2_with (fail)
  refine (alive11 w6 (HV.out _ HB6.out) (HS.out _ HB6.out) (HC.out _ HB6.out)).mono ?_
  rintro e w7 ⟨rfl, hb7⟩
  have HY7 := Lib.hid (HY6.out.below hb7)
  have HZ7 := Lib.hid (HZ5.out.below hb7)
  have HXA := Lib.hid (HX8.out.below hb7)
  have HXB := Lib.hid (HX9.out.below hb7)
  have HB7 := Lib.hid (HB6.out.trans (hb7.mono HB6.out.size))
  have HBS7 := Lib.hid (HBS6.out.below hb7)
  clear hb7 HX8 HX9 HB6 HBS6 HY6 HZ5
  have q1 : (cd.toList == cd.toList) = true := by simp
  have q2 : (K == K) = true := by simp
  have hcv1 := HZ7.out.str (P := Tryd.prog) 22 5 9 Tryd.underlying22 Tryd.underlying5 Tryd.underlying9
  have hcv2 := HY7.out.str (P := Tryd.prog) 22 5 9 Tryd.underlying22 Tryd.underlying5 Tryd.underlying9
  have q3 : ((txt R1).toList == (txt R1).toList) = true := by simp
  have q4 : (R2 == R2) = true := by simp
  go_wp2_with (first | (with_reducible refine wpList_loadHG (dst := some 45) G h (by kernel_rfl) (by kernel_rfl) HXA.out ?_) | (with_reducible refine wpList_loadHG (dst := some 46) G2 h (by kernel_rfl) (by kernel_rfl) HXB.out ?_) | (with_reducible refine wpList_eqH h (by kernel_rfl) (by kernel_rfl) (by kernel_rfl) ?_))
  refine (HST.out w7 (HV.out _ HB7.out) HBS7.out).mono ?_
  rintro e w8 ⟨rfl, hb8⟩
  have HB8 := Lib.hid (HB7.out.trans (hb8.mono HB7.out.size))
  clear hb8
  have q5 : (cd.toList == [65, 65]) = decide (cd = cB 0) := code_eq0 cd
  have q6 : (decide (cd = cB 0) == decide (cd = cB 0)) = true := by simp
  go_wp2_with (fail)
  go_ret
  exact ⟨rfl, HB8.out⟩
end Go.Proofs.YtgffamdlnacamaaDoor
