/- strings.Builder: what its methods do to a builder of the call's own. -/
import Derived.Test.YtnoppnnpennddaaDoorRowsG0
import Derived.Lib.Builder
import Derived.Lib.AppendStr
import Derived.Lib.UnsafeStr
import Derived.Laws.Externs
namespace Go.Proofs.YtnoppnnpennddaaDoor
open Go.RowKit

abbrev TB : TypeId := 71
/-- block b is a builder, of the call's own from block B on, that holds the bytes l -/
abbrev Bu (B b : Nat) (l : List UInt8) (w : World) : Prop := Lib.IsBuilder TB 5 B b (Lib.byteCells l) w
abbrev BuAt (B b : Nat) (l : List UInt8) (w : World) : Prop := Lib.BuilderAt TB 5 B b (.pointer (some ⟨b, 0, none⟩)) (Lib.byteCells l) w
theorem buSize : (Tryd.prog.info? TB).map (·.size) = some 2 := by kernel_rfl
theorem buLies : liesAt Tryd.prog Tryd.prog.depth TB (2 / Tryd.prog.cellsOf TB) 0 TB 1 = true := by kernel_rfl
theorem buNe : (5 : TypeId) ≠ TB := by decide
theorem Bu.below {B b : Nat} {l : List UInt8} {w w' : World} (h : Bu B b l w) (hb : Below w.heap.size w w') : Bu B b l w' := by
  rcases h with ⟨h1, v, h2, h3, h4⟩ | ⟨h1, v, h2, h3, h4⟩
  · exact .inl ⟨h1, v, (hb.block b (Array.getElem?_eq_some_iff.1 h2).1).trans h2, own_below h3 hb, h4⟩
  · exact .inr ⟨h1, v, (hb.block b (Array.getElem?_eq_some_iff.1 h2).1).trans h2, own_below h3 hb, h4⟩
/-- 'var b strings.Builder' -/
theorem Bu.new {B : Nat} {w : World} (hB : B ≤ w.heap.size) : Bu B w.heap.size [] (w.alloc (.cells #[.pointer none, .slice none 0 0] TB)) :=
  .inl ⟨hB, _, heap_alloc_new w _, World.ownsRow_nil _ B 5 1, by simp [Value.ownBlock]⟩
theorem Bu.base {B b : Nat} {l : List UInt8} {w : World} (h : Bu B b l w) : B ≤ b := by
  rcases h with h | h <;> exact h.1

set_option maxHeartbeats 1000000 in
set_option maxRecDepth 100000 in
theorem buCheck (B b : Nat) (l : List UInt8) (w : World) (h : Bu B b l w) :
    Calls Tryd.prog 47 #[.pointer (some ⟨b, 0, none⟩)] w fun e w' => e = .returned (.tuple #[]) ∧ BuAt B b l w' ∧ Below B w w' ∧ w'.heap.size = w.heap.size := by
  obtain ⟨j, hj, hjs⟩ := Option.map_eq_some_iff.1 buSize
  rcases h with h | h
  · have c0 := h.cell0
    have hsh := h.shape
    have hfz := h.frozen0
    have H := Lib.hid h
    clear h
    go_enter Tryd.func47, Tryd.ntmps47
    go_wp2
    rw [Lib.run_to_unsafe w ⟨b, 0, none⟩ Tryd.underlying69 Tryd.underlying95 hj (by rw [hjs]; decide) hsh (Nat.zero_lt_succ 1)]
    simp only [Result.andThen]
    rw [Oper.upon_value]
    go_wp2
    rw [run_callFunc_extern Tryd.func56 (by kernel_rfl) (by kernel_rfl) (by kernel_rfl) (e := Extern.AbiNoEscape.same) (by kernel_rfl)]
    rw [Lib.run_noEscape]
    simp only [Result.andThen]
    rw [Oper.upon_value]
    go_wp2
    rw [Lib.run_from_unsafe w ⟨b, 0, none⟩ Tryd.underlying95 Tryd.underlying69 hj hsh buLies]
    simp only [Result.andThen]
    rw [Oper.upon_value]
    go_wp2
    go_end0
    exact ⟨rfl, H.out.used _, (Below.refl B w).setCell (p := ⟨b, 0, none⟩) H.out.1 _, by simp [World.setCell]⟩
  · have c0 := h.cell0
    have H := Lib.hid h
    clear h
    go_enter Tryd.func47, Tryd.ntmps47
    go_wp2
    rw [Lib.run_neq_ptr_same w _ Tryd.underlying69 hj]
    go_wp2
    go_end0
    exact ⟨rfl, H.out, Below.refl B _, rfl⟩
theorem BuAt.rows {B b : Nat} {l : List UInt8} {w : World} (h : BuAt B b l w) : ∃ v, w.heap[b]? = some (.cells #[.pointer (some ⟨b, 0, none⟩), v] TB) ∧ Own 5 w B v l ∧ v.ownBlock ≠ some b := by
  obtain ⟨hB, v, h2, h3, h4⟩ := h
  exact ⟨v, h2, by unfold Own; have := h3; rw [Lib.byteCells_length] at this; exact this, h4⟩
/-- the buffer anew -/
theorem BuAt.wrote {B b : Nat} {l2 : List UInt8} {w1 w2 : World} {v v2 : Value} (hB : B ≤ b) (hb : w1.heap[b]? = some (.cells #[.pointer (some ⟨b, 0, none⟩), v] TB)) (hgr : w1.grownBy w2 v.ownBlock) (hne : v.ownBlock ≠ some b) (hown : Own 5 w2 B v2 l2) (hlow : ∀ k, v.ownBlock = some k → B ≤ k) (hBw : B ≤ w1.heap.size) :
    w2.cell? ⟨b, 1, none⟩ = some v ∧ w2.frozen? ⟨b, 1, none⟩ = false ∧ Hid (Bu B b l2 (w2.setCell ⟨b, 1, none⟩ v2) ∧ Below B w1 (w2.setCell ⟨b, 1, none⟩ v2)) := by
  have hlt := (Array.getElem?_eq_some_iff.1 hb).1
  have hb2 : w2.heap[b]? = some (.cells #[.pointer (some ⟨b, 0, none⟩), v] TB) := by rw [hgr.block b hlt (fun e => hne e.symm)]; exact hb
  have hch : Ch (fun k => v.ownBlock = some k) w1 w2 := Ch.of_grown hgr (fun k hk => hk)
  refine ⟨by rw [cell_of_row w2 b 1 _ _ _ hb2]; rfl, by simp [World.frozen?, hb2], Lib.hid ⟨.inr ⟨hB, v2, heap_setCell_same w2 b 1 _ _ v2 hb2, ?_, ?_⟩, (hch.below hlow hBw).setCell (p := ⟨b, 1, none⟩) hB _⟩⟩
  · have h5 : Own 5 (w2.setCell ⟨b, 1, none⟩ v2) B v2 l2 := hown.ch ((Ch.refl (fun k => k = b) w2).set (a := ⟨b, 1, none⟩) rfl v2) (fun k hk hkb => by
      rw [hkb] at hk
      exact own_ne (show w2.ownsRow B 5 1 v2 l2.length (u8s l2) from hown) hb2 (by decide) hk.symm)
    unfold Own at h5
    rw [Lib.byteCells_length]
    exact h5
  · exact fun e => own_ne (show w2.ownsRow B 5 1 v2 l2.length (u8s l2) from hown) hb2 (by decide) e.symm

set_option maxHeartbeats 2000000 in
set_option maxRecDepth 100000 in
theorem buByte (B b : Nat) (l : List UInt8) (c : UInt8) (w : World) (h : Bu B b l w) (hlen : l.length ≤ 1099511627000) (hBw : B ≤ w.heap.size) :
    Calls Tryd.prog 33 #[.pointer (some ⟨b, 0, none⟩), .int .u8 (c.toNat : Int)] w fun e w' => e = .returned .nilIface ∧ Bu B b (l ++ [c]) w' ∧ Below B w w' := by
  have H := Lib.hid h
  have hBb := h.base
  clear h
  go_enter Tryd.func33, Tryd.ntmps33
  go_wp2_with (fail)
  refine (buCheck B b l w H.out).mono ?_
  rintro e w1 ⟨rfl, h1, hb1, hz1⟩
  have HZ1 : Hid (B ≤ w1.heap.size) := Lib.hid (by omega)
  clear hz1
  obtain ⟨v, hr, hown, hne⟩ := h1.rows
  have c1 := cell_of_row w1 b 1 _ _ _ hr
  simp only [List.getElem?_toArray, List.getElem?_cons_zero, List.getElem?_cons_succ] at c1
  have hblt := (Array.getElem?_eq_some_iff.1 hr).1
  have HBA := Lib.hid ((Below.refl w1.heap.size w1).alloc (Nat.le_refl _) (.cells #[u8 c] 5))
  have HR := Lib.hid ((HBA.out.block b hblt).trans hr)
  have HNE := Lib.hid hne
  have HO := Lib.hid (hown.below HBA.out)
  have HNW := Lib.hid (newRow w1 c)
  have HON := Lib.hid (oneRow c)
  have HB1 := Lib.hid hb1
  have HBZ : Hid (B ≤ (w1.alloc (.cells #[u8 c] 5)).heap.size) := Lib.hid (Nat.le_trans HZ1.out HBA.out.size)
  obtain ⟨Av, cv, hv⟩ := own_form (show w1.ownsRow B 5 1 v l.length (u8s l) from hown)
  subst hv
  have tok1 : Hid True := Lib.hid trivial
  clear h1 hr hown hne hb1
  go_wp2_with (at_builtin; have _t := tok1; go_loud ((refine wpList_appAt rfl (.tmp 11) (.tmp 13) 22 rfl B 5 (.int .u8 0) 1 Tryd.underlying22 byteInfo rfl (by decide) (.slice Av l.length cv) l.length (u8s l) rfl HO.out ⟨w1.heap.size, 0, none⟩ 1 1 [.int .u8 (c.toNat : Int)] rfl rfl HNW.out HON.out (by omega) HBZ.out ?_; intro v2 w2 hown2 hgr2 hfr2; have HO2 : Hid (Own 5 w2 B v2 (l ++ [c])) := Lib.hid (by unfold Own; rw [List.length_append]; simpa using hown2); obtain ⟨z1, z2, HW⟩ := BuAt.wrote hBb HR.out hgr2 HNE.out HO2.out (fun k hk => (World.ownsRow.lt HO.out k hk).1) HBZ.out; obtain ⟨A2, c2, rfl⟩ := own_form hown2; clear tok1 hown2 hgr2 hfr2 _t)))
  go_ret
  exact ⟨rfl, HW.out.1, HB1.out.trans ((HBA.out.mono HZ1.out).trans HW.out.2)⟩

set_option maxHeartbeats 2000000 in
set_option maxRecDepth 100000 in
theorem buString_ (B b : Nat) (l s : List UInt8) (w : World) (h : Bu B b l w) (hlen : l.length + s.length ≤ 1099511627000) (hBw : B ≤ w.heap.size) :
    Calls Tryd.prog 37 #[.pointer (some ⟨b, 0, none⟩), .string (txt s)] w fun e w' => e = .returned (.tuple #[.int .i64 (s.length : Int), .nilIface]) ∧ Bu B b (l ++ s) w' ∧ Below B w w' := by
  have H := Lib.hid h
  have hBb := h.base
  clear h
  obtain ⟨i0, hi, hz0, hz1, hz2⟩ := info_parts (byteInfo : (Tryd.prog.info? 5).map (fun i => (i.zero, i.size, i.bytes)) = some (some (.int .u8 0), 1, 1))
  have HSZ : Hid ((txt s).size = s.length) := Lib.hid (by simp [ByteArray.size])
  have HSC : Hid (Lib.strCells (txt s) = u8s s) := Lib.hid (by simp [Lib.strCells, u8s])
  go_enter Tryd.func37, Tryd.ntmps37
  go_wp2_with (fail)
  refine (buCheck B b l w H.out).mono ?_
  rintro e w1 ⟨rfl, h1, hb1, hz1'⟩
  have HBZ : Hid (B ≤ w1.heap.size) := Lib.hid (by omega)
  clear hz1'
  obtain ⟨v, hr, hown, hne⟩ := h1.rows
  have c1 := cell_of_row w1 b 1 _ _ _ hr
  simp only [List.getElem?_toArray, List.getElem?_cons_zero, List.getElem?_cons_succ] at c1
  have HR := Lib.hid hr
  have HNE := Lib.hid hne
  have HO := Lib.hid hown
  have HB1 := Lib.hid hb1
  obtain ⟨Av, cv, hv⟩ := own_form (show w1.ownsRow B 5 1 v l.length (u8s l) from hown)
  subst hv
  have tok1 : Hid True := Lib.hid trivial
  clear h1 hr hown hne hb1
  go_wp2_with (at_builtin; have _t := tok1; go_loud ((refine Lib.wpList_append_own_string _ rfl (.tmp 12) (.tmp 13) 22 9 rfl B 5 i0 Tryd.underlying22 Tryd.underlying9 hi hz0 hz1 hz2 (.slice Av l.length cv) l.length (u8s l) rfl HO.out (txt s) rfl (by rw [HSZ.out]; unfold maxLen; omega) (by rw [HSZ.out]; omega) HBZ.out ?_; intro v2 w2 hown2 hgr2 hfr2; have HO2 : Hid (Own 5 w2 B v2 (l ++ s)) := Lib.hid (by unfold Own; rw [List.length_append]; rw [HSZ.out, HSC.out] at hown2; simpa using hown2); obtain ⟨z1, z2, HW⟩ := BuAt.wrote hBb HR.out hgr2 HNE.out HO2.out (fun k hk => (World.ownsRow.lt HO.out k hk).1) HBZ.out; obtain ⟨A2, c2, rfl⟩ := own_form hown2; clear tok1 hown2 hgr2 hfr2 _t)))
  go_ret2
  exact ⟨by rw [← HSZ.out]; rfl, HW.out.1, HB1.out.trans HW.out.2⟩
end Go.Proofs.YtnoppnnpennddaaDoor
