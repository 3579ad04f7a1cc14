/- strings.Builder: a write leaves other rows as they are. -/
import Derived.Test.YtnoppnnpennddaaDoorTr3
namespace Go.Proofs.YtnoppnnpennddaaDoor
open Go.RowKit

/-- a row that is none of bytes, and not the builder, stays -/
def KeepsT (b : Nat) (w w' : World) : Prop := ∀ g cs t fr, w.heap[g]? = some (.cells cs t fr) → t ≠ 5 → g ≠ b → w'.heap[g]? = some (.cells cs t fr)
theorem KeepsT.trans {b : Nat} {w w1 w2 : World} (h : KeepsT b w w1) (h2 : KeepsT b w1 w2) : KeepsT b w w2 := fun g cs t fr hg ht hn => h2 g cs t fr (h g cs t fr hg ht hn) ht hn
theorem KeepsT.wrote {B b : Nat} {l : List UInt8} {w1 w2 : World} {v A : Value} (ho : Own 5 w1 B v l) (hgr : w1.grownBy w2 v.ownBlock) : KeepsT b w1 (w2.setCell ⟨b, 1, none⟩ A) := fun g cs t fr hg ht hn => by
  have hlt := (Array.getElem?_eq_some_iff.1 hg).1
  have hne := own_ne (show w1.ownsRow B 5 1 v l.length (u8s l) from ho) hg ht
  exact (heap_set_other hn _).trans ((hgr.block g hlt hne).trans hg)

set_option maxRecDepth 100000 in
theorem buCheckX (B b : Nat) (l : List UInt8) (w : World) (h : Bu B b l w) :
    Calls Tryd.prog 47 #[.pointer (some ⟨b, 0, none⟩)] w fun e w' => e = .returned (.tuple #[]) ∧ BuAt B b l w' ∧ Below B w w' ∧ w'.heap.size = w.heap.size ∧ KeepsT b w w' := by
  obtain ⟨j, hj, hjs⟩ := Option.map_eq_some_iff.1 buSize
  rcases h with h | h
  · have c0 := h.cell0
    have hsh := h.shape
    have hfz := h.frozen0
    have H := Lib.hid h
    clear h
    go_enter Tryd.func47, Tryd.ntmps47
    go_wp2
    rw [Lib.run_to_unsafe w ⟨b, 0, none⟩ Tryd.underlying69 Tryd.underlying95 hj (by rw [hjs]; decide) hsh (Nat.zero_lt_succ 1)]
    simp only [Result.andThen]
    rw [Oper.upon_value]
    go_wp2
    rw [run_callFunc_extern Tryd.func56 (by kernel_rfl) (by kernel_rfl) (by kernel_rfl) (e := Extern.AbiNoEscape.same) (by kernel_rfl)]
    rw [Lib.run_noEscape]
    simp only [Result.andThen]
    rw [Oper.upon_value]
    go_wp2
    rw [Lib.run_from_unsafe w ⟨b, 0, none⟩ Tryd.underlying95 Tryd.underlying69 hj hsh buLies]
    simp only [Result.andThen]
    rw [Oper.upon_value]
    go_wp2
    go_end0
    exact ⟨rfl, H.out.used _, (Below.refl B w).setCell (p := ⟨b, 0, none⟩) H.out.1 _, by simp [World.setCell], fun g cs t fr hg _ hn => (heap_set_other hn _).trans hg⟩
  · have c0 := h.cell0
    have H := Lib.hid h
    clear h
    go_enter Tryd.func47, Tryd.ntmps47
    go_wp2
    rw [Lib.run_neq_ptr_same w _ Tryd.underlying69 hj]
    go_wp2
    go_end0
    exact ⟨rfl, H.out, Below.refl B _, rfl, fun g cs t fr hg _ _ => hg⟩

set_option maxHeartbeats 2000000 in
set_option maxRecDepth 100000 in
theorem buStringX (B b : Nat) (l s : List UInt8) (w : World) (h : Bu B b l w) (hlen : l.length + s.length ≤ 1099511627000) (hBw : B ≤ w.heap.size) :
    Calls Tryd.prog 37 #[.pointer (some ⟨b, 0, none⟩), .string (txt s)] w fun e w' => e = .returned (.tuple #[.int .i64 (s.length : Int), .nilIface]) ∧ Bu B b (l ++ s) w' ∧ Below B w w' ∧ KeepsT b w w' := by
  have H := Lib.hid h
  have hBb := h.base
  clear h
  obtain ⟨i0, hi, hz0, hz1, hz2⟩ := info_parts (byteInfo : (Tryd.prog.info? 5).map (fun i => (i.zero, i.size, i.bytes)) = some (some (.int .u8 0), 1, 1))
  have HSZ : Hid ((txt s).size = s.length) := Lib.hid (by simp [ByteArray.size])
  have HSC : Hid (Lib.strCells (txt s) = u8s s) := Lib.hid (by simp [Lib.strCells, u8s])
  go_enter Tryd.func37, Tryd.ntmps37
  go_wp2_with (fail)
  refine (buCheckX B b l w H.out).mono ?_
  rintro e w1 ⟨rfl, h1, hb1, hz1', hk1⟩
  have HK1 := Lib.hid hk1
  clear hk1
  have HBZ : Hid (B ≤ w1.heap.size) := Lib.hid (by omega)
  clear hz1'
  obtain ⟨v, hr, hown, hne⟩ := h1.rows
  have c1 := cell_of_row w1 b 1 _ _ _ hr
  simp only [List.getElem?_toArray, List.getElem?_cons_zero, List.getElem?_cons_succ] at c1
  have HR := Lib.hid hr
  have HNE := Lib.hid hne
  have HO := Lib.hid hown
  have HB1 := Lib.hid hb1
  obtain ⟨Av, cv, hv⟩ := own_form (show w1.ownsRow B 5 1 v l.length (u8s l) from hown)
  subst hv
  have tok1 : Hid True := Lib.hid trivial
  clear h1 hr hown hne hb1
  go_wp2_with (at_builtin; have _t := tok1; go_loud ((refine Lib.wpList_append_own_string _ rfl (.tmp 12) (.tmp 13) 22 9 rfl B 5 i0 Tryd.underlying22 Tryd.underlying9 hi hz0 hz1 hz2 (.slice Av l.length cv) l.length (u8s l) rfl HO.out (txt s) rfl (by rw [HSZ.out]; unfold maxLen; omega) (by rw [HSZ.out]; omega) HBZ.out ?_; intro v2 w2 hown2 hgr2 hfr2; have HO2 : Hid (Own 5 w2 B v2 (l ++ s)) := Lib.hid (by unfold Own; rw [List.length_append]; rw [HSZ.out, HSC.out] at hown2; simpa using hown2); have HK2 := Lib.hid (KeepsT.wrote HO.out hgr2 (A := v2) (b := b)); obtain ⟨z1, z2, HW⟩ := BuAt.wrote hBb HR.out hgr2 HNE.out HO2.out (fun k hk => (World.ownsRow.lt HO.out k hk).1) HBZ.out; obtain ⟨A2, c2, rfl⟩ := own_form hown2; clear tok1 hown2 hgr2 hfr2 _t)))
  go_ret2
  exact ⟨by rw [← HSZ.out]; rfl, HW.out.1, HB1.out.trans HW.out.2, HK1.out.trans HK2.out⟩
end Go.Proofs.YtnoppnnpennddaaDoor
