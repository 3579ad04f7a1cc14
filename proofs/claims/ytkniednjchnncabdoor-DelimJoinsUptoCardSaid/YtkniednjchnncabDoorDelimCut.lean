/- Layer 6: Cut and Join. -/
import Derived.Test.YtkniednjchnncabDoorRefJoin
import Derived.Test.YtkniednjchnncabDoorShelf
namespace Go.Proofs.YtkniednjchnncabDoor
open Go.RowKit

/-- the library's variable holds a number -/
def MaxLen (w : World) : Prop := ∃ m : Int, w.cell? ⟨0, 0, none⟩ = some (.int .i64 m)
theorem MaxLen.below {w w' : World} (h : MaxLen w) (hb : Below w.heap.size w w') : MaxLen w' := by
  obtain ⟨m, hm⟩ := h
  exact ⟨m, (hb.cell (p := ⟨0, 0, none⟩) (World.block_lt_of_cell? w _ hm)).trans hm⟩
theorem txt_data (s : ByteArray) : txt s.data.toList = s := by
  apply ByteArray.ext
  simp
theorem splitB_txts (c : UInt8) (s : ByteArray) : Lib.splitB (txt [c]) 0 (Lib.countB s (txt [c])) s = (cutAt c s.data.toList).map txt := by
  have h1 : Lib.countB s (txt [c]) = s.data.toList.count c := Lib.count_one c s.data.toList
  have h2 := Lib.splitB_data (txt [c]) 0 (Lib.countB s (txt [c])) s
  rw [show (txt [c]).data.toList = [c] from rfl, splitK_cut c _ _ h1.symm] at h2
  rw [← h2, List.map_map]
  conv => lhs; rw [← List.map_id (Lib.splitB (txt [c]) 0 (Lib.countB s (txt [c])) s)]
  exact List.map_congr_left fun x _ => (txt_data x).symm

set_option maxRecDepth 100000 in
theorem delimCut (s : ByteArray) (c : UInt8) (w : World) (hs : s.size ≤ 4294967000) (hm : MaxLen w) : Calls Tryd.prog 8 #[.string s, u8 c] w (RetSs w (cutAt c s.data.toList)) := by
  have HM := Lib.hid hm
  have HS := Lib.hid hs
  clear hm hs
  go_enter Tryd.func8, Tryd.ntmps8
  go_wp2_with (fail)
  refine (delimText c w).mono ?_
  rintro e w1 ⟨rfl, hw⟩
  have HB1 : Hid (Below w.heap.size w w1) := Lib.hid (hw ▸ (Below.refl _ w).alloc (Nat.le_refl _) _)
  clear hw
  go_wp2_with (fail)
  obtain ⟨m, hm⟩ := HM.out.below HB1.out
  refine (Tryd.strings_Split s (txt [c]) m w1 (by have := HS.out; omega) hm (Nat.le_refl _)).mono ?_
  rintro e w2 ⟨rfl, hw⟩
  have hlen : Lib.countB s (txt [c]) + 1 = (cutAt c s.data.toList).length := by
    rw [cutAt_length, show Lib.countB s (txt [c]) = s.data.toList.count c from Lib.count_one c s.data.toList]
  rw [splitB_txts] at hw
  have hsz : (cutAt c s.data.toList).length ≤ maxLen := by
    rw [cutAt_length]
    have := List.count_le_length (a := c) (l := s.data.toList)
    have := HS.out
    have e : s.data.toList.length = s.size := by simp
    simp only [maxLen]
    omega
  have HQ : Hid (Ss w2 (some ⟨w1.heap.size, 0, none⟩) (cutAt c s.data.toList).length (cutAt c s.data.toList).length (cutAt c s.data.toList)) := Lib.hid (by
    rw [hw]
    exact Ss.of_block (heap_alloc_new w1 _) (fun i x hx => by simp [hx]) rfl (Nat.le_refl _) hsz)
  have HB2 : Hid (Below w.heap.size w w2) := Lib.hid (hw ▸ HB1.out.alloc HB1.out.size _)
  rw [hlen]
  clear hw hlen hsz hm HM
  go_wp2_with (fail)
  go_ret
  exact ⟨_, _, rfl, HQ.out, HB2.out⟩

set_option maxRecDepth 100000 in
theorem delimJoin (c : UInt8) (A : Option Addr) (n cp : Nat) (T : List (List UInt8)) (w : World) (hS : Ss w A n cp T) (hl : (Lib.join T [c]).length ≤ 1099511627000) (hn : n ≤ 1099511627000) :
    Calls Tryd.prog 10 #[u8 c, .slice A n cp] w fun e w' => e = .returned (str (Lib.join T [c])) ∧ Below w.heap.size w w' := by
  have HS := Lib.hid hS
  have HL := Lib.hid hl
  have HN := Lib.hid hn
  clear hS hl hn
  go_enter Tryd.func10, Tryd.ntmps10
  go_wp2_with (fail)
  refine (delimText c w).mono ?_
  rintro e w1 ⟨rfl, hw⟩
  have hb1 : Below w.heap.size w w1 := hw ▸ (Below.refl _ w).alloc (Nat.le_refl _) _
  have HB1 := Lib.hid hb1
  have hS1 := HS.out.below hb1
  clear hw hb1
  go_wp2_with (fail)
  have hT : (T.map txt).map (·.data.toList) = T := by
    rw [List.map_map]
    conv => rhs; rw [← List.map_id T]
    exact List.map_congr_left fun x _ => rfl
  rcases Nat.eq_zero_or_pos n with h0 | h0
  · subst h0
    obtain rfl : T = [] := List.eq_nil_of_length_eq_zero hS1.len
    refine (Tryd.strings_Join_none A cp (txt [c]) w1).mono ?_
    rintro e w2 ⟨rfl, rfl⟩
    go_wp2_with (fail)
    go_ret
    exact ⟨rfl, HB1.out⟩
  · obtain ⟨b, o, rfl, hbl, hc⟩ := hS1.at_ h0
    obtain rfl := hS1.len
    have hj := Tryd.strings_Join b o cp (T.map txt) (txt [c]) w1 (fun j x hx => by
      rw [List.getElem?_map] at hx
      cases hy : T[j]? with
      | none => rw [hy] at hx; cases hx
      | some y => rw [hy] at hx; obtain rfl := Option.some.inj hx; exact hc j y hy) hbl (by rw [List.length_map]; have := HN.out; omega) (by rw [List.length_map]; exact hS1.le) (by rw [hT]; have := HL.out; show (Lib.join T [c]).length ≤ _; omega)
    rw [hT, List.length_map] at hj
    refine hj.mono ?_
    rintro e w2 ⟨rfl, hb2⟩
    have HB2 : Hid (Below w.heap.size w w2) := Lib.hid (HB1.out.trans (hb2.mono HB1.out.size))
    clear hb2 hj hT hc hbl hS1
    go_wp2_with (fail)
    go_ret
    exact ⟨rfl, HB2.out⟩
end Go.Proofs.YtkniednjchnncabDoor
