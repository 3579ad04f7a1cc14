/- Layer 19: the table of rows, and words cut. -/
import Derived.Test.YtnoppnnpennddaaDoorTr3
namespace Go.Proofs.YtnoppnnpennddaaDoor
open Go.RowKit

def MaxLen (w : World) : Prop := ∃ m : Int, w.cell? ⟨1, 0, none⟩ = some (.int .i64 m)
theorem MaxLen.below {w w' : World} (h : MaxLen w) (hb : Below w.heap.size w w') : MaxLen w' := by
  obtain ⟨m, hm⟩ := h
  exact ⟨m, (hb.cell (p := ⟨1, 0, none⟩) (World.block_lt_of_cell? w _ hm)).trans hm⟩
theorem txt_data (s : ByteArray) : txt s.data.toList = s := by
  apply ByteArray.ext
  simp
theorem splitB_txts (c : UInt8) (s : ByteArray) : Lib.splitB (txt [c]) 0 (Lib.countB s (txt [c])) s = (cutAt c s.data.toList).map txt := by
  have h1 : Lib.countB s (txt [c]) = s.data.toList.count c := Lib.count_one c s.data.toList
  have h2 := Lib.splitB_data (txt [c]) 0 (Lib.countB s (txt [c])) s
  rw [show (txt [c]).data.toList = [c] from rfl, splitK_cut c _ _ h1.symm] at h2
  rw [← h2, List.map_map]
  conv => lhs; rw [← List.map_id (Lib.splitB (txt [c]) 0 (Lib.countB s (txt [c])) s)]
  exact List.map_congr_left fun x _ => (txt_data x).symm
/-- the first words of a text -/
def wordsN (l : List UInt8) : List (List UInt8) := Lib.splitK [32] 0 (min 4 (l.length + 1) - 1) l
theorem splitB_words (s : ByteArray) : Lib.splitB (txt [32]) 0 (min 4 (s.size + 1) - 1) s = (wordsN s.data.toList).map txt := by
  have h2 := Lib.splitB_data (txt [32]) 0 (min 4 (s.size + 1) - 1) s
  have e : s.data.toList.length = s.size := by simp
  unfold wordsN
  rw [show (txt [32]).data.toList = [32] from rfl] at h2
  rw [e, ← h2, List.map_map]
  conv => lhs; rw [← List.map_id (Lib.splitB (txt [32]) 0 (min 4 (s.size + 1) - 1) s)]
  exact List.map_congr_left fun x _ => (txt_data x).symm
theorem splitK_parts (sep : List UInt8) : ∀ (k : Nat) (l : List UInt8), ∀ x ∈ Lib.splitK sep 0 k l, x.length ≤ l.length
  | 0, l, x, hx => by
    simp only [Lib.splitK, List.mem_singleton] at hx
    rw [hx]
    exact Nat.le_refl _
  | k + 1, l, x, hx => by
    unfold Lib.splitK at hx
    split at hx
    · simp only [List.mem_singleton] at hx
      rw [hx]
      exact Nat.le_refl _
    · rcases List.mem_cons.1 hx with e | e
      · rw [e, List.length_take]
        omega
      · have := splitK_parts sep k _ x e
        rw [List.length_drop] at this
        omega
theorem splitK_count (sep : List UInt8) : ∀ (k : Nat) (l : List UInt8), 1 ≤ (Lib.splitK sep 0 k l).length ∧ (Lib.splitK sep 0 k l).length ≤ k + 1
  | 0, l => by simp [Lib.splitK]
  | k + 1, l => by
    unfold Lib.splitK
    split
    · simp
    · have := splitK_count sep k (l.drop ((Lib.index l sep).toNat + sep.length))
      simp only [List.length_cons]
      omega
theorem wordsN_parts (l : List UInt8) : ∀ x ∈ wordsN l, x.length ≤ l.length := splitK_parts _ _ _
theorem wordsN_len (l : List UInt8) : 1 ≤ (wordsN l).length ∧ (wordsN l).length ≤ 4 := by
  have := splitK_count [32] (min 4 (l.length + 1) - 1) l
  unfold wordsN
  omega

theorem splitN_ (s : ByteArray) (w : World) (hs : s.size ≤ 100000000) (hm : MaxLen w) : Calls Tryd.prog 28 #[.string s, .string ⟨#[32]⟩, .int .i64 4] w fun e w' =>
    ∃ A m c, e = .returned (.slice A m c) ∧ Ss w' A m c (wordsN s.data.toList) ∧ Below w.heap.size w w' := by
  obtain ⟨m, hm⟩ := hm
  refine (Tryd.strings_SplitN s (txt [32]) 4 m w (by omega) hm (Nat.le_refl _) (by omega) (by omega)).mono ?_
  rintro e w' ⟨rfl, rfl⟩
  rw [splitB_words]
  have hlen : ((wordsN s.data.toList).map txt).length = (wordsN s.data.toList).length := List.length_map _
  have hw := wordsN_len s.data.toList
  have hk := splitK_count [32] (min 4 (s.data.toList.length + 1) - 1) s.data.toList
  have e : s.data.toList.length = s.size := by simp
  rw [e] at hk
  have hk2 : (wordsN s.data.toList).length ≤ min 4 (s.size + 1) := by unfold wordsN; rw [e]; omega
  rw [hlen]
  refine ⟨_, _, _, rfl, Ss.of_block (heap_alloc_new w _) (fun i x hx => ?_) rfl hk2 (Nat.le_trans (Nat.min_le_left 4 _) (by decide)), (Below.refl _ _).alloc (Nat.le_refl _) _⟩
  have hi := (List.getElem?_eq_some_iff.1 hx).1
  unfold Lib.cellsOf
  rw [List.getElem?_toArray, List.getElem?_append_left (by simpa using hi)]
  simp [hx]
/-- a text cut at blanks: the row, and where it lies -/
theorem split_ (s : ByteArray) (T : List (List UInt8)) (hT : cutAt 32 s.data.toList = T) (w : World) (hs : s.size ≤ 100000000) (hm : MaxLen w) : Calls Tryd.prog 29 #[.string s, .string ⟨#[32]⟩] w fun e w' =>
    e = .returned (.slice (some ⟨w.heap.size, 0, none⟩) T.length T.length) ∧ w' = w.alloc (.cells (T.map str).toArray 9) := by
  obtain ⟨m, hm⟩ := hm
  refine (Tryd.strings_Split s (txt [32]) m w (by omega) hm (Nat.le_refl _)).mono ?_
  rintro e w' ⟨rfl, rfl⟩
  have hlen : Lib.countB s (txt [32]) + 1 = (cutAt 32 s.data.toList).length := by
    rw [cutAt_length, show Lib.countB s (txt [32]) = s.data.toList.count 32 from Lib.count_one 32 s.data.toList]
  rw [splitB_txts, hlen, hT]
  refine ⟨rfl, ?_⟩
  rw [List.map_map]
  rfl
abbrev rowsA : Array Value := #[.string ⟨#[105, 110]⟩, .bool true, .bool false, .bool false, .string ⟨#[111, 117, 116]⟩, .bool true, .bool false, .bool false, .string ⟨#[100, 114, 111, 112, 32, 105, 110]⟩, .bool false, .bool false, .bool false, .string ⟨#[100, 114, 111, 112, 32, 111, 117, 116]⟩, .bool false, .bool false, .bool false, .string ⟨#[116, 105, 99, 107]⟩, .bool false, .bool true, .bool false, .string ⟨#[114, 111, 111, 109]⟩, .bool false, .bool true, .bool false, .string ⟨#[102, 97, 105, 108, 115, 121, 110, 99]⟩, .bool false, .bool true, .bool false, .string ⟨#[97, 114, 109]⟩, .bool false, .bool true, .bool true, .string ⟨#[112, 111, 119, 101, 114]⟩, .bool false, .bool false, .bool true]
/-- the table of rows lies there -/
def TRows (w : World) : Prop := ∃ t fr, w.heap[0]? = some (.cells rowsA t fr)
theorem TRows.below {w w' : World} (h : TRows w) (hb : Below w.heap.size w w') : TRows w' := by
  obtain ⟨t, fr, h⟩ := h
  exact ⟨t, fr, (hb.block _ (Array.getElem?_eq_some_iff.1 h).1).trans h⟩
/-- the words of the rows, and what fields they have -/
def rowW : Nat → List (List UInt8)
  | 0 => [[105, 110]]
  | 1 => [[111, 117, 116]]
  | 2 => [[100, 114, 111, 112], [105, 110]]
  | 3 => [[100, 114, 111, 112], [111, 117, 116]]
  | 4 => [[116, 105, 99, 107]]
  | 5 => [[114, 111, 111, 109]]
  | 6 => [[102, 97, 105, 108, 115, 121, 110, 99]]
  | 7 => [[97, 114, 109]]
  | 8 => [[112, 111, 119, 101, 114]]
  | _ => []
def rowF : Nat → Bool × Bool × Bool
  | 0 => (true, false, false)
  | 1 => (true, false, false)
  | 2 => (false, false, false)
  | 3 => (false, false, false)
  | 4 => (false, true, false)
  | 5 => (false, true, false)
  | 6 => (false, true, false)
  | 7 => (false, true, true)
  | 8 => (false, false, true)
  | _ => (false, false, false)
abbrev matchK (W : List (List UInt8)) (k : Nat) : Bool := (rowW k).isPrefixOf W
/-- the event that words tell: its kind, its numbers, its bytes -/
def readW (W : List (List UInt8)) : Option (Int × Int × Int × List UInt8) :=
  match (List.range 9).find? (matchK W) with
  | none => none
  | some k => (fieldsE (rowF k).1 (rowF k).2.1 (rowF k).2.2 (W.drop (rowW k).length)).map fun r => ((k : Int), r.2.1, r.2.2, r.1)
theorem find_range {f : Nat → Bool} {n k : Nat} (hk : k < n) (h0 : ∀ j, j < k → f j = false) (h1 : f k = true) : (List.range n).find? f = some k := by
  rw [List.find?_eq_some_iff_append]
  refine ⟨h1, (List.range n).take k, (List.range n).drop (k + 1), ?_, fun a ha => ?_⟩
  · have e3 : (List.range n).drop k = k :: (List.range n).drop (k + 1) := by
      rw [List.drop_eq_getElem_cons (by simpa using hk)]
      simp
    exact (List.take_append_drop k _).symm.trans (by rw [e3])
  · have := List.mem_take_iff_getElem.1 ha
    obtain ⟨i, hi, e⟩ := this
    simp at e hi
    rw [← e, h0 i (by omega)]
    rfl
theorem find_range_none {f : Nat → Bool} {n : Nat} (h0 : ∀ j, j < n → f j = false) : (List.range n).find? f = none := by
  rw [List.find?_eq_none]
  intro x hx
  rw [h0 x (List.mem_range.1 hx)]
  decide
theorem readW_none {W : List (List UInt8)} (h : ∀ j, j < 9 → matchK W j = false) : readW W = none := by
  unfold readW
  rw [find_range_none h]
theorem readW_at {W : List (List UInt8)} {k : Nat} (hk : k < 9) (h : ∀ j, j < k → matchK W j = false) {F : List (List UInt8)} (hW : W = rowW k ++ F) : readW W = (fieldsE (rowF k).1 (rowF k).2.1 (rowF k).2.2 F).map fun r => ((k : Int), r.2.1, r.2.2, r.1) := by
  unfold readW
  rw [find_range hk h (by unfold matchK; rw [hW]; exact List.isPrefixOf_iff_prefix.2 (List.prefix_append _ _))]
  simp only [hW, List.drop_left]
theorem match_no {W : List (List UInt8)} {k j : Nat} {F : List (List UInt8)} (hW : W = (rowW k).take j ++ F) (hj : j < (rowW k).length) (h : F.head? ≠ some ((rowW k).getD j [])) : matchK W k = false := by
  unfold matchK
  rw [← Bool.not_eq_true, List.isPrefixOf_iff_prefix]
  rintro ⟨t, ht⟩
  apply h
  have e2 : (rowW k).drop j = (rowW k).getD j [] :: (rowW k).drop (j + 1) := by
    rw [List.drop_eq_getElem_cons hj, List.getD_eq_getElem?_getD, List.getElem?_eq_getElem hj]
    rfl
  have e3 : (rowW k).take j ++ ((rowW k).drop j ++ t) = (rowW k).take j ++ F := by
    rw [← List.append_assoc, List.take_append_drop, ht, hW]
  have e4 := List.append_cancel_left e3
  rw [← e4, e2]
  rfl
end Go.Proofs.YtnoppnnpennddaaDoor
