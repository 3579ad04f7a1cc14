/- Layer 19: what words tell, by the first one (math). -/
import Derived.Test.YtnoppnnpennddaaDoorTrN
namespace Go.Proofs.YtnoppnnpennddaaDoor
open Go.RowKit

theorem readW_in (F : List (List UInt8)) : readW ([105, 110] :: F) = (fieldsE true false false F).map fun r => ((0 : Int), r.2.1, r.2.2, r.1) := by
  rw [readW_at (W := [105, 110] :: F) (k := 0) (by omega) (fun j hj => by
    match j, hj with
    | _, hj => exact absurd hj (by omega)) (F := F) rfl]
  rfl
theorem readW_out (F : List (List UInt8)) : readW ([111, 117, 116] :: F) = (fieldsE true false false F).map fun r => ((1 : Int), r.2.1, r.2.2, r.1) := by
  rw [readW_at (W := [111, 117, 116] :: F) (k := 1) (by omega) (fun j hj => by
    match j, hj with
    | 0, _ => rfl) (F := F) rfl]
  rfl
theorem readW_tick (F : List (List UInt8)) : readW ([116, 105, 99, 107] :: F) = (fieldsE false true false F).map fun r => ((4 : Int), r.2.1, r.2.2, r.1) := by
  rw [readW_at (W := [116, 105, 99, 107] :: F) (k := 4) (by omega) (fun j hj => by
    match j, hj with
    | 0, _ => rfl
    | 1, _ => rfl
    | 2, _ => rfl
    | 3, _ => rfl) (F := F) rfl]
  rfl
theorem readW_room (F : List (List UInt8)) : readW ([114, 111, 111, 109] :: F) = (fieldsE false true false F).map fun r => ((5 : Int), r.2.1, r.2.2, r.1) := by
  rw [readW_at (W := [114, 111, 111, 109] :: F) (k := 5) (by omega) (fun j hj => by
    match j, hj with
    | 0, _ => rfl
    | 1, _ => rfl
    | 2, _ => rfl
    | 3, _ => rfl
    | 4, _ => rfl) (F := F) rfl]
  rfl
theorem readW_failsync (F : List (List UInt8)) : readW ([102, 97, 105, 108, 115, 121, 110, 99] :: F) = (fieldsE false true false F).map fun r => ((6 : Int), r.2.1, r.2.2, r.1) := by
  rw [readW_at (W := [102, 97, 105, 108, 115, 121, 110, 99] :: F) (k := 6) (by omega) (fun j hj => by
    match j, hj with
    | 0, _ => rfl
    | 1, _ => rfl
    | 2, _ => rfl
    | 3, _ => rfl
    | 4, _ => rfl
    | 5, _ => rfl) (F := F) rfl]
  rfl
theorem readW_arm (F : List (List UInt8)) : readW ([97, 114, 109] :: F) = (fieldsE false true true F).map fun r => ((7 : Int), r.2.1, r.2.2, r.1) := by
  rw [readW_at (W := [97, 114, 109] :: F) (k := 7) (by omega) (fun j hj => by
    match j, hj with
    | 0, _ => rfl
    | 1, _ => rfl
    | 2, _ => rfl
    | 3, _ => rfl
    | 4, _ => rfl
    | 5, _ => rfl
    | 6, _ => rfl) (F := F) rfl]
  rfl
theorem readW_power (F : List (List UInt8)) : readW ([112, 111, 119, 101, 114] :: F) = (fieldsE false false true F).map fun r => ((8 : Int), r.2.1, r.2.2, r.1) := by
  rw [readW_at (W := [112, 111, 119, 101, 114] :: F) (k := 8) (by omega) (fun j hj => by
    match j, hj with
    | 0, _ => rfl
    | 1, _ => rfl
    | 2, _ => rfl
    | 3, _ => rfl
    | 4, _ => rfl
    | 5, _ => rfl
    | 6, _ => rfl
    | 7, _ => rfl) (F := F) rfl]
  rfl
theorem readW_dropin (F : List (List UInt8)) : readW ([100, 114, 111, 112] :: [105, 110] :: F) = (fieldsE false false false F).map fun r => ((2 : Int), r.2.1, r.2.2, r.1) := by
  rw [readW_at (W := [100, 114, 111, 112] :: [105, 110] :: F) (k := 2) (by omega) (fun j hj => by
    match j, hj with
    | 0, _ => rfl
    | 1, _ => rfl) (F := F) rfl]
  rfl
theorem readW_dropout (F : List (List UInt8)) : readW ([100, 114, 111, 112] :: [111, 117, 116] :: F) = (fieldsE false false false F).map fun r => ((3 : Int), r.2.1, r.2.2, r.1) := by
  rw [readW_at (W := [100, 114, 111, 112] :: [111, 117, 116] :: F) (k := 3) (by omega) (fun j hj => by
    match j, hj with
    | 0, _ => rfl
    | 1, _ => rfl
    | 2, _ => rfl) (F := F) rfl]
  rfl
theorem pre_ne {a b : List UInt8} {r t : List (List UInt8)} (h : b ≠ a) : (a :: r).isPrefixOf (b :: t) = false := by
  simp only [List.isPrefixOf]
  rw [beq_eq_false_iff_ne.2 (Ne.symm h)]
  rfl
theorem readW_drop {a : List UInt8} (F : List (List UInt8)) (h1 : a ≠ [105, 110]) (h2 : a ≠ [111, 117, 116]) : readW ([100, 114, 111, 112] :: a :: F) = none := by
  refine readW_none (fun j hj => ?_)
  match j, hj with
  | 0, _ => rfl
  | 1, _ => rfl
  | 2, _ => simp only [matchK, rowW, List.isPrefixOf]; rw [beq_eq_false_iff_ne.2 (Ne.symm h1)]; simp
  | 3, _ => simp only [matchK, rowW, List.isPrefixOf]; rw [beq_eq_false_iff_ne.2 (Ne.symm h2)]; simp
  | 4, _ => rfl
  | 5, _ => rfl
  | 6, _ => rfl
  | 7, _ => rfl
  | 8, _ => rfl
theorem readW_drop1 : readW [[100, 114, 111, 112]] = none := by
  refine readW_none (fun j hj => ?_)
  match j, hj with
  | 0, _ => rfl
  | 1, _ => rfl
  | 2, _ => rfl
  | 3, _ => rfl
  | 4, _ => rfl
  | 5, _ => rfl
  | 6, _ => rfl
  | 7, _ => rfl
  | 8, _ => rfl
theorem readW_other {a : List UInt8} (F : List (List UInt8)) (hd : a ≠ [100, 114, 111, 112]) (h_in : a ≠ [105, 110]) (h_out : a ≠ [111, 117, 116]) (h_tick : a ≠ [116, 105, 99, 107]) (h_room : a ≠ [114, 111, 111, 109]) (h_failsync : a ≠ [102, 97, 105, 108, 115, 121, 110, 99]) (h_arm : a ≠ [97, 114, 109]) (h_power : a ≠ [112, 111, 119, 101, 114]) : readW (a :: F) = none := by
  refine readW_none (fun j hj => ?_)
  match j, hj with
  | 0, _ => exact pre_ne h_in
  | 1, _ => exact pre_ne h_out
  | 2, _ => exact pre_ne hd
  | 3, _ => exact pre_ne hd
  | 4, _ => exact pre_ne h_tick
  | 5, _ => exact pre_ne h_room
  | 6, _ => exact pre_ne h_failsync
  | 7, _ => exact pre_ne h_arm
  | 8, _ => exact pre_ne h_power
/-- one word, or four, tell nothing -/
theorem readW_one (a : List UInt8) : readW [a] = none := by
  by_cases hd : a = [100, 114, 111, 112]
  · rw [hd]; exact readW_drop1
  by_cases h_in : a = [105, 110]
  · rw [h_in, readW_in]; simp [fieldsE, bytesD]
  by_cases h_out : a = [111, 117, 116]
  · rw [h_out, readW_out]; simp [fieldsE, bytesD]
  by_cases h_tick : a = [116, 105, 99, 107]
  · rw [h_tick, readW_tick]; simp [fieldsE, numT_nil]
  by_cases h_room : a = [114, 111, 111, 109]
  · rw [h_room, readW_room]; simp [fieldsE, numT_nil]
  by_cases h_failsync : a = [102, 97, 105, 108, 115, 121, 110, 99]
  · rw [h_failsync, readW_failsync]; simp [fieldsE, numT_nil]
  by_cases h_arm : a = [97, 114, 109]
  · rw [h_arm, readW_arm]; simp [fieldsE, numT_nil]
  by_cases h_power : a = [112, 111, 119, 101, 114]
  · rw [h_power, readW_power]; simp [fieldsE, numT_nil]
  exact readW_other [] hd h_in h_out h_tick h_room h_failsync h_arm h_power
theorem readW_four (a b c d : List UInt8) : readW [a, b, c, d] = none := by
  by_cases hd : a = [100, 114, 111, 112]
  · rw [hd]
    by_cases h1 : b = [105, 110]
    · rw [h1, readW_dropin]; simp [fieldsE]
    by_cases h2 : b = [111, 117, 116]
    · rw [h2, readW_dropout]; simp [fieldsE]
    exact readW_drop _ h1 h2
  by_cases h_in : a = [105, 110]
  · rw [h_in, readW_in]; simp [fieldsE]
  by_cases h_out : a = [111, 117, 116]
  · rw [h_out, readW_out]; simp [fieldsE]
  by_cases h_tick : a = [116, 105, 99, 107]
  · rw [h_tick, readW_tick]; simp [fieldsE]
  by_cases h_room : a = [114, 111, 111, 109]
  · rw [h_room, readW_room]; simp [fieldsE]
  by_cases h_failsync : a = [102, 97, 105, 108, 115, 121, 110, 99]
  · rw [h_failsync, readW_failsync]; simp [fieldsE]
  by_cases h_arm : a = [97, 114, 109]
  · rw [h_arm, readW_arm]; simp [fieldsE]
  by_cases h_power : a = [112, 111, 119, 101, 114]
  · rw [h_power, readW_power]; simp [fieldsE]
  exact readW_other _ hd h_in h_out h_tick h_room h_failsync h_arm h_power
theorem readW_three (a b c : List UInt8) (h_arm : a ≠ [97, 114, 109]) : readW [a, b, c] = none := by
  by_cases hd : a = [100, 114, 111, 112]
  · rw [hd]
    by_cases h1 : b = [105, 110]
    · rw [h1, readW_dropin]; simp [fieldsE]
    by_cases h2 : b = [111, 117, 116]
    · rw [h2, readW_dropout]; simp [fieldsE]
    exact readW_drop _ h1 h2
  by_cases h_in : a = [105, 110]
  · rw [h_in, readW_in]; simp [fieldsE]
  by_cases h_out : a = [111, 117, 116]
  · rw [h_out, readW_out]; simp [fieldsE]
  by_cases h_tick : a = [116, 105, 99, 107]
  · rw [h_tick, readW_tick]; simp [fieldsE]
  by_cases h_room : a = [114, 111, 111, 109]
  · rw [h_room, readW_room]; simp [fieldsE]
  by_cases h_failsync : a = [102, 97, 105, 108, 115, 121, 110, 99]
  · rw [h_failsync, readW_failsync]; simp [fieldsE]
  by_cases h_power : a = [112, 111, 119, 101, 114]
  · rw [h_power, readW_power]; simp [fieldsE]
  exact readW_other _ hd h_in h_out h_tick h_room h_failsync h_arm h_power
theorem cut_few {l : List UInt8} (h : (cutAt 32 l).length ≤ 3) : wordsN l = cutAt 32 l := by
  rw [cutAt_length] at h
  exact wordsN_few l (by omega)
theorem splitK_full (sep : UInt8) : ∀ (k : Nat) (l : List UInt8), k ≤ l.count sep → (Lib.splitK [sep] 0 k l).length = k + 1
  | 0, l, _ => rfl
  | k + 1, l, h => by
    have hm : sep ∈ l := List.count_pos_iff.1 (by omega)
    obtain ⟨a, r, rfl, ha⟩ := List.eq_append_cons_of_mem hm
    have hi := index_clean sep r a ha
    unfold Lib.splitK
    rw [hi, if_neg (by simp)]
    have hc : k ≤ r.count sep := by
      rw [List.count_append, List.count_cons_self, List.count_eq_zero.2 ha] at h
      omega
    have ih := splitK_full sep k r hc
    have e : (a ++ sep :: r).drop ((a.length : Int).toNat + [sep].length) = r := by simp
    rw [e, List.length_cons, ih]
theorem cut_many {l : List UInt8} (h : 3 < (cutAt 32 l).length) : readW (wordsN l) = none := by
  rw [cutAt_length] at h
  have hc := List.count_le_length (a := (32 : UInt8)) (l := l)
  have h4 : (wordsN l).length = 4 := by
    unfold wordsN
    rw [show min 4 (l.length + 1) - 1 = 3 from by omega]
    exact splitK_full 32 3 l (by omega)
  match hw : wordsN l, h4 with
  | [a, b, c, d], _ => exact readW_four a b c d
end Go.Proofs.YtnoppnnpennddaaDoor
