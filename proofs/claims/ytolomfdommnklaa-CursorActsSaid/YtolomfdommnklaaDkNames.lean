/- Layer 2: Names, walked. -/
import Derived.Test.YtolomfdommnklaaDkNone
import Derived.Test.YtolomfdommnklaaStrs
namespace Go.Proofs.Ytolomfdommnklaa
open Go.RowKit Go.MapKept

abbrev nmsOf (F : List Ent) : List (List UInt8) := F.map fun e => e.nm.data.toList
/-- all names, in the order of their bytes -/
def NamesPost (w : World) (F : List Ent) (e : Ending) (w' : World) : Prop := ∃ A c T, e = .returned (.slice A (List.mergeSort T fun x y => decide (x ≤ y)).length c) ∧ T.Perm (nmsOf F) ∧ Ss w' A (List.mergeSort T fun x y => decide (x ≤ y)).length c (List.mergeSort T fun x y => decide (x ≤ y)) ∧ Below w.heap.size w w'
theorem OwnS.ch {w w' : World} {base : Nat} {v : Value} {T : List (List UInt8)} {S : Nat → Prop} (h : OwnS w base v T) (c : Ch S w w') (hS : ∀ k, v.ownBlock = some k → ¬ S k) : OwnS w' base v T := own_ch h c hS
theorem str_txt (x : ByteArray) : str x.data.toList = .string x := rfl
theorem Rng.appd {w3 w4 : World} {M I base : Nat} {L left : List (ByteArray × Value)} {v : Value} {T : List (List UInt8)} {y : ByteArray} (hr : Rng (.string) w3 M I L left) (ho : OwnS w3 base v T) (hgr : (w3.alloc (.cells #[.string y] 9)).grownBy w4 v.ownBlock) : Rng (.string) w4 M I L left := by
  have hb := (Below.refl w3.heap.size w3).alloc (Nat.le_refl _) (.cells #[.string y] 9)
  have h1 := hr.below hb
  exact h1.ch (Ch.of_grown (S := fun k => v.ownBlock = some k) hgr (fun k hk => hk)) (fun hs => by obtain ⟨cur, hcr⟩ := own_ty (ho.below hb) _ hs; exact h1.map.ne hcr rfl) (fun hs => by obtain ⟨cur, hcr⟩ := own_ty (ho.below hb) _ hs; exact h1.ne hcr rfl)
/-- .. in a row of the call's own -/
def NamesPost2 (w : World) (F : List Ent) (e : Ending) (w' : World) : Prop := ∃ A c T, e = .returned (.slice A (List.mergeSort T fun x y => decide (x ≤ y)).length c) ∧ T.Perm (nmsOf F) ∧ Ss w' A (List.mergeSort T fun x y => decide (x ≤ y)).length c (List.mergeSort T fun x y => decide (x ≤ y)) ∧ Below w.heap.size w w' ∧ (∀ b, A = some b → w.heap.size ≤ b.block)
/-- where Names' loop stands -/
structure NmSt (w : World) (M I : Nat) (F lb : List Ent) (T : List (List UInt8)) (v : Value) (wr : World) : Prop where
  sub : lb.Sublist F
  rng : Rng (.string) wr M I (mapL F) (mapL lb)
  own : OwnS wr w.heap.size v T
  perm : (T ++ nmsOf lb).Perm (nmsOf F)
  bel : Below w.heap.size w wr
theorem sort_len (T : List (List UInt8)) : (List.mergeSort T fun x y => decide (x ≤ y)).length = T.length := List.length_mergeSort T
theorem sorted_world {w w' : World} {blk n : Nat} {os : Array Obj} {T : List (List UInt8)} {c base : Nat} (hH : Sort.Holds encStr w blk 0 T.toArray) (hb : blk < w.heap.size) (hbase : base ≤ blk) (hlc : T.length ≤ c) (hc : c ≤ maxLen)
    (he : w' = Sort.grow (Sort.putRow encStr (Sort.ahead w n) blk 0 (List.mergeSort T fun x y => decide (x ≤ y)).toArray) os) :
    Ss w' (some ⟨blk, 0, none⟩) (List.mergeSort T fun x y => decide (x ≤ y)).length c (List.mergeSort T fun x y => decide (x ≤ y)) ∧ Below base w w' := by
  have hl := sort_len T
  subst he
  have hsz : (Sort.putRow encStr (Sort.ahead w n) blk 0 (List.mergeSort T fun x y => decide (x ≤ y)).toArray).heap.size = w.heap.size := by simp [Sort.putRow, Sort.mapBlock, Sort.ahead]
  refine ⟨⟨rfl, by omega, hc, fun h0 => ⟨blk, 0, rfl, fun i x hx => ?_⟩⟩, ⟨rfl, rfl, rfl, by simp [Sort.grow, hsz], fun k hk => ?_⟩⟩
  · have hi : i < (List.mergeSort T fun x y => decide (x ≤ y)).toArray.size := by simpa using (List.getElem?_eq_some_iff.1 hx).1
    rw [Sort.cell?_grow _ _ _ (by rw [hsz]; exact hb)]
    rw [Sort.cell?_putRow encStr (Sort.ahead w n) blk 0 T.toArray _ (Sort.holds_ahead _ _ _ _ _ _ hH) (by simp [hl]) i hi]
    obtain ⟨h1, h2⟩ := List.getElem?_eq_some_iff.1 hx
    rw [getElem!_pos _ i hi]
    simp [h2]
  · rw [Sort.heap_grow_old _ _ (by rw [hsz]; omega)]
    simp only [Sort.putRow, Sort.mapBlock, Sort.ahead]
    rw [Array.getElem?_modify, if_neg (by omega)]

set_option maxHeartbeats 2000000 in
set_option maxRecDepth 100000 in
theorem dkNames2 {w : World} {B D M : Nat} {d : Dk} {F : List Ent} (h : DkAt w B D M d F) (hF : F.length ≤ 1099511627776) : Calls Try.prog 26 #[pD D] w (NamesPost2 w F) := by
  have c0' : w.cell? ⟨D, 0, none⟩ = some (.map (some M)) := h.cell 0
  have H := Lib.hid h
  have HF := Lib.hid hF
  have tok1 : Hid True := Lib.hid trivial
  clear h hF
  go_enter Try.func26, Try.ntmps26
  go_wp2_with (at_range; have _t := tok1; refine wpList_rangeL rfl (.tmp 10) 78 rfl Try.underlying78 M (mapL F) rfl H.out.map ?_; intro w2 hr2 hb2 hz2; have HS2 : Hid (NmSt w M w.heap.size F F [] (.slice none 0 0) w2) := Lib.hid ⟨List.Sublist.refl F, hr2, OwnS.nil _ _, (by simp), hb2⟩; clear tok1 hr2 hb2 hz2 _t)
  go_frame
  go_loopw [4, 3] (fun _ v wr => ∃ lb T, NmSt w M w.heap.size F lb T v wr) (fun _ _ wr => rngLeft M w.heap.size wr)
  case atStart => exact ⟨F, [], HS2.out⟩
  case round =>
    clear HS2 c0'
    obtain ⟨wo, rfl⟩ : ∃ wo : World, wo = wr := ⟨_, rfl⟩
    obtain ⟨lb, T, hs⟩ := hrel
    have HS := Lib.hid hs
    have HLE := Lib.hid hs.rng.left_eq
    have HTL : Hid (T.length + lb.length = F.length) := Lib.hid (by have := hs.perm.length_eq; simpa using this)
    clear hs
    by_cases h0 : lb = []
    · subst h0
      have HR0 : Hid (Rng (.string) wo M w.heap.size (mapL F) []) := Lib.hid HS.out.rng
      have HPM : Hid (T.Perm (nmsOf F)) := Lib.hid (by have := HS.out.perm; simpa using this)
      obtain ⟨A, c, rfl, hss, hbase⟩ := HS.out.own.ss
      have HSS := Lib.hid hss
      have HBA := Lib.hid hbase
      have HOW : Hid (OwnS wo w.heap.size (.slice A T.length c) T) := Lib.hid HS.out.own
      clear hss hbase
      go_wp2_with (at_next; refine wpList_nextL0 rfl (.tmp 11) rfl M w.heap.size _ rfl HR0.out ?_)
      by_cases hT : T.length = 0
      · obtain rfl : T = [] := List.eq_nil_of_length_eq_zero hT
        refine (Try.slices_Sort_string_none A c _).mono ?_
        rintro e w3 ⟨rfl, rfl⟩
        go_wp2_with (fail)
        go_ret
        exact ⟨A, c, [], by simp, HPM.out, by simpa using HSS.out, HS.out.bel, HBA.out⟩
      · obtain ⟨g, c2, hv, hg1, hg2, hlc, hc2⟩ := HOW.out.form (by omega)
        injection hv with hv1 _ hv3
        subst hv1 hv3
        have hH : Sort.Holds encStr wo g 0 T.toArray := fun j hj => by
          have hj' : j < T.length := by simpa using hj
          rw [Nat.zero_add]
          refine ⟨?_, HOW.out.frozen j⟩
          rw [HOW.out.cell (List.getElem?_eq_getElem hj'), getElem!_pos _ j hj]
          simp
        have HG := Lib.hid (And.intro hg1 hg2)
        have HH := Lib.hid hH
        have HLC := Lib.hid (And.intro hlc hc2)
        have HT0 := Lib.hid hT
        clear hH hg1 hg2 hlc hc2 hT
        refine (Try.slices_Sort_string g 0 c T wo HH.out HG.out.2 (by have := HTL.out; have := HF.out; omega)).mono ?_
        rintro e w3 ⟨rfl, n, os, hw3⟩
        obtain ⟨hs3, hb3⟩ := sorted_world HH.out HG.out.2 HG.out.1 HLC.out.1 (by have := HLC.out.2; simpa only [maxLen] using this) hw3
        have HP : Hid (NamesPost2 w F (.returned (.slice (some ⟨g, 0, none⟩) T.length c)) w3) := Lib.hid ⟨some ⟨g, 0, none⟩, c, T, by rw [sort_len], HPM.out, hs3, HS.out.bel.trans hb3, HBA.out⟩
        clear hs3 hb3 hw3
        go_wp2_with (fail)
        go_ret
        exact HP.out
    · have HNL : Hid (mapL lb ≠ []) := Lib.hid (by simpa using h0)
      clear h0
      have tok2 : Hid True := Lib.hid trivial
      have tok3 : Hid True := Lib.hid trivial
      go_wp2_with (first
        | (at_next; have _t := tok2; refine wpList_nextL1 rfl (.tmp 11) rfl M w.heap.size _ _ rfl HS.out.rng HNL.out ?_; intro lp key v' lq w3 hl hr3 hc3 hz3 hen; obtain ⟨bp, e, bq, hlb, hbp, hkx, hbq⟩ := map_split (fun e => (e.nm, pf e.g)) lp (key, v') lq lb hl; obtain ⟨rfl, rfl⟩ : e.nm = key ∧ pf e.g = v' := (by simpa using hkx); subst hbp hbq; have HO3 : Hid (OwnS w3 w.heap.size u3 T) := Lib.hid (HS.out.own.ch hc3 (fun k hk hs => (by obtain ⟨cur, hcr⟩ := own_ty HS.out.own k hk; exact HS.out.rng.ne hcr hs.symm))); have HR3 := Lib.hid hr3; have HLB := Lib.hid hlb; have HB3 : Hid (Below w.heap.size w w3) := Lib.hid (HS.out.bel.trans (hc3.below (fun k hk => by omega) HS.out.bel.size)); clear tok2 hl hr3 hc3 hz3 hlb hkx _t)
        | (at_builtin; have _t := tok3; go_loud ((refine wpList_str rfl (.tmp 16) (.tmp 18) rfl w.heap.size _ T rfl (HO3.out.below ((Below.refl _ w3).alloc (Nat.le_refl _) _)) w3.heap.size e.nm.data.toList rfl (heap_alloc_new w3 _) (by have := HTL.out; have := HF.out; omega) (by have := HB3.out.size; simp; omega) ?_; intro v4 w4 hown hbel hgr; have HO4 := Lib.hid hown; have HB4 : Hid (Below w.heap.size w w4) := Lib.hid ((HB3.out.alloc HB3.out.size _).trans hbel); have HR4 : Hid (Rng (.string) w4 M w.heap.size (mapL F) (mapL (bp ++ bq))) := Lib.hid (by unfold mapL; rw [List.map_append]; exact Rng.appd HR3.out HO3.out hgr); clear tok3 hown hbel hgr _t))))
      go_roundw
      case rel =>
        refine ⟨bp ++ bq, T ++ [e.nm.data.toList], ⟨?_, HR4.out, HO4.out, ?_, HB4.out⟩⟩
        · exact (List.Sublist.append_left (List.sublist_cons_self e bq) bp).trans (HLB.out ▸ HS.out.sub)
        · have := HS.out.perm
          rw [HLB.out] at this
          refine List.Perm.trans ?_ this
          simp only [nmsOf, List.map_append, List.map_cons, List.append_assoc, List.singleton_append]
          exact List.Perm.append_left T List.perm_middle.symm
      case measure =>
        rw [HR4.out.left_eq, HLE.out, HLB.out]
        simp [mapL]
theorem dkNames {w : World} {B D M : Nat} {d : Dk} {F : List Ent} (h : DkAt w B D M d F) (hF : F.length ≤ 1099511627776) : Calls Try.prog 26 #[pD D] w (NamesPost w F) :=
  (dkNames2 h hF).mono fun _ _ ⟨A, c, T, h1, h2, h3, h4, _⟩ => ⟨A, c, T, h1, h2, h3, h4⟩
end Go.Proofs.Ytolomfdommnklaa
