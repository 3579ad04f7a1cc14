/- DiskOwn, walked. -/
import Derived.Test.YtecmadodpkfnnabDkAlive
import Derived.Laws.BitsAllLaws
import Derived.OpenShut
namespace Go.Proofs.Ytecmadodpkfnnab
open Go.RowKit Go.MapKept

theorem xor_u8 (a b : UInt8) : bits BinOp.xor .u8 (a.toNat : Int) (b.toNat : Int) = ((a ^^^ b).toNat : Int) := by
  rw [u8_xor_nat _ _ (UInt8.toNat_lt a) (UInt8.toNat_lt b), UInt8.toNat_xor]
theorem or_u8 (a : UInt8) : bits BinOp.or .u8 (a.toNat : Int) 1 = ((a ||| 1).toNat : Int) := by
  have := u8_or_nat a.toNat 1 (UInt8.toNat_lt a) (by decide)
  rw [UInt8.toNat_or]
  exact this
theorem Own.block {w : World} {base g : Nat} {l : List UInt8} (h : w.heap[g]? = some (.cells (u8s l).toArray 5)) (hb : base ≤ g) (hm : l.length ≤ maxLen) : Own 5 w base (.slice (some ⟨g, 0, none⟩) l.length l.length) l :=
  ⟨by simp, .inr ⟨g, l.length, (u8s l).toArray, rfl, hb, h, Nat.le_refl _, hm, by simp, by rw [Nat.mul_one]; exact List.take_of_length_le (by simp)⟩⟩
theorem Own.at_pos {E : TypeId} {w : World} {base n c : Nat} {A : Option Addr} {l : List UInt8} (h : Own E w base (.slice A n c) l) (h0 : 0 < n) : ∃ g, A = some ⟨g, 0, none⟩ ∧ n = l.length := by
  rcases h.2 with ⟨he, _⟩ | ⟨g, cap, cur, he, _⟩
  · injection he with _ h2 _; omega
  · injection he with h1 h2 _
    exact ⟨g, h1, h2⟩
abbrev dMax (u o : Int) : Dk := ⟨1073741824, u, o, 0, 0, 0⟩
theorem dMax_ok (u o : Int) (hu : 0 ≤ u ∧ u ≤ 1073741824) (ho : 0 ≤ o ∧ o ≤ 1152921504606846976) : (dMax u o).Ok := ⟨show (0 : Int) ≤ 1073741824 ∧ (1073741824 : Int) ≤ 1073741824 by decide, hu, ho, show (0 : Int) ≤ 0 ∧ (0 : Int) ≤ 9223372036854775807 by decide, show (0 : Int) ≤ 0 ∧ (0 : Int) ≤ 9223372036854775807 by decide, show -9223372036854775808 ≤ (0 : Int) ∧ (0 : Int) ≤ 9223372036854775807 by decide⟩
abbrev nmF : ByteArray := ⟨#[102]⟩
theorem nameF : nameD nmF = true := by decide +kernel

set_option maxHeartbeats 4000000 in
set_option maxRecDepth 100000 in
theorem diskOwn_walk (A : Option Addr) (n cp : Nat) (l : List UInt8) (cc : Int) (w : World) (hB : Bs w A n cp l) (_h0 : cp ≤ 140737488351232) (hc : (Lit.int .u8 cc).wf = true) : Calls Try.prog 6 #[.slice A n cp, .int .u8 cc] w (True_ w) := by
  obtain ⟨cy, rfl⟩ : ∃ x : UInt8, cc = (x.toNat : Int) := ⟨cc.toNat.toUInt8, by have := bounds_u8 hc; simp; omega⟩
  have hnl := hB.nmax
  have hnc := hB.le
  have HBS := Lib.hid hB
  have hlen := hB.len
  clear hB hc
  go_enter Try.func6, Try.ntmps6
  go_wp2_with (fail)
  refine (dkNew 1073741824 (by decide) w).mono ?_
  rintro e w1 ⟨D, M, rfl, h1, hb1⟩
  have H1 := Lib.hid h1
  have HB1 := Lib.hid hb1
  clear h1 hb1
  go_wp2_with (fail)
  refine (dkAlive w1).mono ?_
  rintro e w2 ⟨rfl, hb2⟩
  have H2 := Lib.hid (H1.out.below hb2)
  have HB2 : Hid (Below w.heap.size w w2) := Lib.hid (HB1.out.trans (hb2.mono HB1.out.size))
  clear hb2
  by_cases h2k : 2000 < n
  · have d1 : decide ((2000 : Int) < (n : Int)) = true := by simp; omega
    clear h2k
    go_wp2_with (fail)
    refine (dkAlive w2).mono ?_
    rintro e w3 ⟨rfl, hb3⟩
    have HB3 : Hid (Below w.heap.size w w3) := Lib.hid (HB2.out.trans (hb3.mono HB2.out.size))
    clear hb3
    go_wp2_with (fail)
    go_ret
    exact ⟨rfl, HB3.out⟩
  have d1 : decide ((2000 : Int) < (n : Int)) = false := by simp; omega
  have HN : Hid (n ≤ 2000) := Lib.hid (by omega)
  clear h2k
  have HBS2 := Lib.hid (HBS.out.below HB2.out)
  have tok1 : Hid True := Lib.hid trivial
  obtain ⟨s2, hs2⟩ : ∃ s2, s2 = w2.heap.size := ⟨_, rfl⟩
  have HS2 := Lib.hid hs2
  go_wp2_with (at_builtin; have _t := tok1; go_loud ((refine wpList_appL rfl (.tmp 36) (.tmp 37) rfl w2.heap.size (.slice (some ⟨w2.heap.size, 0, none⟩) 0 0) [] rfl (Own.lit 5 w2 [] (Nat.le_refl _) (by simp [maxLen])) A n cp l rfl (HBS2.out.alloc _) (by have := HN.out; rw [List.length_nil]; omega) (by simp) ?_; intro v3 w3 hown3 hgr3 hfr3; rw [List.nil_append] at hown3; have HOWN3 := Lib.hid hown3; have HB3 : Hid (Below w2.heap.size w2 w3) := Lib.hid (((Below.refl _ _).alloc (Nat.le_refl _) _).grown hgr3 (by simp) (fun k hk => by simp [Value.ownBlock] at hk; omega)); clear tok1 hown3 hgr3 hfr3 _t)))
  obtain ⟨A3, c3, hv⟩ := own_form (show w3.ownsRow w2.heap.size 5 1 v3 l.length (u8s l) from HOWN3.out)
  subst hv
  rw [hlen] at HOWN3 ⊢
  have HBW3 : Hid (Below w.heap.size w w3) := Lib.hid (HB2.out.trans (HB3.out.mono HB2.out.size))
  have H3 := Lib.hid (H2.out.below HB3.out)
  obtain ⟨A3', c3', hv', HBS3, _⟩ := Own.bs HOWN3.out
  rw [hlen] at hv' HBS3
  obtain ⟨rfl, rfl⟩ : A3 = A3' ∧ c3 = c3' := by injection hv' with h1 h2 h3; exact ⟨h1, h3⟩
  have HLT : Hid (D < w2.heap.size ∧ M < w2.heap.size) := Lib.hid ⟨H2.out.lt, H2.out.map.lt⟩
  have HG : Hid (∀ k, (Value.slice A3 n c3).ownBlock = some k → w2.heap.size ≤ k ∧ k < w3.heap.size) := Lib.hid (fun k hk => World.ownsRow.lt HOWN3.out k hk)
  clear hs2 hv'
  refine (dkAppend_ok H3.out (dMax_ok 0 0 (by decide) (by decide)) lensNil nmF nameF (by decide) A3 n c3 l HBS3 HBW3.out.size (by decide)).mono ?_
  rintro e w4 ⟨rfl, F4, h4, hc4, hf4⟩
  have HAN : Hid (appN (dMax 0 0) n = n) := Lib.hid (by unfold appN; have := HN.out; simp only; omega)
  rw [HAN.out] at h4 hf4 ⊢
  rw [if_neg (Nat.lt_irrefl n)]
  obtain ⟨g, v, rfl⟩ := fsOf_one (n := nmF) (f := ⟨l, 0⟩) (by rw [hf4, List.take_of_length_le (by omega)]; rfl)
  have h4' : DkAt w4 w.heap.size D M (dMax (n : Int) 1) [⟨nmF, g, v, ⟨l, 0⟩⟩] := by
    have e : ({ (dMax 0 0).begin with used := (dMax 0 0).used + (n : Int) } : Dk) = dMax (n : Int) 1 := by simp [Dk.begin, dMax]
    rw [e] at h4
    exact h4
  have HB4 : Hid (Below w.heap.size w w4) := Lib.hid (HBW3.out.trans (DkCh.below H3.out hc4 HBW3.out.size))
  have H4 := Lib.hid h4'
  have HFT : Hid (∀ k, DFoot D M [⟨nmF, g, v, ⟨l, 0⟩⟩] k → k < w2.heap.size ∨ w3.heap.size ≤ k) := Lib.hid (fun k hk => by
    rcases hk with rfl | rfl | hk
    · exact .inl HLT.out.1
    · exact .inl HLT.out.2
    · rcases hc4.foot k hk with ⟨e, he, _⟩ | h
      · cases he
      · exact .inr h)
  have HOWN4 : Hid (Own 5 w4 w2.heap.size (.slice A3 n c3) l) := Lib.hid (HOWN3.out.ch hc4.ch (fun k hk hs => by
    have h5 := HG.out k hk
    rcases hs with rfl | rfl | ⟨e, he, _⟩
    · have := HLT.out.1; omega
    · have := HLT.out.2; omega
    · cases he))
  clear h4 h4' hc4 hf4 HOWN3 HBS3 H3 HLT
  have HZ : Hid (w.heap.size ≤ w2.heap.size) := Lib.hid HB2.out.size
  generalize w2.heap.size = z2 at *
  generalize w3.heap.size = z3 at *
  have horr := or_u8 cy
  generalize (cy ||| 1) = c1 at *
  go_wp2_with (fail)
  go_loopw [47, 10] (fun i _ wr => ∃ (k : Nat) (l' : List UInt8), k ≤ n ∧ i = .int .i64 k ∧ l'.length = n ∧ Own 5 wr z2 (.slice A3 n c3) l' ∧ DkAt wr w.heap.size D M (dMax (n : Int) 1) [⟨nmF, g, v, ⟨l, 0⟩⟩] ∧ Below w.heap.size w wr) (fun i _ _ => n - (intOf i).toNat)
  case atStart => exact ⟨0, l, Nat.zero_le _, rfl, hlen, HOWN4.out, H4.out, HB4.out⟩
  case round =>
    clear HOWN4 H4 HB4
    obtain ⟨k, l', hk, rfl, hl', ho, hd, hb⟩ := hrel
    have HO := Lib.hid ho
    have HD := Lib.hid hd
    have HB := Lib.hid hb
    clear ho hd hb
    by_cases hlt : k < n
    · obtain ⟨g3, rfl, _⟩ := Own.at_pos HO.out (by omega)
      have e1 : (k : Int) < (n : Int) := by omega
      have HO2 : Hid (Own 5 wr z2 (.slice (some ⟨g3, 0, none⟩) l'.length c3) l') := Lib.hid (by rw [hl']; exact HO.out)
      have hcj : wr.cell? ⟨g3, k, none⟩ = some (.int .u8 ((l'.getD k 0).toNat : Int)) := by
        have h1 := HO2.out.cell (j := k) (x := l'.getD k 0) (by rw [List.getD_eq_getElem?_getD, List.getElem?_eq_getElem (by omega)]; rfl)
        exact h1
      have hfz := HO2.out.frozen k
      have hxx := xor_u8 (l'.getD k 0) c1
      have HNX : Hid (Own 5 (wr.setCell ⟨g3, k, none⟩ (.int .u8 ((l'.getD k 0 ^^^ c1).toNat : Int))) z2 (.slice (some ⟨g3, 0, none⟩) n c3) (l'.set k (l'.getD k 0 ^^^ c1))) := Lib.hid (by
        have := HO2.out.store k (l'.getD k 0 ^^^ c1)
        rw [hl'] at this
        exact this)
      have hg3 := HG.out g3 rfl
      have HDX : Hid (DkAt (wr.setCell ⟨g3, k, none⟩ (.int .u8 ((l'.getD k 0 ^^^ c1).toNat : Int))) w.heap.size D M (dMax (n : Int) 1) [⟨nmF, g, v, ⟨l, 0⟩⟩]) := Lib.hid (HD.out.ch ((Ch.refl (fun j => j = g3) wr).set (a := ⟨g3, k, none⟩) rfl _) (fun j hj hs => by
        subst hs
        have := HFT.out _ hj
        omega))
      have HBX : Hid (Below w.heap.size w (wr.setCell ⟨g3, k, none⟩ (.int .u8 ((l'.getD k 0 ^^^ c1).toNat : Int)))) := Lib.hid (HB.out.setCell (p := ⟨g3, k, none⟩) (by have := HZ.out; simp only; omega) _)
      generalize hy : l'.getD k 0 = y at *
      generalize hz : y ^^^ c1 = z at *
      have HLZ : Hid ((l'.set k z).length = n) := Lib.hid (by rw [List.length_set]; exact hl')
      clear hg3 hy hz hl'
      go_wp2_with (fail)
      exact ⟨⟨k + 1, l'.set k z, by omega, by go_num, HLZ.out, HNX.out, HDX.out, HBX.out⟩, by simp [intOf]; omega⟩
    · obtain rfl : k = n := by omega
      clear hlt
      obtain ⟨w5, rfl⟩ : ∃ w5 : World, w5 = wr := ⟨_, rfl⟩
      have HOK5 := Lib.hid (dMax_ok (k : Int) 1 (by have := HN.out; omega) (by decide))
      have HL5 : Hid (FileLens [⟨nmF, g, v, ⟨l, 0⟩⟩]) := Lib.hid (fun e he => by obtain rfl := List.mem_singleton.1 he; have := HN.out; simp only; omega)
      have HGT : Hid (fget (fsOf [⟨nmF, g, v, ⟨l, 0⟩⟩]) nmF = some ⟨l, 0⟩) := Lib.hid (by simp [fget])
      have HLM : Hid (l.length ≤ maxLen) := Lib.hid (by have := HN.out; unfold maxLen; omega)
      go_wp2_with (fail)
      refine (dkRead_some HD.out HL5.out nmF ⟨l, 0⟩ HGT.out).mono ?_
      rintro e w6 ⟨g6, rfl, hg6, hr6, hb6⟩
      have HO6 : Hid (Own 5 w6 w5.heap.size (.slice (some ⟨g6, 0, none⟩) k k) l) := Lib.hid (by have := Own.block hr6 hg6 HLM.out; rw [hlen] at this; exact this)
      have HG6 : Hid (w5.heap.size ≤ g6) := Lib.hid hg6
      have HD6 := Lib.hid (HD.out.below hb6)
      have HB6 : Hid (Below w.heap.size w w6) := Lib.hid (HB.out.trans (hb6.mono HB.out.size))
      have HZ6 : Hid (w.heap.size ≤ w5.heap.size) := Lib.hid HB.out.size
      have HF6 : Hid (∀ j, DFoot D M [⟨nmF, g, v, ⟨l, 0⟩⟩] j → j < w5.heap.size) := Lib.hid (fun j hj => (HD.out.foot_lt hj).2)
      simp only [hlen]
      clear hg6 hr6 hb6 HO HD HB HFT HG HBS2 hl'
      generalize w5.heap.size = z5 at *
      go_wp2_with (fail)
      go_loopw [66, 13] (fun i _ wr => ∃ (q : Nat) (l' : List UInt8), q ≤ k ∧ i = .int .i64 q ∧ l'.length = k ∧ Own 5 wr z5 (.slice (some ⟨g6, 0, none⟩) k k) l' ∧ DkAt wr w.heap.size D M (dMax (k : Int) 1) [⟨nmF, g, v, ⟨l, 0⟩⟩] ∧ Below w.heap.size w wr) (fun i _ _ => k - (intOf i).toNat)
      case atStart => exact ⟨0, l, Nat.zero_le _, rfl, hlen, HO6.out, HD6.out, HB6.out⟩
      case round =>
        clear HO6 HD6 HB6
        obtain ⟨q, l', hq, rfl, hl', ho, hd, hb⟩ := hrel
        have HO := Lib.hid ho
        have HD := Lib.hid hd
        have HB := Lib.hid hb
        clear ho hd hb
        by_cases hlt : q < k
        · have e1 : (q : Int) < (k : Int) := by omega
          have HO2 : Hid (Own 5 wr z5 (.slice (some ⟨g6, 0, none⟩) l'.length k) l') := Lib.hid (by rw [hl']; exact HO.out)
          have hcj : wr.cell? ⟨g6, q, none⟩ = some (.int .u8 ((l'.getD q 0).toNat : Int)) := by
            have h1 := HO2.out.cell (j := q) (x := l'.getD q 0) (by rw [List.getD_eq_getElem?_getD, List.getElem?_eq_getElem (by omega)]; rfl)
            exact h1
          have hfz := HO2.out.frozen q
          have hxx := xor_u8 (l'.getD q 0) c1
          have HNX : Hid (Own 5 (wr.setCell ⟨g6, q, none⟩ (.int .u8 ((l'.getD q 0 ^^^ c1).toNat : Int))) z5 (.slice (some ⟨g6, 0, none⟩) k k) (l'.set q (l'.getD q 0 ^^^ c1))) := Lib.hid (by
            have := HO2.out.store q (l'.getD q 0 ^^^ c1)
            rw [hl'] at this
            exact this)
          have hg3 := HG6.out
          have HDX : Hid (DkAt (wr.setCell ⟨g6, q, none⟩ (.int .u8 ((l'.getD q 0 ^^^ c1).toNat : Int))) w.heap.size D M (dMax (k : Int) 1) [⟨nmF, g, v, ⟨l, 0⟩⟩]) := Lib.hid (HD.out.ch ((Ch.refl (fun j => j = g6) wr).set (a := ⟨g6, q, none⟩) rfl _) (fun j hj hs => by
            subst hs
            have := HF6.out _ hj
            omega))
          have HBX : Hid (Below w.heap.size w (wr.setCell ⟨g6, q, none⟩ (.int .u8 ((l'.getD q 0 ^^^ c1).toNat : Int)))) := Lib.hid (HB.out.setCell (p := ⟨g6, q, none⟩) (by have := HZ6.out; simp only; omega) _)
          generalize hy : l'.getD q 0 = y at *
          generalize hz : y ^^^ c1 = z at *
          have HLZ : Hid ((l'.set q z).length = k) := Lib.hid (by rw [List.length_set]; exact hl')
          clear hg3 hy hz hl'
          go_wp2_with (fail)
          exact ⟨⟨q + 1, l'.set q z, by omega, by go_num, HLZ.out, HNX.out, HDX.out, HBX.out⟩, by simp [intOf]; omega⟩
        · obtain rfl : q = k := by omega
          clear hlt
          go_wp2_with (fail)
          refine (dkRead_some HD.out HL5.out nmF ⟨l, 0⟩ HGT.out).mono ?_
          rintro e w7 ⟨g7, rfl, hg7, hr7, hb7⟩
          have HB7 : Hid (Below w.heap.size w w7) := Lib.hid (HB.out.trans (hb7.mono HB.out.size))
          have hcv := (Bs.block hr7 (n := q) hlen (by have := HN.out; unfold maxLen; omega)).str (P := Try.prog) 26 5 9 Try.underlying26 Try.underlying5 Try.underlying9
          have hcw := (HBS.out.below HB7.out).str (P := Try.prog) 26 5 9 Try.underlying26 Try.underlying5 Try.underlying9
          simp only [hlen]
          clear hg7 hr7 hb7
          go_wp2_with (fail)
          go_ret
          exact ⟨rfl, HB7.out⟩
end Go.Proofs.Ytecmadodpkfnnab
