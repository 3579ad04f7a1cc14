/- The law EntryTurns, walked. -/
import Derived.Test.YtamjcihhilmppaaEntryTurnsMath
namespace Go.Proofs.Ytamjcihhilmppaa
open Go.RowKit

theorem min500 (n k : Nat) : ∃ m : Nat, m ≤ n ∧ m ≤ k ∧ (m = 0 → n = 0 ∨ k = 0) ∧ min (n : Int) (k : Int) = (m : Int) := ⟨min n k, by omega, by omega, by omega, by omega⟩

set_option maxRecDepth 100000 in
set_option maxHeartbeats 1000000 in
theorem entryTurns_zero (A : Option Addr) (n c : Nat) (l : List UInt8) (B : Option Addr) (n2 c2 : Nat) (at_ : Int) (w : World) (hA : Bs w A n c l) (h0 : n = 0) :
    Calls Try.prog 11 #[.slice A n c, .slice B n2 c2, .int .i64 at_] w (True_ w) := by
  have hm : min (n : Int) 500 = 0 := by omega
  have hA1 := hA.nmax
  have hle := hA.le
  clear hA
  go_enter Try.func11, Try.ntmps11
  go_wp2_with (fail)
  refine (entryPut_no A 0 c w (by decide)).mono ?_
  rintro e w1 ⟨A1, c1, rfl, hB1, hb1⟩
  have HB1 := Lib.hid hb1
  simp only [List.length_nil]
  clear hB1 hb1
  go_wp2_with (fail)
  refine (entryAlive w1).mono ?_
  rintro e w2 ⟨rfl, hb2⟩
  have HB2 := Lib.hid (HB1.out.trans (hb2.mono HB1.out.size))
  clear hb2
  go_wp2
  go_ret
  exact ⟨rfl, HB2.out⟩

set_option maxRecDepth 100000 in
set_option maxHeartbeats 1000000 in
theorem entryTurns_long (A : Option Addr) (n c : Nat) (l : List UInt8) (B : Option Addr) (n2 c2 : Nat) (at_ : Int) (w : World) (hA : Bs w A n c l) (h0 : 0 < n) (h2 : 500 < n2) :
    Calls Try.prog 11 #[.slice A n c, .slice B n2 c2, .int .i64 at_] w (True_ w) := by
  obtain ⟨m, m1, m2, m3, hm⟩ := min500 n 500
  have hm' : min (n : Int) 500 = (m : Int) := hm
  have hA1 := hA.nmax
  have hle := hA.le
  have HX := Lib.hid (hA.take m1)
  have hok : okLen m = true := by simp [okLen]; omega
  have HOK := Lib.hid hok
  clear hA hm m3 hok
  go_enter Try.func11, Try.ntmps11
  go_wp2_with (fail)
  refine (entryPut_yes A m c _ w HX.out HOK.out).mono ?_
  rintro e w1 ⟨A1, c1, rfl, hB1, hb1⟩
  have HB1 := Lib.hid hb1
  clear hB1 hb1
  generalize (record (l.take m)).length = k
  go_wp2_with (fail)
  refine (entryAlive w1).mono ?_
  rintro e w2 ⟨rfl, hb2⟩
  have HB2 := Lib.hid (HB1.out.trans (hb2.mono HB1.out.size))
  clear hb2
  go_wp2
  go_ret
  exact ⟨rfl, HB2.out⟩

set_option maxRecDepth 100000 in
set_option maxHeartbeats 4000000 in
theorem entryTurns_main (A : Option Addr) (n c : Nat) (l : List UInt8) (B : Option Addr) (n2 c2 : Nat) (l2 : List UInt8) (at_ : Int) (w : World) (hA : Bs w A n c l) (hB : Bs w B n2 c2 l2) (h0 : 0 < n) (h2 : n2 ≤ 500) :
    Calls Try.prog 11 #[.slice A n c, .slice B n2 c2, .int .i64 at_] w (True_ w) := by
  obtain ⟨m, m1, m2, m3, hm⟩ := min500 n 500
  have hm' : min (n : Int) 500 = (m : Int) := hm
  have hA1 := hA.nmax
  have hle := hA.le
  have hok : okLen m = true := by simp [okLen]; omega
  have HX := Lib.hid (hA.take m1)
  have HOK := Lib.hid hok
  have HBB := Lib.hid hB
  clear hA hm m3 hok hB
  generalize l.take m = X at *
  have HXL := Lib.hid HX.out.len
  have HR := Lib.hid (get_record X l2 (by rw [HXL.out]; exact HOK.out))
  have HRL : Hid ((record X).length = m + 8) := Lib.hid (by rw [record_length, HXL.out]; omega)
  have HT := Lib.hid (fun q r x => get_turned X l2 (by rw [HXL.out]; exact HOK.out) q r x)
  rw [HXL.out, show 8 + m = m + 8 from by omega] at HR HT
  have tok1 : True := trivial
  have tok2 : True := trivial
  have tok3 : True := trivial
  have tok4 : True := trivial
  obtain ⟨K, hK, eK⟩ := bits_index at_ (8 * (m + 4)) (by omega) (by omega)
  rw [show ((8 * (m + 4) : Nat) : Int) = 8 * ((m : Int) + 8 - 4) from by omega] at eK
  have HK := Lib.hid eK
  clear eK
  go_enter Try.func11, Try.ntmps11
  go_wp2_with (fail)
  refine (entryPut_yes A m c X w HX.out HOK.out).mono ?_
  rintro e w1 ⟨A1, c1, rfl, hB1, hb1⟩
  rw [HRL.out] at hB1 ⊢
  have HRec := Lib.hid hB1
  have HB1 := Lib.hid hb1
  have hz1 := hb1.size
  have HBB1 := Lib.hid (HBB.out.below hb1)
  clear hB1 hb1
  generalize record X = rec at *
  go_wp2_with (first
    | (at_builtin; have _t := tok1; go_loud ((refine wpList_app rfl (.tmp 45) (.tmp 46) 22 rfl w1.heap.size 5 Try.underlying22 byteInfo _ [] rfl (Own.lit 5 w1 [] (Nat.le_refl _) (by simp [maxLen])) _ (m + 8) c1 rec rfl (HRec.out.alloc _) (by simp; omega) (by simp) ?_; intro v2 w2 hown2 hb2 hg2; have b2 := (((Below.refl _ w1).alloc (Nat.le_refl _) _)).trans hb2; clear tok1 hb2 hg2 _t)))
    | (at_builtin; have _t := tok2; go_loud ((refine wpList_app rfl (.tmp 47) (.tmp 48) 22 rfl w1.heap.size 5 Try.underlying22 byteInfo _ ([] ++ rec) rfl hown2 _ n2 c2 l2 rfl (HBB1.out.below b2) (by simp [HRL.out]; omega) b2.size ?_; intro v3 w3 hown3 hb3 hg3; have b3 := b2.trans hb3; clear tok2 hb3 hg3 _t))))
  generalize hY : [] ++ rec ++ l2 = Y at hown3
  obtain rfl : rec ++ l2 = Y := by rw [← hY]; rfl
  clear hY
  have hyl : (rec ++ l2).length = m + 8 + n2 := by rw [List.length_append, HRL.out, HBB.out.len]
  obtain ⟨A3, c3, rfl, hB3, _⟩ := hown3.bs
  rw [hyl] at hB3 ⊢
  have B3 := Lib.hid (HB1.out.trans (b3.mono hz1))
  have HRec3 := Lib.hid (HRec.out.below b3)
  have HYL := Lib.hid hyl
  have X3 := Lib.hid hB3
  clear hB3 hown3 b3 b2 hown2 hyl
  have hz3 := B3.out.size
  refine (entryGet _ _ _ (rec ++ l2) w3 X3.out (by omega)).mono ?_
  rw [HR.out.1, HR.out.2.1, HR.out.2.2]
  rintro e w4 ⟨A4, c4, rfl, hB4, hb4⟩
  have B4 := Lib.hid (B3.out.trans (hb4.mono hz3))
  have HRec4 := Lib.hid (HRec3.out.below hb4)
  have HBB4 := Lib.hid (HBB.out.below B4.out)
  have hz4 := B4.out.size
  have cv1 := hB4.str1
  have cv2 := (HX.out.below B4.out).str1
  rw [HXL.out] at cv1 ⊢
  clear hB4 hb4
  rw [show ((m + 8 : Nat) : Int) = (m : Int) + 8 from by omega]
  go_wp2_with (first
    | (at_builtin; have _t := tok3; go_loud ((refine wpList_app rfl (.tmp 79) (.tmp 80) 22 rfl w4.heap.size 5 Try.underlying22 byteInfo _ [] rfl (Own.lit 5 w4 [] (Nat.le_refl _) (by simp [maxLen])) _ (m + 8) c1 rec rfl (HRec4.out.alloc _) (by simp; omega) (by simp) ?_; intro v5 w5 hown5 hb5 hg5; have b5 := (((Below.refl _ w4).alloc (Nat.le_refl _) _)).trans hb5; clear tok3 hb5 hg5 _t)))
    | (at_builtin; have _t := tok4; go_loud ((refine wpList_app rfl (.tmp 81) (.tmp 82) 22 rfl w4.heap.size 5 Try.underlying22 byteInfo _ ([] ++ rec) rfl hown5 _ n2 c2 l2 rfl (HBB4.out.below b5) (by simp [HRL.out]; omega) b5.size ?_; intro v6 w6 hown6 hb6 hg6; have b6 := b5.trans hb6; clear tok4 hb6 hg6 _t))))
  generalize hY : [] ++ rec ++ l2 = Y at hown6
  obtain rfl : rec ++ l2 = Y := by rw [← hY]; rfl
  clear hY
  rw [HK.out, IntWalk.wrap64_in (32 + (K : Int)) (by omega)]
  obtain ⟨g7, c7, hv, hg7, hg7'⟩ := hown6.form (by rw [HYL.out]; omega)
  subst hv
  rw [HYL.out]
  obtain ⟨q, r, hqr, hr8⟩ : ∃ q r, 8 * q + r = 32 + K ∧ r < 8 := ⟨(32 + K) / 8, (32 + K) % 8, by omega, by omega⟩
  have hq4 : 4 ≤ q := by omega
  have hqm : q < m + 8 := by omega
  have hq : q < (rec ++ l2).length := by rw [HYL.out]; omega
  have HX7 := Lib.hid (List.getElem?_eq_getElem hq)
  have hcell := hown6.cell (List.getElem?_eq_getElem hq)
  have hfr := hown6.frozen q
  generalize (rec ++ l2)[q] = x at *
  have e0' := xor_bit x r hr8
  obtain ⟨y, hy⟩ : ∃ y, y = x ^^^ UInt8.ofNat (2 ^ r) := ⟨_, rfl⟩
  rw [← hy] at e0'
  have HT7 := Lib.hid (HT.out q r x HX7.out hr8 hq4 hqm)
  rw [← hy] at HT7
  have e1 : (32 + (K : Int)) / 8 = (q : Int) := by omega
  have e2 : (32 + (K : Int)) % 8 = (r : Int) := by omega
  have e3 : (q : Int) < ((m + 8 + n2 : Nat) : Int) := by omega
  have e3' : (q : Int) < (m : Int) + 8 + (n2 : Int) := by omega
  have HO7 := Lib.hid hown6
  have HB7 := Lib.hid b6
  have hz7 := b6.size
  clear hown6 b6 b5 hown5 hqr hq hy hq4 hqm
  go_region
  have hset := HO7.out.store q y
  have hb8 : Below w4.heap.size w4 ((w6.setCell ⟨g7, q, none⟩ (.int .u8 (y.toNat : Int))).drew) := (HB7.out.setCell (by omega) _).drew
  have hset2 : Bs ((w6.setCell ⟨g7, q, none⟩ (.int .u8 (y.toNat : Int))).drew) (some ⟨g7, 0, none⟩) (m + 8 + n2) c7 ((rec ++ l2).set q y) := by
    obtain ⟨A', c', e, hb', _⟩ := hset.bs
    injection e with e1 e2 e3
    subst e1 e3
    rw [List.length_set, HYL.out] at hb'
    exact hb'.drew
  have hbW := Lib.hid (B4.out.trans (hb8.mono hz4))
  have HS8 := Lib.hid hset2
  clear hset hset2 hb8
  generalize (w6.setCell ⟨g7, q, none⟩ (.int .u8 (y.toNat : Int))).drew = w8 at *
  have hz8 := hbW.out.size
  have HE := Lib.hid (get_err HT7.out (by omega))
  go_wp2_with (fail)
  refine (entryGet _ _ _ _ w8 HS8.out (by omega)).mono ?_
  rw [HE.out.1, HE.out.2, HT7.out]
  rintro e w9 ⟨A9, c9, rfl, hB9, hb9⟩
  have B9 := Lib.hid (hbW.out.trans (hb9.mono hz8))
  have hz9 := B9.out.size
  simp only [List.length_nil]
  clear hB9 hb9
  go_wp2_with (fail)
  refine (entryAlive w9).mono ?_
  rintro e w10 ⟨rfl, hb10⟩
  have B10 := Lib.hid (B9.out.trans (hb10.mono hz9))
  clear hb10
  go_wp2
  go_ret
  exact ⟨rfl, B10.out⟩

theorem entryTurns_walk (A : Option Addr) (n c : Nat) (l : List UInt8) (B : Option Addr) (n2 c2 : Nat) (l2 : List UInt8) (at_ : Int) (w : World) (hA : Bs w A n c l) (_hR : c ≤ 140737488351232) (hB : Bs w B n2 c2 l2) (_hR2 : c2 ≤ 140737488351232) (_hat : (Lit.int .i64 at_).wf = true) :
    Calls Try.prog 11 #[.slice A n c, .slice B n2 c2, .int .i64 at_] w (True_ w) := by
  by_cases h0 : n = 0
  · exact entryTurns_zero A n c l B n2 c2 at_ w hA h0
  · by_cases h2 : 500 < n2
    · exact entryTurns_long A n c l B n2 c2 at_ w hA (by omega) h2
    · exact entryTurns_main A n c l B n2 c2 l2 at_ w hA hB (by omega) (by omega)
end Go.Proofs.Ytamjcihhilmppaa
