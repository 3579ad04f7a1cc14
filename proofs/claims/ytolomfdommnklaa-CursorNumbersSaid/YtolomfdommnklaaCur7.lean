/- Layer 15: the document's numbers, walked. -/
import Derived.Test.YtolomfdommnklaaCur6
import Derived.Test.YtolomfdommnklaaCrcRef2
namespace Go.Proofs.Ytolomfdommnklaa
open Go.RowKit Go.MapKept

theorem be8_next (N k : Nat) (hk : k < 8) : (be8 N).drop (7 - k) = UInt8.ofNat (N / 256 ^ k) :: (be8 N).drop (8 - k) := by
  have h : k = 0 ∨ k = 1 ∨ k = 2 ∨ k = 3 ∨ k = 4 ∨ k = 5 ∨ k = 6 ∨ k = 7 := by omega
  rcases h with rfl | rfl | rfl | rfl | rfl | rfl | rfl | rfl <;> simp [be8]
set_option maxHeartbeats 4000000 in
set_option maxRecDepth 100000 in
theorem refBytes15 (N : Nat) (hN : N ≤ 1099511627776) (w : World) : Calls Try.prog 14 #[.int .i64 (N : Int)] w (RetS (bytesD N) w) := by
  have HN := Lib.hid hN
  clear hN
  go_enter Try.func14, Try.ntmps14
  go_wp2_with (fail)
  go_loopw [4, 3, 0] (fun i o n wr => ∃ (k : Nat) (A : Option Addr) (c : Nat), k ≤ 8 ∧ i = .int .i64 k ∧ o = .slice A k c ∧ n = .int .i64 ((N / 256 ^ k : Nat) : Int) ∧ Bs wr A k c ((be8 N).drop (8 - k)) ∧ Below w.heap.size w wr) (fun i _ _ _ => 8 - (intOf i).toNat)
  case atStart => exact ⟨0, none, 0, by omega, rfl, rfl, by simp, Bs.none_ _, Below.refl _ _⟩
  case round =>
    obtain ⟨wo, rfl⟩ : ∃ wo : World, wo = wr := ⟨_, rfl⟩
    obtain ⟨k, A, c, hk, rfl, rfl, rfl, hbs, hb⟩ := hrel
    have HBS := Lib.hid hbs
    have HB := Lib.hid hb
    clear hbs hb
    by_cases h8 : k < 8
    · have HX := Lib.hid (be8_next N k h8)
      obtain ⟨n, hn⟩ : ∃ n, n = N / 256 ^ k := ⟨_, rfl⟩
      have HQ : Hid (N / 256 ^ (k + 1) = n / 256) := Lib.hid (by rw [hn, Nat.pow_succ, Nat.div_div_eq_div_mul])
      have hn2 : n ≤ 1099511627776 := by rw [hn]; exact Nat.le_trans (Nat.div_le_self _ _) HN.out
      rw [← hn] at HX ⊢
      have HL : Hid (IntKind.u8.wrap ((n : Int).tmod 256) = ((UInt8.ofNat n).toNat : Int)) := Lib.hid (by
        rw [Int.tmod_eq_emod_of_nonneg (by omega), IntKind.wrap_u8', u8_cast]; omega)
      have HT : Hid ((n : Int).tdiv 256 = ((n / 256 : Nat) : Int)) := Lib.hid (by rw [Int.tdiv_eq_ediv_of_nonneg (by omega)]; omega)
      have HN2 : Hid (n ≤ 1099511627776) := Lib.hid hn2
      have t1 := HL.out
      have t2 := HT.out
      have t3 : wrap64 ((n / 256 : Nat) : Int) = ((n / 256 : Nat) : Int) := IntWalk.wrap64_in _ (by omega)
      have tok1 : Hid True := Lib.hid trivial
      clear hn hn2
      go_wp2_with (at_builtin; have _t := tok1; go_loud ((refine wpList_app rfl (.tmp 12) (.tmp 13) 22 rfl w.heap.size 5 Try.underlying22 byteInfo _ [UInt8.ofNat n] rfl (by first | exact Own.lit 5 wo [UInt8.ofNat n] HB.out.size (by simp [maxLen]) | exact (t1 ▸ Own.lit 5 wo [UInt8.ofNat n] HB.out.size (by simp [maxLen]))) A k c ((be8 N).drop (8 - k)) rfl (HBS.out.alloc _) (by simp; omega) (by have := HB.out.size; simp; omega) ?_; intro v2 w2 hown2 hb2 hg2; have HO2 := Lib.hid hown2; have HB2 : Hid (Below w.heap.size w w2) := Lib.hid ((HB.out.alloc HB.out.size _).trans hb2); clear tok1 hown2 hb2 hg2 _t)))
      obtain ⟨A3, c3, e3, hb3, _⟩ := HO2.out.bs
      have hl : ([UInt8.ofNat n] ++ (be8 N).drop (8 - k)).length = k + 1 := by simp [be8]; omega
      rw [hl] at e3 hb3
      rw [show [UInt8.ofNat n] ++ (be8 N).drop (8 - k) = (be8 N).drop (8 - (k + 1)) from by rw [show 8 - (k + 1) = 7 - k by omega]; exact HX.out.symm] at hb3
      refine ⟨⟨k + 1, A3, c3, by omega, by go_num, e3, ?_, hb3, HB2.out⟩, by simp [intOf]; omega⟩
      have hn3 := HN2.out
      rw [HQ.out, show (n : Int) / 256 = ((n / 256 : Nat) : Int) from by omega, IntWalk.wrap64_in _ (by omega)]
    · obtain rfl : k = 8 := by omega
      clear h8
      go_wp2_with (fail)
      refine (refSeal A 8 c (be8 N) wo HBS.out (by decide)).mono ?_
      rintro e w2 ⟨A2, c2, rfl, hB2, hb2⟩
      have HP : Hid (RetS (bytesD N) w (.returned (.slice A2 (be8 N ++ be4 (Crc.sum 0 (be8 N))).length c2)) w2) := Lib.hid ⟨A2, c2, rfl, hB2, HB.out.trans (hb2.mono HB.out.size)⟩
      clear hB2 hb2
      go_wp2_with (fail)
      go_ret
      exact HP.out
theorem valD8 (y0 y1 y2 y3 y4 y5 y6 y7 : UInt8) : (1099511627776 < valD [y0, y1, y2, y3, y4, y5, y6, y7]) ∨ (y0 = 0 ∧ y1 = 0 ∧ y2.toNat ≤ 1) := by
  have k0 := y0.toNat_lt; have k1 := y1.toNat_lt; have k2 := y2.toNat_lt; have k3 := y3.toNat_lt
  have k4 := y4.toNat_lt; have k5 := y5.toNat_lt; have k6 := y6.toNat_lt; have k7 := y7.toNat_lt
  simp only [valD, List.foldl_cons, List.foldl_nil, ← UInt8.toNat_inj, UInt8.toNat_zero]
  omega
theorem len8 {l : List UInt8} (h : l.length = 8) : ∃ y0 y1 y2 y3 y4 y5 y6 y7, l = [y0, y1, y2, y3, y4, y5, y6, y7] := by
  rcases l with _ | ⟨a, _ | ⟨b, _ | ⟨c, _ | ⟨d, _ | ⟨e, _ | ⟨f, _ | ⟨g, _ | ⟨i, _ | ⟨j, r⟩⟩⟩⟩⟩⟩⟩⟩⟩ <;> simp at h
  exact ⟨a, b, c, d, e, f, g, i, rfl⟩
set_option maxHeartbeats 4000000 in
set_option maxRecDepth 100000 in
theorem refNumber15 (A : Option Addr) (n c : Nat) (l : List UInt8) (w : World) (hB : Bs w A n c l) : Calls Try.prog 11 #[.slice A n c] w fun e w' => e = .returned (.tuple #[.int .i64 (numD l).1, .int .i64 (numD l).2]) ∧ Below w.heap.size w w' := by
  have hlen := hB.len
  have HB := Lib.hid hB
  have HND : Hid (numD l = if l.length ≠ 12 then (0, 7) else if openOk l = false then (0, 8) else if 1099511627776 < valD (openGet l) then (0, 3) else ((valD (openGet l) : Int), 0)) := Lib.hid rfl
  clear hB
  go_enter Try.func11, Try.ntmps11
  by_cases h12 : n = 12
  · subst h12
    go_wp2_with (fail)
    refine (refOpen A 12 c l w HB.out).mono ?_
    rintro e w1 ⟨A1, c1, rfl, hB1, hb1⟩
    have HB1 := Lib.hid hb1
    have HBS := Lib.hid hB1
    clear hb1 hB1
    cases hok : openOk l
    · go_wp2_with (fail)
      go_ret2
      rw [HND.out, if_neg (by omega), if_pos hok]
      exact ⟨rfl, HB1.out⟩
    · have hl8 := openGet_len hok hlen
      obtain ⟨y0, y1, y2, y3, y4, y5, y6, y7, hy⟩ := len8 hl8
      have HND2 : Hid (numD l = if 1099511627776 < valD [y0, y1, y2, y3, y4, y5, y6, y7] then (0, 3) else ((valD [y0, y1, y2, y3, y4, y5, y6, y7] : Int), 0)) := Lib.hid (by rw [HND.out, if_neg (by omega), if_neg (by rw [hok]; decide), hy])
      rw [hl8] at HBS ⊢
      rw [hy] at HBS
      obtain ⟨b, o, rfl, _, hcell⟩ := HBS.out.at_ (by decide)
      have c0 : w1.cell? ⟨b, o, none⟩ = some (.int .u8 (y0.toNat : Int)) := hcell 0 y0 rfl
      have c1' : w1.cell? ⟨b, o + 1, none⟩ = some (.int .u8 (y1.toNat : Int)) := hcell 1 y1 rfl
      have c2' : w1.cell? ⟨b, o + 2, none⟩ = some (.int .u8 (y2.toNat : Int)) := hcell 2 y2 rfl
      have HC := Lib.hid hcell
      clear hcell hok hy hl8
      by_cases hz : y0 = 0 ∧ y1 = 0 ∧ y2.toNat ≤ 1
      · obtain ⟨rfl, rfl, hy2⟩ := hz
        rw [show ((0 : UInt8).toNat : Int) = 0 from rfl] at c0
        rw [show ((0 : UInt8).toNat : Int) = 0 from rfl] at c1'
        have g2 : decide ((1 : Int) < (y2.toNat : Int)) = false := by simp; omega
        have g2' : ¬ ((1 : Int) < (y2.toNat : Int)) := by omega
        obtain ⟨L, hL⟩ : ∃ L, L = [0, 0, y2, y3, y4, y5, y6, y7] := ⟨_, rfl⟩
        have hLL : L.length = 8 := by rw [hL]; rfl
        have hL0 : valD (L.take 2) = 0 := by rw [hL]; rfl
        have hLt : ∀ k, k ≤ 8 → valD (L.take k) < 256 ^ 6 := fun k hk => by
          have e : valD (L.take k) = valD ((L.take k).drop 2) := by
            rw [hL]
            have h : k = 0 ∨ k = 1 ∨ k = 2 ∨ k = 3 ∨ k = 4 ∨ k = 5 ∨ k = 6 ∨ k = 7 ∨ k = 8 := by omega
            rcases h with rfl | rfl | rfl | rfl | rfl | rfl | rfl | rfl | rfl <;> simp [valD]
          rw [e]
          refine Nat.lt_of_lt_of_le (valD_lt _) (Nat.pow_le_pow_right (by decide) ?_)
          rw [List.length_drop, List.length_take]; omega
        rw [← hL] at HND2 HC
        have HLT := Lib.hid hLt
        have HLL := Lib.hid hLL
        clear hL hLt hLL hy2
        go_wp2_with (fail)
        go_loopw [7, 6] (fun i s wr => ∃ k : Nat, 2 ≤ k ∧ k ≤ 8 ∧ i = .int .i64 k ∧ s = .int .i64 ((valD (L.take k) : Nat) : Int) ∧ wr = w1) (fun i _ _ => 8 - (intOf i).toNat)
        case atStart => exact ⟨2, by omega, by omega, rfl, by rw [hL0]; rfl, rfl⟩
        case round =>
          clear c0 c1' c2' g2 g2' hL0
          obtain ⟨k, hk2, hk, rfl, rfl, rfl⟩ := hrel
          by_cases h8 : k < 8
          · have hv := valD_take (l := L) (k := k) (by rw [HLL.out]; exact h8)
            have hlt := HLT.out k hk
            have hc := HC.out k (L.getD k 0) (by rw [List.getD_eq_getElem?_getD, List.getElem?_eq_getElem (by rw [HLL.out]; exact h8)]; rfl)
            obtain ⟨y, hy⟩ : ∃ y, y = L.getD k 0 := ⟨_, rfl⟩
            rw [← hy] at hc hv
            obtain ⟨V, hV⟩ : ∃ V, V = valD (L.take k) := ⟨_, rfl⟩
            rw [← hV] at hv hlt ⊢
            have hyl := y.toNat_lt
            have HV := Lib.hid hv
            have HVL : Hid (V < 281474976710656) := Lib.hid hlt
            have HYL := Lib.hid hyl
            have m1 : wrap64 (256 * (V : Int)) = ((256 * V : Nat) : Int) := by rw [IntWalk.wrap64_in _ (by omega)]; omega
            have m2 : wrap64 (y.toNat : Int) = (y.toNat : Int) := IntWalk.wrap64_in _ (by omega)
            clear hy hV hv hlt hyl
            go_wp2_with (fail)
            have h1 := HVL.out
            have h2 := HYL.out
            refine ⟨⟨k + 1, by omega, by omega, by go_num, ?_, trivial⟩, by simp [intOf]; omega⟩
            rw [HV.out, IntWalk.wrap64_in (256 * (V : Int) + (y.toNat : Int)) (by omega)]
            congr 1
            omega
          · obtain rfl : k = 8 := by omega
            clear h8
            rw [List.take_of_length_le (by rw [HLL.out]; exact Nat.le_refl _)]
            have hvl : valD L < 281474976710656 := by have := HLT.out 8 (by omega); rwa [List.take_of_length_le (by rw [HLL.out]; exact Nat.le_refl _)] at this
            obtain ⟨V, hV⟩ : ∃ V, V = valD L := ⟨_, rfl⟩
            rw [← hV] at HND2 hvl ⊢
            clear hV
            by_cases hbig : 1099511627776 < V
            · have e1 : decide ((1099511627776 : Int) < (V : Int)) = true := by simp; omega
              have e2 : (1099511627776 : Int) < (V : Int) := by omega
              clear hvl
              go_wp2_with (fail)
              go_ret2
              rw [HND2.out, if_pos hbig]
              exact ⟨rfl, HB1.out⟩
            · have e1 : decide ((1099511627776 : Int) < (V : Int)) = false := by simp; omega
              have e2 : ¬ ((1099511627776 : Int) < (V : Int)) := by omega
              clear hvl
              go_wp2_with (fail)
              go_ret2
              rw [HND2.out, if_neg hbig]
              exact ⟨rfl, HB1.out⟩
      · have hbig := (valD8 y0 y1 y2 y3 y4 y5 y6 y7).resolve_right hz
        have HNO : Hid (numD l = (0, 3)) := Lib.hid (by rw [HND2.out, if_pos hbig])
        have p0 : y0 = 0 ∨ ((y0.toNat : Int) != 0) = true := by
          by_cases h : y0 = 0
          · exact .inl h
          · exact .inr (by have : y0.toNat ≠ 0 := fun e => h (UInt8.toNat_inj.1 e); simp; omega)
        have p1 : y1 = 0 ∨ ((y1.toNat : Int) != 0) = true := by
          by_cases h : y1 = 0
          · exact .inl h
          · exact .inr (by have : y1.toNat ≠ 0 := fun e => h (UInt8.toNat_inj.1 e); simp; omega)
        clear HND2 HND HC hbig
        rcases p0 with rfl | g0
        · rw [show ((0 : UInt8).toNat : Int) = 0 from rfl] at c0
          rcases p1 with rfl | g1
          · rw [show ((0 : UInt8).toNat : Int) = 0 from rfl] at c1'
            have g2' : (1 : Int) < (y2.toNat : Int) := by
              by_cases h : y2.toNat ≤ 1
              · exact absurd ⟨rfl, rfl, h⟩ hz
              · omega
            have g2 : decide ((1 : Int) < (y2.toNat : Int)) = true := by simpa using g2'
            clear hz
            go_wp2_with (fail)
            go_ret2
            rw [HNO.out]
            exact ⟨rfl, HB1.out⟩
          · clear hz
            go_wp2_with (fail)
            go_ret2
            rw [HNO.out]
            exact ⟨rfl, HB1.out⟩
        · clear hz
          go_wp2_with (fail)
          go_ret2
          rw [HNO.out]
          exact ⟨rfl, HB1.out⟩
  · have d1 : ((n : Int) != 12) = true := by simp; omega
    go_wp2_with (fail)
    go_ret2
    rw [HND.out, if_pos (by omega)]
    exact ⟨rfl, Below.refl _ _⟩
end Go.Proofs.Ytolomfdommnklaa
