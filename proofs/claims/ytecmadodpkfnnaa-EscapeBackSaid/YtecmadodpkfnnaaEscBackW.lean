/- EscapeBack, walked. -/
import Derived.Test.YtecmadodpkfnnaaEscClean
namespace Go.Proofs.Ytecmadodpkfnnaa
open Go.RowKit Go.MapKept

theorem okB_parts {s : Sgn} {c : UInt8} (h : okB s c = true) : c ≠ s.a ∧ c ≠ s.b ∧ c ≠ s.c ∧ c ≠ s.e ∧ c ≠ 11 ∧ c ≠ 13 ∧ c ≠ 28 := by
  unfold okB at h
  simp only [Bool.not_eq_true', Bool.or_eq_false_iff, beq_eq_false_iff_ne] at h
  obtain ⟨⟨⟨⟨⟨⟨h1, h2⟩, h3⟩, h5⟩, h6⟩, h7⟩, h8⟩ := h
  exact ⟨h1, h2, h3, h5, h6, h7, h8⟩
theorem txt_self (x : ByteArray) : txt x.data.toList = x := rfl
set_option maxHeartbeats 4000000 in
set_option maxRecDepth 100000 in
theorem escapeBack_walk (x : ByteArray) (s : Sgn) (w : World) (_h0 : x.size ≤ maxLen) : Calls Try.prog 5 #[.string x, s.v] w (True_ w) := by
  have hxl : x.size ≤ 9223372036854775807 := Nat.le_trans _h0 (by decide)
  have HX := Lib.hid (Box5.new s w)
  have HB0 : Hid (Below w.heap.size w (w.alloc (dobj7 s))) := Lib.hid ((Below.refl _ _).alloc (Nat.le_refl _) _)
  clear _h0
  go_enter Try.func5, Try.ntmps5
  by_cases hx8 : (2000 : Int) < (x.size : Int)
  · go_wp2_with (fail)
    refine (escAlive _).mono ?_
    rintro e w1 ⟨rfl, hb1⟩
    have HB1 : Hid (Below w.heap.size w w1) := Lib.hid (HB0.out.trans (hb1.mono HB0.out.size))
    clear hb1
    go_wp2_with (fail)
    go_ret
    exact ⟨rfl, HB1.out⟩
  have hxm : Hid (x.size ≤ 2000) := Lib.hid (by omega)
  clear hxl
  cases hg : s.good
  · have HG := Lib.hid hg
    clear hg
    go_wp2_with (fail)
    refine (escEncode_no x s HG.out _).mono ?_
    rintro e w1 ⟨rfl, hb1⟩
    obtain ⟨x0, x1, x2, x3, x4⟩ := (HX.out.below hb1).cells
    have HX1 := Lib.hid (HX.out.below hb1)
    have HB1 : Hid (Below w.heap.size w w1) := Lib.hid (HB0.out.trans (hb1.mono HB0.out.size))
    clear hb1
    go_wp2_with (fail)
    refine (escAlive _).mono ?_
    rintro e w2 ⟨rfl, hb2⟩
    clear x0 x1 x2 x3 x4
    have HX2 := Lib.hid (HX1.out.below hb2)
    obtain ⟨x0, x1, x2, x3, x4⟩ := HX2.out.cells
    have HB2 : Hid (Below w.heap.size w w2) := Lib.hid (HB1.out.trans (hb2.mono HB1.out.size))
    clear hb2
    go_wp2_with (fail)
    go_ret
    exact ⟨rfl, HB2.out⟩
  · have HG := Lib.hid hg
    clear hg
    have HLX : Hid ((encD s x.data.toList).length ≤ 10000) := Lib.hid (by have := (encD_len s x.data.toList).2; have h2 : x.data.toList.length = x.size := (by simp); have := hxm.out; omega)
    have HOK := Lib.hid (encD_ok HG.out x.data.toList)
    have HBK := Lib.hid (decD_enc HG.out x.data.toList)
    have HCL := Lib.hid (encD_clean s x.data.toList)
    go_wp2_with (fail)
    refine (escEncode x (by have := hxm.out; omega) s HG.out _).mono ?_
    rintro e w1 ⟨rfl, hb1⟩
    obtain ⟨x0, x1, x2, x3, x4⟩ := (HX.out.below hb1).cells
    have HX1 := Lib.hid (HX.out.below hb1)
    have HB1 : Hid (Below w.heap.size w w1) := Lib.hid (HB0.out.trans (hb1.mono HB0.out.size))
    clear hb1
    generalize hea : encD s x.data.toList = ea at *
    have HEA := Lib.hid hea
    have HSE := Lib.hid (txt_size ea)
    have hse := HSE.out
    clear hea x0 x1 x2 x3 x4
    go_wp2_with (fail)
    go_loopw [31, 7] (fun i _ wr => ∃ k : Nat, k ≤ (txt ea).size ∧ i = .int .i64 k ∧ wr = w1) (fun i _ _ => (txt ea).size - (intOf i).toNat)
    case atStart => exact ⟨0, Nat.zero_le _, rfl, rfl⟩
    case round =>
      obtain ⟨k, hk, rfl, rfl⟩ := hrel
      obtain ⟨x0, x1, x2, x3, x4⟩ := HX1.out.cells
      have hln := HLX.out
      by_cases hlt : k < (txt ea).size
      · skip
        have e1 : (k : Int) < ((txt ea).size : Int) := by omega
        have e2 : (k : Int) < (ea.length : Int) := by rw [← HSE.out]; omega
        have hb := okB_parts (List.all_eq_true.1 HOK.out (txt ea)[k] (by rw [← getD_idx (txt ea) k hlt, List.getD_eq_getElem?_getD, List.getElem?_eq_getElem (by have := HSE.out; simp; omega)]; simp))
        obtain ⟨ha, hb, hc, he, h11, h13, h28⟩ := hb
        have da : ((((txt ea)[k].toNat : Nat) : Int) == (s.a.toNat : Int)) = false := by rw [beq_eq_false_iff_ne]; intro e; exact ha (UInt8.toNat_inj.1 (by omega))
        have db : ((((txt ea)[k].toNat : Nat) : Int) == (s.b.toNat : Int)) = false := by rw [beq_eq_false_iff_ne]; intro e; exact hb (UInt8.toNat_inj.1 (by omega))
        have dc : ((((txt ea)[k].toNat : Nat) : Int) == (s.c.toNat : Int)) = false := by rw [beq_eq_false_iff_ne]; intro e; exact hc (UInt8.toNat_inj.1 (by omega))
        have de : ((((txt ea)[k].toNat : Nat) : Int) == (s.e.toNat : Int)) = false := by rw [beq_eq_false_iff_ne]; intro e; exact he (UInt8.toNat_inj.1 (by omega))
        have d11 : ((((txt ea)[k].toNat : Nat) : Int) == 11) = false := by rw [beq_eq_false_iff_ne]; intro e; exact h11 (UInt8.toNat_inj.1 (by have : (11 : UInt8).toNat = 11 := rfl; omega))
        have d13 : ((((txt ea)[k].toNat : Nat) : Int) == 13) = false := by rw [beq_eq_false_iff_ne]; intro e; exact h13 (UInt8.toNat_inj.1 (by have : (13 : UInt8).toNat = 13 := rfl; omega))
        have d28 : ((((txt ea)[k].toNat : Nat) : Int) == 28) = false := by rw [beq_eq_false_iff_ne]; intro e; exact h28 (UInt8.toNat_inj.1 (by have : (28 : UInt8).toNat = 28 := rfl; omega))
        clear ha hb hc he h11 h13 h28
        go_wp2_with (fail)
        exact ⟨⟨k + 1, by omega, by go_num, by trivial⟩, by simp [intOf]; omega⟩
      · obtain rfl : k = (txt ea).size := by omega
        clear hlt
        go_wp2_with (fail)
        refine (escDecode (txt ea) (by have := HLX.out; have := HSE.out; omega) s HG.out _).mono ?_
        rintro e w5 ⟨rfl, hb5⟩
        have HX5 := Lib.hid (HX1.out.below hb5)
        have HB5 : Hid (Below w.heap.size w w5) := Lib.hid (HB1.out.trans (hb5.mono HB1.out.size))
        clear hb5
        rw [show decD s (txt ea).data.toList = .ok x.data.toList from HBK.out]
        simp only [decText, decPos, decErr]
        rw [show strV x.data.toList = .string x from rfl]
        have HLE : Hid (((txt ea).data.toList.length : Nat) = (txt ea).size) := Lib.hid HSE.out.symm
        rw [HLE.out]
        clear x0 x1 x2 x3 x4
        obtain ⟨x0, x1, x2, x3, x4⟩ := HX5.out.cells
        go_wp2_with (fail)
        refine (escAlive _).mono ?_
        rintro e w6 ⟨rfl, hb6⟩
        clear x0 x1 x2 x3 x4
        have HX6 := Lib.hid (HX5.out.below hb6)
        obtain ⟨x0, x1, x2, x3, x4⟩ := HX6.out.cells
        have HB6 : Hid (Below w.heap.size w w6) := Lib.hid (HB5.out.trans (hb6.mono HB5.out.size))
        clear hb6
        go_wp2_with (fail)
        refine (escClean x (by have := hxm.out; omega) s _).mono ?_
        rintro e w7 ⟨rfl, hb7⟩
        have HB7 : Hid (Below w.heap.size w w7) := Lib.hid (HB6.out.trans (hb7.mono HB6.out.size))
        clear hb7
        cases hcl : cleanD s x.data.toList
        · have hne : (ea == x.toList) = false := by
            rw [beq_eq_false_iff_ne]
            intro h
            have h2 : ea = x.data.toList := by rw [← Go.ByteArray.toList_eq]; exact h
            rw [HCL.out.1 h2] at hcl
            cases hcl
          go_wp2_with (fail)
          go_ret
          exact ⟨rfl, HB7.out⟩
        · have hte : (ea == x.toList) = true := by
            rw [beq_iff_eq]
            rw [Go.ByteArray.toList_eq]
            exact HCL.out.2 hcl
          go_wp2_with (fail)
          go_ret
          exact ⟨rfl, HB7.out⟩
end Go.Proofs.Ytecmadodpkfnnaa
