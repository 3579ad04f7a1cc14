/- DiskRoom, walked. -/
import Derived.Test.YtecmadodpkfnnabDkGreat
namespace Go.Proofs.Ytecmadodpkfnnab
open Go.RowKit Go.MapKept

/-- how the law's append ends -/
theorem appO_ends (d : Dk) (fs : Fs) (a : ByteArray) (l : List UInt8) : (∃ x d' fs', appO d fs a l = ((0, .inl x), d', fs') ∧ x = 16) ∨ (∃ op d' fs', appO d fs a l = ((0, .inr op), d', fs')) ∨
    (∃ d' fs', appO d fs a l = ((((min l.length (d.room - d.used).toNat : Nat) : Int), .inl (if min l.length (d.room - d.used).toNat < l.length then 4 else 0)), d', fs') ∧ d'.used = d.used + ((min l.length (d.room - d.used).toNat : Nat) : Int)) := by
  unfold appO
  split
  · exact .inl ⟨16, d, fs, rfl, rfl⟩
  · split
    · exact .inr (.inl ⟨_, _, _, rfl⟩)
    · exact .inr (.inr ⟨_, _, rfl, rfl⟩)

theorem newD_ok (r : Int) (h : 0 ≤ r ∧ r ≤ 1073741824) : FsOk ⟨r, 0, 0, 0, 0, 0⟩ (fsOf []) :=
  ⟨⟨h, ⟨by simp, by simp⟩, ⟨by simp, by simp⟩, ⟨by simp, by simp⟩, ⟨by simp, by simp⟩, ⟨by simp, by simp⟩⟩, rfl, fun e he => (by cases he), List.nodup_nil⟩
theorem retO_form (r : Int × (Int ⊕ Int)) : ∃ n e g o, retO r = retC n e g o := by
  obtain ⟨n, x | op⟩ := r
  · exact ⟨_, _, _, _, rfl⟩
  · exact ⟨_, _, _, _, rfl⟩

set_option maxHeartbeats 8000000 in
set_option maxRecDepth 100000 in
theorem diskRoom_walk (x : Int) (A : Option Addr) (n c : Nat) (L : List DAct) (w : World) (_wf : (Lit.int .i64 x).wf = true) (hL : DAs w A n c L) : Calls Try.prog 5 #[.int .i64 x, .slice A n c] w (True_ w) := by
  have HL := Lib.hid hL
  have hn : n ≤ 140737488351232 := hL.2.2.2.1
  clear hL
  go_enter Try.func5, Try.ntmps5
  go_wp2_with (fail)
  refine (dkAlive w).mono ?_
  rintro e w1 ⟨rfl, hb1⟩
  have HB1 := Lib.hid hb1
  have HL1 := Lib.hid (HL.out.below hb1)
  clear hb1
  go_wp2_with (fail)
  refine (dkGreat A n c L w1 HL1.out).mono ?_
  rintro e w2 ⟨bg, rfl, hb2⟩
  have HB2 := Lib.hid (HB1.out.trans (hb2.mono HB1.out.size))
  have HL2 := Lib.hid (HL1.out.below hb2)
  clear hb2
  cases bg
  · go_wp2_with (fail)
    refine (dkRoomN x w2).mono ?_
    rintro e w3 ⟨⟨r, rfl, hr0, hr1⟩, rfl⟩
    have HR := Lib.hid (And.intro hr0 hr1)
    clear hr0 hr1
    go_wp2_with (fail)
    refine (dkNew r (by have := HR.out; omega) w3).mono ?_
    rintro e w4 ⟨D, M, rfl, h4, hb4⟩
    have H4 := Lib.hid h4
    have HB4 := Lib.hid (HB2.out.trans (hb4.mono HB2.out.size))
    have HL4 := Lib.hid (HL2.out.below hb4)
    have HZ4 : Hid (w3.heap.size ≤ w4.heap.size) := Lib.hid hb4.size
    clear h4 hb4
    have HI0 := Lib.hid (newD_ok r (by have := HR.out; omega))
    go_wp2_with (fail)
    go_loopw [36] (fun i wr => ∃ (k : Nat) (d : Dk) (F : List Ent), k ≤ n ∧ i = .int .i64 k ∧ DkAt wr w3.heap.size D M d F ∧ FsOk d (fsOf F) ∧ d.ops ≤ k ∧ Below w.heap.size w wr ∧ w3.heap.size ≤ wr.heap.size) (fun i _ => n - (intOf i).toNat)
    case atStart => exact ⟨0, _, _, by omega, rfl, H4.out, HI0.out, Int.le_refl _, HB4.out, HZ4.out⟩
    case round =>
      obtain ⟨wo, rfl⟩ : ∃ wo : World, wo = wr := ⟨_, rfl⟩
      obtain ⟨k, d, F, hk, rfl, hd, hok, hops, hb, hz⟩ := hrel
      have HOK := Lib.hid hok
      have HOP := Lib.hid hops
      have HB := Lib.hid hb
      have HZ := Lib.hid hz
      have HD := Lib.hid hd
      clear hd hok hops hb hz H4 HB4 HL4 HZ4 HI0
      by_cases hlt : k < n
      · obtain ⟨b, o, rfl, hx⟩ := (HL.out.below HB.out).2.2.2.2 (by omega)
        obtain ⟨x, hxk⟩ : ∃ x, L[k]? = some x := ⟨_, List.getElem?_eq_getElem (by have := HL.out.1; omega)⟩
        obtain ⟨⟨c0, c1, c2, c3, c4, A5, m, c', c5, hB5, hc'⟩, hf⟩ := hx k x hxk
        have HFX := Lib.hid hf
        have HBB := Lib.hid hB5
        have hbo : Below wo.heap.size wo (wo.alloc (actO x.kd x.n x.k x.a x.b A5 m c')) := (Below.refl _ _).alloc (Nat.le_refl _) _
        have H5 := Lib.hid (HD.out.below hbo)
        have HB5 := Lib.hid (HB.out.trans (hbo.mono HB.out.size))
        have HZ5 : Hid (w3.heap.size ≤ (wo.alloc (actO x.kd x.n x.k x.a x.b A5 m c')).heap.size) := Lib.hid (Nat.le_trans HZ.out hbo.size)
        have HBS5 := Lib.hid (HBB.out.below hbo)
        have HFT7 : Hid (∀ k, DFoot D M F k → k < wo.heap.size) := Lib.hid (fun k hk => (HD.out.foot_lt hk).2)
        have HX5 : Hid ((wo.alloc (actO x.kd x.n x.k x.a x.b A5 m c')).heap[wo.heap.size]? = some (actO x.kd x.n x.k x.a x.b A5 m c')) := Lib.hid (heap_alloc_new wo _)
        obtain ⟨r1, r2⟩ := HOK.out.ok.room
        obtain ⟨u1, u2⟩ := HOK.out.ok.used
        clear hx hB5 hf hxk hbo HD HB HZ HBB
        go_wp2_with (fail)
        generalize (wo.alloc (actO x.kd x.n x.k x.a x.b A5 m c')) = w5 at *
        clear c0 c1 c2 c3 c4 c5
        obtain ⟨q0, q1, q2, q3, q4, q5⟩ : w5.cell? ⟨wo.heap.size, 0, none⟩ = some (.int .i64 x.kd) ∧ w5.cell? ⟨wo.heap.size, 1, none⟩ = some (.int .i64 x.n) ∧ w5.cell? ⟨wo.heap.size, 2, none⟩ = some (.int .i64 x.k) ∧ w5.cell? ⟨wo.heap.size, 3, none⟩ = some (.string x.a) ∧ w5.cell? ⟨wo.heap.size, 4, none⟩ = some (.string x.b) ∧ w5.cell? ⟨wo.heap.size, 5, none⟩ = some (.slice A5 m c') := ⟨cell_of_row _ _ 0 _ _ _ HX5.out, cell_of_row _ _ 1 _ _ _ HX5.out, cell_of_row _ _ 2 _ _ _ HX5.out, cell_of_row _ _ 3 _ _ _ HX5.out, cell_of_row _ _ 4 _ _ _ HX5.out, cell_of_row _ _ 5 _ _ _ HX5.out⟩
        refine (dkUsed H5.out).mono ?_
        rintro e w6 ⟨rfl, rfl⟩
        go_wp2_with (fail)
        refine (dkRoom H5.out).mono ?_
        rintro e w6 ⟨rfl, rfl⟩
        go_wp2_with (fail)
        refine (dkUsed H5.out).mono ?_
        rintro e w6 ⟨rfl, rfl⟩
        have HCO : Hid (FsOk (callD d (fsOf F) x.kd x.n x.k x.a x.b x.l).2.1 (callD d (fsOf F) x.kd x.n x.k x.a x.b x.l).2.2 ∧ (callD d (fsOf F) x.kd x.n x.k x.a x.b x.l).2.1.ops ≤ ((k + 1 : Nat) : Int)) := Lib.hid ⟨callD_ok HOK.out (by have := HOP.out; omega) _ _ _ HFX.out.n HFX.out.k _ _ _, by have := callD_ops (d := d) (fs := fsOf F) x.kd x.n x.k x.a x.b x.l; have := HOP.out; omega⟩
        have HCA := Lib.hid (call_ H5.out HOK.out x.kd x.n x.k x.a x.b (by have := HFX.out.a; omega) (by have := HFX.out.b; omega) A5 m c' x.l HBS5.out HZ5.out)
        by_cases h0 : x.kd = 0
        · have hk0 : (x.kd != 0) = false := by simp [h0]
          have hm : x.l.length = m := HBS5.out.len
          have HCD : Hid (callD d (fsOf F) x.kd x.n x.k x.a x.b x.l = appO d (fsOf F) x.a x.l) := Lib.hid (by unfold callD; rw [if_pos h0])
          have HAE := Lib.hid (appO_ends d (fsOf F) x.a x.l)
          rw [hm] at HAE
          have HM := Lib.hid hm
          clear h0 hm
          go_wp2_with (fail)
          refine HCA.out.mono ?_
          rintro e w7 ⟨F7, he, h7, hc7, hf7⟩
          have H7 := Lib.hid h7
          have HB7 := Lib.hid (HB5.out.trans ((DkCh.below H5.out hc7 HZ5.out).mono (Nat.le_trans HB2.out.size (Nat.le_refl _))))
          have HZ7 : Hid (w3.heap.size ≤ w7.heap.size) := Lib.hid (Nat.le_trans HZ5.out hc7.ch.size)
          have HF7 := Lib.hid hf7
          have HX7 : Hid (w7.heap[wo.heap.size]? = some (actO x.kd x.n x.k x.a x.b A5 m c')) := Lib.hid (hc7.ch.row HX5.out (fun hs => by have := (HFT7.out _ hs); omega))
          clear h7 hc7 hf7
          have HQ7 : Hid (w7.cell? ⟨wo.heap.size, 5, none⟩ = some (.slice A5 m c')) := Lib.hid (cell_of_row _ _ 5 _ _ _ HX7.out)
          clear q0 q1 q2 q3 q4 q5
          have q5 := HQ7.out
          rcases HAE.out with ⟨x16, d', fs', hr, rfl⟩ | ⟨op, d', fs', hr⟩ | ⟨d', fs', hr, hu⟩
          · rw [HCD.out, hr] at he
            obtain rfl : e = retC 0 16 false 0 := he
            clear hr
            go_wp2_with (fail)
            exact ⟨⟨k + 1, _, F7, by omega, by go_num, H7.out, by rw [HF7.out]; exact HCO.out.1, HCO.out.2, HB7.out, HZ7.out⟩, by simp [intOf]; omega⟩
          · rw [HCD.out, hr] at he
            obtain rfl : e = retC 0 0 true op := he
            clear hr
            go_wp2_with (fail)
            exact ⟨⟨k + 1, _, F7, by omega, by go_num, H7.out, by rw [HF7.out]; exact HCO.out.1, HCO.out.2, HB7.out, HZ7.out⟩, by simp [intOf]; omega⟩
          · rw [HCD.out, hr] at he
            have HUS : Hid ((callD d (fsOf F) x.kd x.n x.k x.a x.b x.l).2.1.used = d.used + ((min m (d.room - d.used).toNat : Nat) : Int)) := Lib.hid (by rw [HCD.out, hr]; exact hu)
            clear hr hu
            obtain ⟨N, hN⟩ : ∃ N, N = min m (d.room - d.used).toNat := ⟨_, rfl⟩
            rw [← hN] at he HUS
            by_cases hlm : N < m
            · rw [if_pos hlm] at he
              obtain rfl : e = retC (N : Int) 4 false 0 := he
              have a1 : ¬ (m : Int) ≤ max (d.room - d.used) 0 := by omega
              have a2 : ¬ max (d.room - d.used) 0 < (N : Int) := by omega
              have a3 : decide ((m : Int) ≤ max (d.room - d.used) 0) = false := by simpa using a1
              have a4 : decide (max (d.room - d.used) 0 < (N : Int)) = false := by simpa using a2
              have a5 : N ≤ m := by omega
              have a6 : -9223372036854775808 ≤ d.used + (N : Int) ∧ d.used + (N : Int) ≤ 9223372036854775807 := by omega
              have a7 : wrap64 (d.used + (N : Int)) = d.used + (N : Int) := IntWalk.wrap64_in _ a6
              clear hN hlm
              go_wp2_with (fail)
              refine (dkUsed H7.out).mono ?_
              rintro e w8 ⟨rfl, rfl⟩
              rw [HUS.out]
              go_wp2_with (fail)
              exact ⟨⟨k + 1, _, F7, by omega, by go_num, H7.out, by rw [HF7.out]; exact HCO.out.1, HCO.out.2, HB7.out, HZ7.out⟩, by simp [intOf]; omega⟩
            · rw [if_neg hlm] at he
              obtain rfl : e = retC (N : Int) 0 false 0 := he
              obtain rfl : N = m := by omega
              have a1 : (N : Int) ≤ max (d.room - d.used) 0 := by omega
              have a2 : ¬ max (d.room - d.used) 0 < (N : Int) := by omega
              have a3 : decide ((N : Int) ≤ max (d.room - d.used) 0) = true := by simpa using a1
              have a4 : decide (max (d.room - d.used) 0 < (N : Int)) = false := by simpa using a2
              have a6 : -9223372036854775808 ≤ d.used + (N : Int) ∧ d.used + (N : Int) ≤ 9223372036854775807 := by omega
              have a7 : wrap64 (d.used + (N : Int)) = d.used + (N : Int) := IntWalk.wrap64_in _ a6
              clear hN hlm
              go_wp2_with (fail)
              refine (dkUsed H7.out).mono ?_
              rintro e w8 ⟨rfl, rfl⟩
              rw [HUS.out]
              go_wp2_with (fail)
              exact ⟨⟨k + 1, _, F7, by omega, by go_num, H7.out, by rw [HF7.out]; exact HCO.out.1, HCO.out.2, HB7.out, HZ7.out⟩, by simp [intOf]; omega⟩
        · have hk0 : (x.kd != 0) = true := by simp [h0]
          clear h0
          go_wp2_with (fail)
          refine HCA.out.mono ?_
          rintro e w7 ⟨F7, he, h7, hc7, hf7⟩
          obtain ⟨n1, e1, g1, o1, hr⟩ := retO_form (callD d (fsOf F) x.kd x.n x.k x.a x.b x.l).1
          rw [hr] at he
          subst he
          have H7 := Lib.hid h7
          have HB7 : Hid (Below w.heap.size w w7) := Lib.hid (HB5.out.trans ((DkCh.below H5.out hc7 HZ5.out).mono HB2.out.size))
          have HZ7 : Hid (w3.heap.size ≤ w7.heap.size) := Lib.hid (Nat.le_trans HZ5.out hc7.ch.size)
          have HF7 := Lib.hid hf7
          clear h7 hc7 hf7 hr
          go_wp2_with (fail)
          exact ⟨⟨k + 1, _, F7, by omega, by go_num, H7.out, by rw [HF7.out]; exact HCO.out.1, HCO.out.2, HB7.out, HZ7.out⟩, by simp [intOf]; omega⟩
      · obtain rfl : k = n := by omega
        clear hlt
        go_wp2_with (fail)
        go_ret
        exact ⟨rfl, HB.out⟩
  · go_wp2_with (fail)
    refine (dkAlive w2).mono ?_
    rintro e w3 ⟨rfl, hb3⟩
    have HB3 := Lib.hid (HB2.out.trans (hb3.mono HB2.out.size))
    clear hb3
    go_wp2_with (fail)
    go_ret
    exact ⟨rfl, HB3.out⟩
end Go.Proofs.Ytecmadodpkfnnab
