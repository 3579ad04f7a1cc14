/- MshOne, walked. -/
import Derived.Test.YtodgcmjdnfbegaaDoorMshOneM
import Derived.Test.YtodgcmjdnfbegaaDoorMshBackW
import Derived.Test.YtodgcmjdnfbegaaDoorHdEq
namespace Go.Proofs.YtodgcmjdnfbegaaDoor
open Go.RowKit

/-- what a head is asked for -/
def askOf (h : Hd) : Hd := ⟨h.d, ⟨#[]⟩, ⟨#[]⟩, ⟨#[]⟩, ⟨#[]⟩, ⟨#[]⟩, ⟨#[]⟩, h.a6, h.a7, h.a8, h.a9⟩
theorem check_ask (h : Hd) : checkD (askOf h) = checkD h := rfl
/-- the head's cells at whatever world that comes behind -/
theorem BoxH.later {h : Hd} {g : Nat} {w : World} (k : BoxH h g w) (n : Later w) : BoxH h g n.u := k.below n.h

theorem BoxH.laters {h : Hd} {g : Nat} {w : World} (k : BoxH h g w) : (∀ n : Later w, n.u.cell? ⟨g, 0, none⟩ = some (u8 h.d.a)) ∧ (∀ n : Later w, n.u.cell? ⟨g, 1, none⟩ = some (u8 h.d.b)) ∧ (∀ n : Later w, n.u.cell? ⟨g, 2, none⟩ = some (u8 h.d.c)) ∧ (∀ n : Later w, n.u.cell? ⟨g, 3, none⟩ = some (u8 h.d.d)) ∧ (∀ n : Later w, n.u.cell? ⟨g, 4, none⟩ = some (u8 h.d.e)) ∧ (∀ n : Later w, n.u.cell? ⟨g, 5, none⟩ = some (.string h.a0)) ∧ (∀ n : Later w, n.u.cell? ⟨g, 6, none⟩ = some (.string h.a1)) ∧ (∀ n : Later w, n.u.cell? ⟨g, 7, none⟩ = some (.string h.a2)) ∧ (∀ n : Later w, n.u.cell? ⟨g, 8, none⟩ = some (.string h.a3)) ∧ (∀ n : Later w, n.u.cell? ⟨g, 9, none⟩ = some (.string h.a4)) ∧ (∀ n : Later w, n.u.cell? ⟨g, 10, none⟩ = some (.string h.a5)) ∧ (∀ n : Later w, n.u.cell? ⟨g, 11, none⟩ = some (.string h.a6)) ∧ (∀ n : Later w, n.u.cell? ⟨g, 12, none⟩ = some (.string h.a7)) ∧ (∀ n : Later w, n.u.cell? ⟨g, 13, none⟩ = some (.string h.a8)) ∧ (∀ n : Later w, n.u.cell? ⟨g, 14, none⟩ = some (.string h.a9)) := by
  have t := fun n : Later w => (k.later n).cells
  exact ⟨fun n => (t n).1, fun n => (t n).2.1, fun n => (t n).2.2.1, fun n => (t n).2.2.2.1, fun n => (t n).2.2.2.2.1, fun n => (t n).2.2.2.2.2.1, fun n => (t n).2.2.2.2.2.2.1, fun n => (t n).2.2.2.2.2.2.2.1, fun n => (t n).2.2.2.2.2.2.2.2.1, fun n => (t n).2.2.2.2.2.2.2.2.2.1, fun n => (t n).2.2.2.2.2.2.2.2.2.2.1, fun n => (t n).2.2.2.2.2.2.2.2.2.2.2.1, fun n => (t n).2.2.2.2.2.2.2.2.2.2.2.2.1, fun n => (t n).2.2.2.2.2.2.2.2.2.2.2.2.2.1, fun n => (t n).2.2.2.2.2.2.2.2.2.2.2.2.2.2⟩

set_option maxHeartbeats 60000000 in
set_option maxRecDepth 100000 in
theorem mshOne_walk (A : Option Addr) (n cp : Nat) (l : List UInt8) (w : World) (hv : Vers w) (hB : Bs w A n cp l) (_hcp : cp ≤ 140737488351232) :
    Calls Tryd.prog 6 #[.slice A n cp] w (True_ w) := by
  have hnm := hB.nmax
  have HV := Lib.hid (fun W (hb : Below w.heap.size w W) => hv.below hb)
  have HBL := Lib.hid hB
  clear hv hB
  go_enter Tryd.func6, Tryd.ntmps6
  by_cases hbig : 3000 < n
  · have d2 : decide ((3000 : Int) < (n : Int)) = true := by simp; omega
    go_wp2_with (fail)
    refine (alive09 w (HV.out w (Below.refl _ _))).mono ?_
    rintro e w2 ⟨rfl, hb2⟩
    have HB2 := Lib.hid hb2
    clear hb2
    go_wp2_with (fail)
    go_ret
    exact ⟨rfl, HB2.out⟩
  have d2 : decide ((3000 : Int) < (n : Int)) = false := by simp; omega
  have HN : Hid (n ≤ 3000) := Lib.hid (by omega)
  clear hbig
  go_wp2_with (fail)
  refine (read_ A n cp l w HBL.out (by have := HN.out; omega)).mono ?_
  rintro e w1 ⟨rfl, hb1⟩
  have HB1 := Lib.hid hb1
  clear hb1
  rcases readH_cases l with ⟨h, hr⟩ | ⟨x, hx, hr⟩
  · obtain ⟨hg, hst, hsz⟩ := read_stands hr
    rw [HBL.out.len] at hsz
    obtain ⟨k8, k9, kl⟩ := sum_le_of hsz
    have HK := Lib.hid (And.intro k8 (And.intro k9 kl))
    have HRW := Lib.hid (read_write hg hst [])
    have HW := Lib.hid (writeH_good hg hst)
    have HSL : Hid ((segH h).length ≤ 10 * n + 18) := Lib.hid (by have h1 := segH_len h; rw [h.sum_eq] at h1; omega)
    rw [hr]
    clear hr hg hst hsz k8 k9 kl
    go_wp2_with (fail)
    have HX2 : Hid (BoxH h w1.heap.size (w1.alloc (.cells h.cells TH))) := Lib.hid (BoxH.new h w1)
    have HB2 : Hid (Below w.heap.size w (w1.alloc (.cells h.cells TH))) := Lib.hid (HB1.out.alloc HB1.out.size _)
    have HG1 : Hid (w.heap.size ≤ w1.heap.size) := Lib.hid HB1.out.size
    obtain ⟨G1, hG1⟩ : ∃ y, y = w1.heap.size := ⟨_, rfl⟩
    rw [← hG1] at HX2 ⊢
    clear hG1
    generalize w1.alloc (.cells #[u8 h.d.a, u8 h.d.b, u8 h.d.c, u8 h.d.d, u8 h.d.e, .string h.a0, .string h.a1, .string h.a2, .string h.a3, .string h.a4, .string h.a5, .string h.a6, .string h.a7, .string h.a8, .string h.a9] TH) = w2 at *
    obtain ⟨c0, c1, c2, c3, c4, c5, c6, c7, c8, c9, c10, c11, c12, c13, c14⟩ := HX2.out.cells
    go_wp2_with (fail)
    clear c0 c1 c2 c3 c4 c5 c6 c7 c8 c9 c10 c11 c12 c13 c14
    refine (write_ h w2 (by have := HK.out.2.2; have := HN.out; omega)).mono ?_
    rintro e w3 ⟨rfl, hb3⟩
    have HX3 := Lib.hid (HX2.out.below hb3)
    have HB3 := Lib.hid (HB2.out.trans (hb3.mono HB2.out.size))
    clear hb3 HX2 HB2
    rw [HW.out]
    obtain ⟨S, hS⟩ : ∃ S, S = segH h := ⟨_, rfl⟩
    rw [← hS] at HRW HSL ⊢
    clear hS
    obtain ⟨N, hN⟩ : ∃ N, S.length = N := ⟨_, rfl⟩
    have HNN : Hid (N ≤ 30018) := Lib.hid (by have := HSL.out; have := HN.out; omega)
    have hts : (txt S).size = N := by rw [txt_size, hN]
    have hno : ¬ 9223372036854775807 < N + 1 := by have := HNN.out; omega
    have HL := Lib.hid hN
    clear HSL hN
    go_wp2_with (fail)
    rw [show (ByteArray.mk #[13]) = txt [13] from rfl, txt_app]
    obtain ⟨cap4, w4, hrun4, hC4, hb4⟩ := conv_list (P := Tryd.prog) w3 9 22 5 (S ++ [13]) (N + 1) Tryd.underlying9 Tryd.underlying22 Tryd.underlying5 (by rw [List.length_append, HL.out]; rfl) (by have := HNN.out; simp only [maxLen]; omega)
    rw [hrun4]
    have HC4 := Lib.hid hC4
    have Hb4 := Lib.hid hb4
    clear hrun4 hC4 hb4 hts hno
    go_wp2_with (fail)
    refine (read_ _ (N + 1) cap4 (S ++ [13]) w4 HC4.out.bs (by have := HNN.out; omega)).mono ?_
    rw [show readH (S ++ [13]) = (h, 0) from HRW.out]
    rintro e w5 ⟨rfl, hb5⟩
    have b35 := Hb4.out.trans (hb5.mono Hb4.out.size)
    have HX5 := Lib.hid (HX3.out.below b35)
    have HB5 : Hid (Below w.heap.size w w5) := Lib.hid (HB3.out.trans (b35.mono HB3.out.size))
    clear b35 hb5 HC4 Hb4 HX3 HB3
    have HY6 : Hid (BoxH h w5.heap.size (w5.alloc (.cells h.cells TH))) := Lib.hid (BoxH.new h w5)
    have HX6 : Hid (BoxH h G1 (w5.alloc (.cells h.cells TH))) := Lib.hid (HX5.out.below (boxHd_below h w5))
    have HB6 : Hid (Below w.heap.size w (w5.alloc (.cells h.cells TH))) := Lib.hid (HB5.out.alloc HB5.out.size _)
    obtain ⟨c0, c1, c2, c3, c4, c5, c6, c7, c8, c9, c10, c11, c12, c13, c14⟩ := HX6.out.cells
    go_wp2_with (fail)
    clear c0 c1 c2 c3 c4 c5 c6 c7 c8 c9 c10 c11 c12 c13 c14
    have HO7 : Hid (BoxH (askOf h) (w5.heap.size + 1) ((w5.alloc (.cells h.cells TH)).alloc (.cells (askOf h).cells TH))) := Lib.hid (by have t := BoxH.new (askOf h) (w5.alloc (.cells h.cells TH)); rw [World.size_alloc] at t; exact t)
    have HX7 : Hid (BoxH h G1 ((w5.alloc (.cells h.cells TH)).alloc (.cells (askOf h).cells TH))) := Lib.hid (HX6.out.below (boxHd_below (askOf h) _))
    have HY7 : Hid (BoxH h w5.heap.size ((w5.alloc (.cells h.cells TH)).alloc (.cells (askOf h).cells TH))) := Lib.hid (HY6.out.below (boxHd_below (askOf h) _))
    have HB7 : Hid (Below w.heap.size w ((w5.alloc (.cells h.cells TH)).alloc (.cells (askOf h).cells TH))) := Lib.hid (HB6.out.alloc HB6.out.size _)
    generalize hw7 : (w5.alloc (.cells h.cells TH)).alloc (.cells (askOf h).cells TH) = w7 at HO7 HX7 HY7 HB7
    rw [show ((w5.alloc (.cells #[u8 h.d.a, u8 h.d.b, u8 h.d.c, u8 h.d.d, u8 h.d.e, .string h.a0, .string h.a1, .string h.a2, .string h.a3, .string h.a4, .string h.a5, .string h.a6, .string h.a7, .string h.a8, .string h.a9] TH)).alloc (.cells #[u8 h.d.a, u8 h.d.b, u8 h.d.c, u8 h.d.d, u8 h.d.e, .string ⟨#[]⟩, .string ⟨#[]⟩, .string ⟨#[]⟩, .string ⟨#[]⟩, .string ⟨#[]⟩, .string ⟨#[]⟩, .string h.a6, .string h.a7, .string h.a8, .string h.a9] TH)) = w7 from hw7]
    clear hw7 HX6 HY6 HB6 HX5 HB5
    obtain ⟨G5, hG5⟩ : ∃ y, y = w5.heap.size := ⟨_, rfl⟩
    rw [← hG5] at HY7 HO7 ⊢
    clear hG5
    have HVL := Lib.hid (fun (q : Later w7) => HV.out q.u (HB7.out.trans (q.h.mono HB7.out.size)))
    have HCO : Hid (∀ q : Later w7, Calls Tryd.prog 18 #[(askOf h).v] q.u fun e w' => e = .returned (.int .i64 (checkD h)) ∧ Below q.u.heap.size q.u w') := Lib.hid (fun q => check_ (askOf h) q.u (HVL.out q) (show h.a8.size ≤ 1000000000 by have := HK.out.1; have := HN.out; omega) (show h.a9.size ≤ 1000000000 by have := HK.out.2.1; have := HN.out; omega))
    have HCH := Lib.hid (fun (q : Later w7) => check_ h q.u (HVL.out q) (by have := HK.out.1; have := HN.out; omega) (by have := HK.out.2.1; have := HN.out; omega))
    obtain ⟨K, hK⟩ : ∃ K, K = checkD h := ⟨_, rfl⟩
    rw [← hK] at HCO HCH
    clear hK
    obtain ⟨q, hq⟩ : ∃ q, q = askOf h := ⟨_, rfl⟩
    rw [← hq] at HO7 HCO
    clear hq
    have heq := fun w => head_self h w
    have KX : Hid (∀ W, (∃ n : Later w7, W = n.u) → BoxH h G1 W) := Lib.hid (fun W ⟨n, e⟩ => e ▸ HX7.out.later n)
    have KY : Hid (∀ W, (∃ n : Later w7, W = n.u) → BoxH h G5 W) := Lib.hid (fun W ⟨n, e⟩ => e ▸ HY7.out.later n)
    have KO : Hid (∀ W, (∃ n : Later w7, W = n.u) → BoxH q (G5 + 1) W) := Lib.hid (fun W ⟨n, e⟩ => e ▸ HO7.out.later n)
    clear HW HRW HK HL HNN HN HBL
    refine region_later (by kernel_rfl) (by kernel_rfl) ?_
    repeat (first
      | (with_reducible refine wpQuiet_loadH (dst := some 60) G5 h (by kernel_rfl) (by kernel_rfl) KY.out ?_; simp only [Act.put, List.setIfInBounds_toArray, List.set_cons_zero, List.set_cons_succ])
      | (with_reducible refine wpQuiet_loadH (dst := some 61) G1 h (by kernel_rfl) (by kernel_rfl) KX.out ?_; simp only [Act.put, List.setIfInBounds_toArray, List.set_cons_zero, List.set_cons_succ])
      | (with_reducible refine wpQuiet_loadH (dst := some 67) G1 h (by kernel_rfl) (by kernel_rfl) KX.out ?_; simp only [Act.put, List.setIfInBounds_toArray, List.set_cons_zero, List.set_cons_succ])
      | (with_reducible refine wpQuiet_loadH (dst := some 65) (G5 + 1) q (by kernel_rfl) (by kernel_rfl) KO.out ?_; simp only [Act.put, List.setIfInBounds_toArray, List.set_cons_zero, List.set_cons_succ])
      | (with_reducible refine wpQuiet_eqH h (by kernel_rfl) (by kernel_rfl) (by kernel_rfl) ?_; simp only [Act.put, List.setIfInBounds_toArray, List.set_cons_zero, List.set_cons_succ])
      | go_big_quiet_step ((first
      | (go_at_call 10; exact Calls.later (alive09 _ (HVL.out _)))
      | (go_at_call_of 18 q.v; exact Calls.later (HCO.out _))
      | (go_at_call_of 18 h.v; exact Calls.later (HCH.out _))
      | (go_at_call 18; exact Calls.later (HCO.out _))
      | (go_at_call 18; exact Calls.later (HCH.out _)))))
    refine wpQuiet_nil ?_
    intro nq
    have hbq := Lib.hid (HB7.out.trans (nq.h.mono HB7.out.size))
    go_wp2
    go_ret
    exact ⟨rfl, hbq.out⟩
  · have d3 : (x != 0) = true := by simpa using hx
    rw [hr]
    clear hr hx
    go_wp2_with (fail)
    have HX2 : Hid (BoxH Hd.zero w1.heap.size (w1.alloc (.cells Hd.zero.cells TH))) := Lib.hid (BoxH.new Hd.zero w1)
    have HB2 : Hid (Below w.heap.size w (w1.alloc (.cells Hd.zero.cells TH))) := Lib.hid (HB1.out.alloc HB1.out.size _)
    obtain ⟨G1, hG1⟩ : ∃ y, y = w1.heap.size := ⟨_, rfl⟩
    rw [← hG1] at HX2 ⊢
    clear hG1
    generalize hw2 : w1.alloc (.cells Hd.zero.cells TH) = w2 at HX2 HB2
    refine (alive09 w2 (HV.out w2 HB2.out)).mono ?_
    rintro e w3 ⟨rfl, hb3⟩
    have HX3 := Lib.hid (HX2.out.below hb3)
    have HB3 := Lib.hid (HB2.out.trans (hb3.mono HB2.out.size))
    clear hb3
    have heq := fun w => head_self Hd.zero w
    go_wp2_with (first | (with_reducible refine wpList_loadHG G1 Hd.zero (by kernel_rfl) (by kernel_rfl) HX3.out ?_) | (with_reducible refine wpList_eqH Hd.zero (by kernel_rfl) (by kernel_rfl) (by kernel_rfl) ?_))
    go_ret
    exact ⟨rfl, HB3.out⟩
end Go.Proofs.YtodgcmjdnfbegaaDoor
