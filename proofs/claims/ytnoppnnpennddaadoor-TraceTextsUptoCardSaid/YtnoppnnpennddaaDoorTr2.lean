/- Layer 19: numbers' texts, walked. -/
import Derived.Test.YtnoppnnpennddaaDoorTr1
namespace Go.Proofs.YtnoppnnpennddaaDoor
open Go.RowKit

def digB (c : UInt8) : Bool := decide (48 ≤ c.toNat) && decide (c.toNat ≤ 57)
/-- are they a number's digits? -/
def rightN (t : List UInt8) : Bool := decide (1 ≤ t.length) && decide (t.length ≤ 18) && !(decide (1 < t.length) && decide (t.getD 0 0 = 48)) && t.all digB
def valN (t : List UInt8) : Nat := t.foldl (fun n c => 10 * n + (c.toNat - 48)) 0
def minusN (s : List UInt8) : Bool := decide (s.head? = some 45)
def digsN (s : List UInt8) : List UInt8 := if minusN s = true then s.drop 1 else s
/-- the number whose text it is, and whether there is one -/
def numT (s : List UInt8) : Int × Bool :=
  if rightN (digsN s) = false ∨ (minusN s = true ∧ digsN s = [48]) then (0, false)
  else ((if minusN s = true then -(valN (digsN s) : Int) else (valN (digsN s) : Int)), true)

theorem valN_snoc (t : List UInt8) (c : UInt8) : valN (t ++ [c]) = 10 * valN t + (c.toNat - 48) := by simp [valN]
theorem valN_lt : ∀ (k : Nat) (t : List UInt8), k ≤ t.length → (∀ c ∈ t, digB c = true) → valN (t.take k) < 10 ^ k := by
  intro k t
  induction k with
  | zero => intro _ _; simp [valN]
  | succ k ih =>
    intro hk ht
    have hlt : k < t.length := by omega
    rw [List.take_succ_eq_append_getElem hlt, valN_snoc]
    have h1 := ih (by omega) ht
    have h2 := ht _ (List.getElem_mem hlt)
    simp only [digB, Bool.and_eq_true, decide_eq_true_eq] at h2
    rw [Nat.pow_succ]
    omega

set_option maxHeartbeats 2000000 in
set_option maxRecDepth 100000 in
theorem rightDigits_ (x : ByteArray) (w : World) (hx : x.size ≤ 100000000) : Calls Tryd.prog 55 #[.string x] w fun e w' => e = .returned (.bool (rightN x.data.toList)) ∧ w' = w := by
  have hsz : x.data.toList.length = x.size := by simp
  by_cases h1 : x.size < 1
  · have e1 : decide ((x.size : Int) < 1) = true := by rw [decide_eq_true_iff]; omega
    have HE : Hid (rightN x.data.toList = false) := Lib.hid (by unfold rightN; rw [decide_eq_false (by omega)]; rfl)
    clear h1
    go_enter Tryd.func55, Tryd.ntmps55
    go_wp2_with (fail)
    go_ret
    exact ⟨by rw [HE.out]; rfl, rfl⟩
  have e1 : decide ((x.size : Int) < 1) = false := by rw [decide_eq_false_iff_not]; omega
  by_cases h2 : 18 < x.size
  · have e2 : decide ((18 : Int) < (x.size : Int)) = true := by rw [decide_eq_true_iff]; omega
    have HE : Hid (rightN x.data.toList = false) := Lib.hid (by unfold rightN; rw [decide_eq_true (p := 1 ≤ _) (by omega), decide_eq_false (p := _ ≤ 18) (by omega)]; rfl)
    clear h1 h2
    go_enter Tryd.func55, Tryd.ntmps55
    go_wp2_with (fail)
    go_ret
    exact ⟨by rw [HE.out]; rfl, rfl⟩
  have e2 : decide ((18 : Int) < (x.size : Int)) = false := by rw [decide_eq_false_iff_not]; omega
  have h0 : 0 < x.size := by omega
  have hg0 := getD_ix x 0 h0
  by_cases h3 : 1 < x.size ∧ x[0] = 48
  · have e3 : decide ((1 : Int) < (x.size : Int)) = true := by rw [decide_eq_true_iff]; omega
    have HE : Hid (rightN x.data.toList = false) := Lib.hid (by
      unfold rightN
      rw [decide_eq_true (p := 1 ≤ _) (by omega), decide_eq_true (p := _ ≤ 18) (by omega), decide_eq_true (p := 1 < _) (by omega), decide_eq_true (by rw [hg0]; exact h3.2)]; rfl)
    have ix := fun W => strIx x 0 h0 0 rfl W
    rw [h3.2] at ix
    clear h1 h2 h3 hg0
    go_enter Tryd.func55, Tryd.ntmps55
    go_wp2_with (fail)
    go_ret
    exact ⟨by rw [HE.out]; rfl, rfl⟩
  have HE : Hid (rightN x.data.toList = x.data.toList.all digB) := Lib.hid (by
    unfold rightN
    rw [decide_eq_true (p := 1 ≤ _) (by omega), decide_eq_true (p := _ ≤ 18) (by omega)]
    have : (decide (1 < x.data.toList.length) && decide (x.data.toList.getD 0 0 = 48)) = false := by
      rw [Bool.and_eq_false_iff]
      rw [hg0, hsz]
      by_cases h : 1 < x.size
      · exact .inr (decide_eq_false (fun e => h3 ⟨h, e⟩))
      · exact .inl (decide_eq_false h)
    rw [this]
    rfl)
  have hgo : ∀ (Q : Ending → World → Prop), True := fun _ => trivial
  have H3 := Lib.hid h3
  have ix := fun W => strIx x 0 h0 0 rfl W
  have key : ∀ (b : Bool), decide ((1 : Int) < (x.size : Int)) = b → ((x[0].toNat : Int) == 48) = false ∨ b = false := by
    intro b hb
    by_cases h : 1 < x.size
    · left
      rw [beq_eq_false_iff_ne]
      intro e
      exact h3 ⟨h, UInt8.toNat_inj.1 (by simpa using (by omega : x[0].toNat = 48))⟩
    · right
      rw [← hb, decide_eq_false_iff_not]
      omega
  clear hgo h1 h3 hg0
  obtain ⟨c0, hc0⟩ : ∃ c0, c0 = x[0] := ⟨_, rfl⟩
  rw [← hc0] at ix key
  clear hc0
  have HX := Lib.hid hx
  have HSZ := Lib.hid hsz
  have fin : ∀ b, decide ((1 : Int) < (x.size : Int)) = b → Calls Tryd.prog 55 #[.string x] w fun e w' => e = .returned (.bool (rightN x.data.toList)) ∧ w' = w := by
    intro b hb
    have hk := key b hb
    rw [HE.out]
    clear HE
    obtain ⟨r, hr⟩ : ∃ r, r = x.data.toList.all digB := ⟨_, rfl⟩
    rw [← hr]
    have HR := Lib.hid hr
    clear hr
    have h18 : x.size ≤ 18 := by omega
    clear key h2
    cases b
    all_goals
      first
        | (have e4 := hk.resolve_right (by decide))
        | skip
      clear hk
      go_enter Tryd.func55, Tryd.ntmps55
      go_wp2_with (fail)
      go_loop [24, 3] (fun i _ => ∃ k : Nat, k ≤ x.size ∧ i = .int .i64 k ∧ (x.data.toList.take k).all digB = true) (fun i _ => x.size - (intOf i).toNat)
      case atStart => exact ⟨0, Nat.zero_le _, rfl, rfl⟩
      case round =>
        obtain ⟨k, hk, rfl, hall⟩ := hrel
        have HA := Lib.hid hall
        clear hall
        by_cases hlt : k < x.size
        · have ixk := fun W => strIx x k hlt (k : Int) rfl W
          have hkl : k < x.data.toList.length := by rw [HSZ.out]; exact hlt
          have hg : x.data.toList[k] = x[k] := rfl
          have HT : Hid (x.data.toList.take (k + 1) = x.data.toList.take k ++ [x[k]]) := Lib.hid (by rw [List.take_succ_eq_append_getElem hkl, hg])
          have HM : Hid (x[k] ∈ x.data.toList) := Lib.hid (by rw [← hg]; exact List.getElem_mem hkl)
          obtain ⟨c, hc⟩ : ∃ c, c = x[k] := ⟨_, rfl⟩
          rw [← hc] at ixk HT HM
          clear hc hg hkl
          by_cases hd : c.toNat < 48
          · have HF : Hid (r = false) := Lib.hid (by
              rw [HR.out, List.all_eq_false]
              exact ⟨c, HM.out, by simp [digB]; omega⟩)
            have d1 : decide ((c.toNat : Int) < 48) = true := by rw [decide_eq_true_iff]; omega
            clear hd
            go_wp2_with (fail)
            go_ret
            exact ⟨by rw [HF.out]; rfl, rfl⟩
          have d1 : decide ((c.toNat : Int) < 48) = false := by rw [decide_eq_false_iff_not]; omega
          by_cases hd2 : 57 < c.toNat
          · have HF : Hid (r = false) := Lib.hid (by
              rw [HR.out, List.all_eq_false]
              exact ⟨c, HM.out, by simp [digB]; omega⟩)
            have d2 : decide ((57 : Int) < (c.toNat : Int)) = true := by rw [decide_eq_true_iff]; omega
            clear hd hd2
            go_wp2_with (fail)
            go_ret
            exact ⟨by rw [HF.out]; rfl, rfl⟩
          have d2 : decide ((57 : Int) < (c.toNat : Int)) = false := by rw [decide_eq_false_iff_not]; omega
          have HD : Hid (digB c = true) := Lib.hid (by simp [digB]; omega)
          clear hd hd2
          go_wp2_with (fail)
          go_round
          case rel => exact ⟨k + 1, by omega, by go_num, by rw [HT.out, List.all_append, HA.out]; simp [HD.out]⟩
          case measure => simp [intOf]; omega
        · obtain rfl : k = x.size := by omega
          have HF : Hid (r = true) := Lib.hid (by rw [HR.out, ← HA.out, List.take_of_length_le (by rw [HSZ.out]; exact Nat.le_refl _)])
          clear hlt
          go_wp2_with (fail)
          go_ret
          exact ⟨by rw [HF.out]; rfl, rfl⟩
  exact fin _ rfl

/-- the list behind the first byte -/
theorem ext1 (x : ByteArray) : (x.extract 1 x.size).data.toList = x.data.toList.drop 1 := by
  rw [ByteArray.data_extract, Array.toList_extract, List.extract_eq_take_drop, List.take_of_length_le (by simp)]
theorem rightN_all {t : List UInt8} (h : rightN t = true) : t.length ≤ 18 ∧ ∀ c ∈ t, digB c = true := by
  unfold rightN at h
  simp only [Bool.and_eq_true, decide_eq_true_eq] at h
  exact ⟨h.1.1.2, List.all_eq_true.1 h.2⟩
theorem numT_nil : numT [] = (0, false) := by rfl
set_option maxHeartbeats 2000000 in
set_option maxRecDepth 100000 in
theorem decRead_ (x : ByteArray) (w : World) (hx : x.size ≤ 100000000) : Calls Tryd.prog 46 #[.string x] w fun e w' => e = .returned (.tuple #[.int .i64 (numT x.data.toList).1, .bool (numT x.data.toList).2]) ∧ w' = w := by
  have hsz : x.data.toList.length = x.size := by simp
  by_cases h0 : x.size = 0
  · have hl : x.data.toList = [] := List.eq_nil_of_length_eq_zero (by omega)
    have d0 : decide ((0 : Int) < (x.size : Int)) = false := by rw [decide_eq_false_iff_not]; omega
    have HE : Hid (numT x.data.toList = (0, false)) := Lib.hid (by rw [hl]; rfl)
    have HR : Hid (rightN x.data.toList = false) := Lib.hid (by rw [hl]; rfl)
    clear hl hsz
    go_enter Tryd.func46, Tryd.ntmps46
    go_wp2_with (fail)
    refine (rightDigits_ x w hx).mono ?_
    rw [HR.out]
    rintro e w1 ⟨rfl, rfl⟩
    go_wp2_with (fail)
    go_ret2
    exact ⟨by rw [HE.out]; rfl, rfl⟩
  have d0 : decide ((0 : Int) < (x.size : Int)) = true := by rw [decide_eq_true_iff]; omega
  have hlt0 : 0 < x.size := by omega
  have hg0 := getD_ix x 0 hlt0
  have hh : x.data.toList.head? = some x[0] := by
    rw [List.head?_eq_getElem?, List.getElem?_eq_getElem (by omega)]; rfl
  by_cases h45 : x[0] = 45
  · have ix := fun W => strIx x 0 hlt0 0 rfl W
    rw [h45] at ix
    have HMI : Hid (minusN x.data.toList = true) := Lib.hid (by unfold minusN; rw [hh, h45]; rfl)
    obtain ⟨y, hy⟩ : ∃ y, y = x.extract 1 x.size := ⟨_, rfl⟩
    have hyl : y.data.toList = x.data.toList.drop 1 := by rw [hy]; exact ext1 x
    have HDG : Hid (digsN x.data.toList = y.data.toList) := Lib.hid (by unfold digsN; rw [if_pos HMI.out, hyl])
    obtain ⟨L, hL⟩ : ∃ L, L = y.size := ⟨_, rfl⟩
    have HYZ : Hid (y.size = L) := Lib.hid hL.symm
    have HYS : Hid (y.data.toList.length = L) := Lib.hid (by rw [hL]; simp)
    have HYL : Hid (y.size ≤ 100000000) := Lib.hid (by rw [hy, ByteArray.size_extract]; omega)
    have hs1 : (1 : Int) ≤ (x.size : Int) := by omega
    have hyz := HYZ.out
    clear h45 hh hg0 hyl hsz hx hL
    go_enter Tryd.func46, Tryd.ntmps46
    go_wp2_with (fail)
    rw [← hy]
    clear hy
    go_wp2_with (fail)
    refine (rightDigits_ y w (by have := HYL.out; omega)).mono ?_
    rintro e w1 ⟨rfl, rfl⟩
    cases hr : rightN y.data.toList
    · as_aux_lemma =>
      have HE : Hid (numT x.data.toList = (0, false)) := Lib.hid (by unfold numT; rw [HDG.out, if_pos (.inl hr)])
      clear hr
      go_wp2_with (fail)
      go_ret2
      exact ⟨by rw [HE.out]; rfl, rfl⟩
    have HRR := Lib.hid (rightN_all hr)
    by_cases h48 : y.data.toList = [48]
    · as_aux_lemma =>
      have HE : Hid (numT x.data.toList = (0, false)) := Lib.hid (by unfold numT; rw [HDG.out, if_pos (.inr ⟨HMI.out, h48⟩)])
      have e0 : (y.toList == [48]) = true := by rw [Go.ByteArray.toList_eq, h48]; rfl
      clear hr h48
      go_wp2_with (fail)
      go_ret2
      exact ⟨by rw [HE.out]; rfl, rfl⟩
    have e0 : (y.toList == [48]) = false := by rw [Go.ByteArray.toList_eq, beq_eq_false_iff_ne]; exact h48
    have HE : Hid (numT x.data.toList = (-(valN y.data.toList : Int), true)) := Lib.hid (by
      unfold numT
      rw [HDG.out, if_neg, if_pos HMI.out]
      rintro (h | h)
      · rw [hr] at h; cases h
      · exact h48 h.2)
    clear hr h48
    go_wp2_with (fail)
    have hy18 : L ≤ 18 := by have := HRR.out.1; rw [HYS.out] at this; exact this
    go_loop [32, 6, 7] (fun i n _ => ∃ k : Nat, k ≤ L ∧ i = .int .i64 k ∧ n = .int .i64 ((valN (y.data.toList.take k) : Nat) : Int)) (fun i _ _ => L - (intOf i).toNat)
    case atStart => exact ⟨0, Nat.zero_le _, rfl, rfl⟩
    case round =>
      obtain ⟨k, hk, rfl, rfl⟩ := hrel
      have hv := valN_lt k y.data.toList (by rw [HYS.out]; exact hk) HRR.out.2
      have hp : (10 : Nat) ^ k ≤ 10 ^ 18 := Nat.pow_le_pow_right (by decide) (by omega)
      have hv2 : valN (y.data.toList.take k) < 1000000000000000000 := Nat.lt_of_lt_of_le hv hp
      clear hv hp
      by_cases hlt : k < L
      · as_aux_lemma =>
        have hkx : k < y.size := by rw [HYZ.out]; exact hlt
        have ixk := fun W => strIx y k hkx (k : Int) rfl W
        have hkl : k < y.data.toList.length := by rw [HYS.out]; exact hlt
        have hg : y.data.toList[k] = y[k] := rfl
        have HT : Hid (valN (y.data.toList.take (k + 1)) = 10 * valN (y.data.toList.take k) + (y[k].toNat - 48)) := Lib.hid (by rw [List.take_succ_eq_append_getElem hkl, hg, valN_snoc])
        have hdg := HRR.out.2 _ (List.getElem_mem hkl)
        rw [hg] at hdg
        obtain ⟨c, hc⟩ : ∃ c, c = y[k] := ⟨_, rfl⟩
        rw [← hc] at ixk HT hdg
        simp only [digB, Bool.and_eq_true, decide_eq_true_eq] at hdg
        have hv3 := valN_lt (k + 1) y.data.toList (by rw [HYS.out]; exact hlt) HRR.out.2
        have hp3 : (10 : Nat) ^ (k + 1) ≤ 10 ^ 18 := Nat.pow_le_pow_right (by decide) (by omega)
        have hv4 : valN (y.data.toList.take (k + 1)) < 1000000000000000000 := Nat.lt_of_lt_of_le hv3 hp3
        rw [HT.out] at hv4
        obtain ⟨V, hV⟩ : ∃ V, V = valN (y.data.toList.take k) := ⟨_, rfl⟩
        rw [← hV] at HT hv2 hv4 ⊢
        obtain ⟨d, hd⟩ : ∃ d : Nat, c.toNat = d + 48 := ⟨c.toNat - 48, by omega⟩
        have hw0 : IntKind.u8.wrap ((c.toNat : Int) - 48) = (d : Int) := by rw [hd, IntWalk.u8_in _ (by omega)]; omega
        have hw1 : IntKind.i64.wrap (10 * (V : Int)) = 10 * (V : Int) := IntWalk.i64_in _ (by omega)
        have hw2 : IntKind.i64.wrap (10 * (V : Int) + (d : Int)) = 10 * (V : Int) + (d : Int) := IntWalk.i64_in _ (by omega)
        have HTT : Hid (valN (y.data.toList.take (k + 1)) = 10 * V + d) := Lib.hid (by rw [HT.out]; omega)
        have HDD : Hid (10 * V + d < 1000000000000000000) := Lib.hid (by omega)
        clear hc hg hkl hkx hdg hv3 hp3 hv4 hV HT hd
        go_wp2_with (fail)
        go_round
        case rel => exact ⟨k + 1, by omega, by go_num, congrArg (Value.int .i64) (by rw [HTT.out, IntWalk.wrap64_in (d : Int) (by have := HDD.out; omega), IntWalk.wrap64_in _ (by have := HDD.out; omega)]; omega)⟩
        case measure => simp [intOf]; omega
      · obtain rfl : k = L := by omega
        rw [List.take_of_length_le (by rw [HYS.out]; exact Nat.le_refl _)] at hv2 ⊢
        obtain ⟨V, hV⟩ : ∃ V, V = valN y.data.toList := ⟨_, rfl⟩
        rw [← hV] at HE hv2 ⊢
        clear hV hlt
        have hw1 : IntKind.i64.wrap (-(V : Int)) = -(V : Int) := IntWalk.i64_in _ (by omega)
        go_wp2_with (fail)
        go_ret2
        exact ⟨by rw [HE.out]; rfl, rfl⟩
  · have ix := fun W => strIx x 0 hlt0 0 rfl W
    have HMI : Hid (minusN x.data.toList = false) := Lib.hid (by unfold minusN; rw [hh]; rw [decide_eq_false_iff_not]; intro e; exact h45 (Option.some.inj e))
    have HDG : Hid (digsN x.data.toList = x.data.toList) := Lib.hid (by unfold digsN; rw [if_neg (by rw [HMI.out]; decide)])
    have e45 : ((x[0].toNat : Int) == 45) = false := by
      rw [beq_eq_false_iff_ne]
      intro e
      exact h45 (UInt8.toNat_inj.1 (by simpa using (by omega : x[0].toNat = 45)))
    obtain ⟨c0, hc0⟩ : ∃ c0, c0 = x[0] := ⟨_, rfl⟩
    rw [← hc0] at ix e45
    obtain ⟨L, hL⟩ : ∃ L, L = x.size := ⟨_, rfl⟩
    have HYZ : Hid (x.size = L) := Lib.hid hL.symm
    have HYS : Hid (x.data.toList.length = L) := Lib.hid (by rw [hL]; simp)
    have HYL : Hid (x.size ≤ 100000000) := Lib.hid hx
    have hyz := HYZ.out
    clear h45 hh hg0 hsz hx hL hc0
    go_enter Tryd.func46, Tryd.ntmps46
    go_wp2_with (fail)
    refine (rightDigits_ x w (by have := HYL.out; omega)).mono ?_
    rintro e w1 ⟨rfl, rfl⟩
    cases hr : rightN x.data.toList
    · as_aux_lemma =>
      have HE : Hid (numT x.data.toList = (0, false)) := Lib.hid (by unfold numT; rw [HDG.out, if_pos (.inl hr)])
      clear hr
      go_wp2_with (fail)
      go_ret2
      exact ⟨by rw [HE.out]; rfl, rfl⟩
    have HRR := Lib.hid (rightN_all hr)
    have HE : Hid (numT x.data.toList = ((valN x.data.toList : Int), true)) := Lib.hid (by
      unfold numT
      rw [HDG.out, if_neg, if_neg (by rw [HMI.out]; decide)]
      rintro (h | h)
      · rw [hr] at h; cases h
      · rw [HMI.out] at h; exact absurd h.1 (by decide))
    clear hr
    go_wp2_with (fail)
    have hy18 : L ≤ 18 := by have := HRR.out.1; rw [HYS.out] at this; exact this
    go_loop [32, 6, 7] (fun i n _ => ∃ k : Nat, k ≤ L ∧ i = .int .i64 k ∧ n = .int .i64 ((valN (x.data.toList.take k) : Nat) : Int)) (fun i _ _ => L - (intOf i).toNat)
    case atStart => exact ⟨0, Nat.zero_le _, rfl, rfl⟩
    case round =>
      obtain ⟨k, hk, rfl, rfl⟩ := hrel
      have hv := valN_lt k x.data.toList (by rw [HYS.out]; exact hk) HRR.out.2
      have hp : (10 : Nat) ^ k ≤ 10 ^ 18 := Nat.pow_le_pow_right (by decide) (by omega)
      have hv2 : valN (x.data.toList.take k) < 1000000000000000000 := Nat.lt_of_lt_of_le hv hp
      clear hv hp
      by_cases hlt : k < L
      · as_aux_lemma =>
        have hkx : k < x.size := by rw [HYZ.out]; exact hlt
        have ixk := fun W => strIx x k hkx (k : Int) rfl W
        have hkl : k < x.data.toList.length := by rw [HYS.out]; exact hlt
        have hg : x.data.toList[k] = x[k] := rfl
        have HT : Hid (valN (x.data.toList.take (k + 1)) = 10 * valN (x.data.toList.take k) + (x[k].toNat - 48)) := Lib.hid (by rw [List.take_succ_eq_append_getElem hkl, hg, valN_snoc])
        have hdg := HRR.out.2 _ (List.getElem_mem hkl)
        rw [hg] at hdg
        obtain ⟨c, hc⟩ : ∃ c, c = x[k] := ⟨_, rfl⟩
        rw [← hc] at ixk HT hdg
        simp only [digB, Bool.and_eq_true, decide_eq_true_eq] at hdg
        have hv3 := valN_lt (k + 1) x.data.toList (by rw [HYS.out]; exact hlt) HRR.out.2
        have hp3 : (10 : Nat) ^ (k + 1) ≤ 10 ^ 18 := Nat.pow_le_pow_right (by decide) (by omega)
        have hv4 : valN (x.data.toList.take (k + 1)) < 1000000000000000000 := Nat.lt_of_lt_of_le hv3 hp3
        rw [HT.out] at hv4
        obtain ⟨V, hV⟩ : ∃ V, V = valN (x.data.toList.take k) := ⟨_, rfl⟩
        rw [← hV] at HT hv2 hv4 ⊢
        obtain ⟨d, hd⟩ : ∃ d : Nat, c.toNat = d + 48 := ⟨c.toNat - 48, by omega⟩
        have hw0 : IntKind.u8.wrap ((c.toNat : Int) - 48) = (d : Int) := by rw [hd, IntWalk.u8_in _ (by omega)]; omega
        have hw1 : IntKind.i64.wrap (10 * (V : Int)) = 10 * (V : Int) := IntWalk.i64_in _ (by omega)
        have hw2 : IntKind.i64.wrap (10 * (V : Int) + (d : Int)) = 10 * (V : Int) + (d : Int) := IntWalk.i64_in _ (by omega)
        have HTT : Hid (valN (x.data.toList.take (k + 1)) = 10 * V + d) := Lib.hid (by rw [HT.out]; omega)
        have HDD : Hid (10 * V + d < 1000000000000000000) := Lib.hid (by omega)
        clear hc hg hkl hkx hdg hv3 hp3 hv4 hV HT hd
        go_wp2_with (fail)
        go_round
        case rel => exact ⟨k + 1, by omega, by go_num, congrArg (Value.int .i64) (by rw [HTT.out, IntWalk.wrap64_in (d : Int) (by have := HDD.out; omega), IntWalk.wrap64_in _ (by have := HDD.out; omega)]; omega)⟩
        case measure => simp [intOf]; omega
      · obtain rfl : k = L := by omega
        rw [List.take_of_length_le (by rw [HYS.out]; exact Nat.le_refl _)] at hv2 ⊢
        obtain ⟨V, hV⟩ : ∃ V, V = valN x.data.toList := ⟨_, rfl⟩
        rw [← hV] at HE hv2 ⊢
        clear hV hlt
        go_wp2_with (fail)
        go_ret2
        exact ⟨by rw [HE.out]; rfl, rfl⟩
end Go.Proofs.YtnoppnnpennddaaDoor
