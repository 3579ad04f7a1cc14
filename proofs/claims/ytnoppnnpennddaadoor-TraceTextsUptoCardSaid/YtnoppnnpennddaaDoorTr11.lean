/- Layer 19's answers: numbers' texts. -/
import Derived.Test.YtnoppnnpennddaaDoorTrN
import Derived.Test.YtnoppnnpennddaaDoorTr10
namespace Go.Proofs.YtnoppnnpennddaaDoor
open Go.RowKit

/-- where the taking of digits stands -/
def DecS (n0 n : Nat) (s : List UInt8) : Prop := (s = [] ∧ n = n0) ∨ (s ≠ [] ∧ n = 0 ∧ Lib.decDigits n0 = s) ∨ (s ≠ [] ∧ 0 < n ∧ Lib.decDigits n0 = Lib.decDigits n ++ s)
theorem DecS.next {n0 n : Nat} {s : List UInt8} (h : DecS n0 n s) (hc : 0 < n ∨ s = []) : DecS n0 (n / 10) (UInt8.ofNat (48 + n % 10) :: s) := by
  have key : ∀ t : List UInt8, Lib.decDigits n0 = Lib.decDigits n ++ t → DecS n0 (n / 10) (UInt8.ofNat (48 + n % 10) :: t) := by
    intro t ht
    by_cases h10 : n < 10
    · refine .inr (.inl ⟨by simp, by omega, ?_⟩)
      rw [ht, Lib.decDigits_one h10, show n % 10 = n from by omega]
      rfl
    · refine .inr (.inr ⟨by simp, by omega, ?_⟩)
      rw [ht, dec_step h10]
      simp
  rcases h with ⟨rfl, rfl⟩ | ⟨h1, rfl, _⟩ | ⟨_, _, h3⟩
  · exact key [] (by simp)
  · rcases hc with h | h
    · omega
    · exact absurd h h1
  · exact key s h3
theorem DecS.len {n0 n : Nat} {s : List UInt8} (h : DecS n0 n s) : s.length ≤ (Lib.decDigits n0).length := by
  rcases h with ⟨rfl, rfl⟩ | ⟨_, _, h⟩ | ⟨_, _, h⟩
  · simp
  · rw [h]; exact Nat.le_refl _
  · rw [h, List.length_append]; omega
theorem DecS.done {n0 n : Nat} {s : List UInt8} (h : DecS n0 n s) (hc : ¬ (0 < n ∨ s = [])) : s = Lib.decDigits n0 := by
  rcases h with ⟨rfl, _⟩ | ⟨_, _, h⟩ | ⟨_, h2, _⟩
  · exact absurd (.inr rfl) hc
  · exact h.symm
  · exact absurd (.inl h2) hc

set_option maxHeartbeats 4000000 in
set_option maxRecDepth 100000 in
theorem refDecimal0 (n : Nat) (hn : n ≤ 9223372036854775807) (w : World) : Calls Tryd.prog 27 #[.int .i64 (n : Int)] w fun e w' => e = .returned (str (Lib.decDigits n)) ∧ Below w.heap.size w w' := by
  have HN := Lib.hid hn
  have HDL : Hid ((Lib.decDigits n).length ≤ 20) := Lib.hid (by
    have h := dec_len 18 n (by simp; omega)
    omega)
  have d0 : ¬ ((n : Int) < 0) := by omega
  go_enter Tryd.func27, Tryd.ntmps27
  go_wp2_with (fail)
  go_loopw [0, 3] (fun i s wr => ∃ (m : Nat) (S : List UInt8), m ≤ 9223372036854775807 ∧ i = .int .i64 (m : Int) ∧ s = str S ∧ DecS n m S ∧ Below w.heap.size w wr) (fun i s _ => 2 * (intOf i).toNat + (match s with | .string x => if x.size = 0 then 1 else 0 | _ => 0))
  case atStart => exact ⟨n, [], hn, rfl, rfl, .inl ⟨rfl, rfl⟩, Below.refl _ _⟩
  case round =>
    obtain ⟨wo, rfl⟩ : ∃ wo : World, wo = wr := ⟨_, rfl⟩
    obtain ⟨m, S, hm, rfl, rfl, hd, hb⟩ := hrel
    have HB := Lib.hid hb
    have HD := Lib.hid hd
    have HSL : Hid (S.length ≤ 20) := Lib.hid (by have := hd.len; have := HDL.out; omega)
    clear hb hd
    by_cases hc : 0 < m ∨ S = []
    · have HD2 := Lib.hid (HD.out.next hc)
      obtain ⟨d, hdd⟩ : ∃ d, d = UInt8.ofNat (48 + m % 10) := ⟨_, rfl⟩
      rw [← hdd] at HD2
      have hdn : (d.toNat : Int) = 48 + (m : Int) % 10 := by rw [hdd, digit_nat _ (by omega)]; omega
      have hw1 : IntKind.i64.wrap (48 + (m : Int) % 10) = 48 + (m : Int) % 10 := IntWalk.i64_in _ (by omega)
      have hw2 : IntKind.u8.wrap (48 + (m : Int) % 10) = (d.toNat : Int) := by rw [IntWalk.u8_in _ (by omega)]; omega
      have hcv := (Bs.lit wo [d] 5 #[.int .u8 (d.toNat : Int)] wo.heap.size rfl rfl rfl (by simp [maxLen])).str (P := Tryd.prog) 22 5 9 Tryd.underlying22 Tryd.underlying5 Tryd.underlying9
      simp only [List.length_cons, List.length_nil] at hcv
      have sl : ¬ (9223372036854775807 < 1 + S.length) := by have := HSL.out; omega
      have hdiv : (m : Int) / 10 = ((m / 10 : Nat) : Int) := by omega
      have HBA : Hid (Below w.heap.size w (wo.alloc (.cells #[.int .u8 (d.toNat : Int)] 5))) := Lib.hid (HB.out.alloc HB.out.size _)
      have HDV := Lib.hid hdiv
      have HDN := Lib.hid hdn
      by_cases hm0 : 0 < m
      · as_aux_lemma =>
        have g0 : (0 : Int) < (m : Int) := by omega
        have HDI := Lib.hid (show m / 10 < m by omega)
        clear hdd hdiv hdn hc HSL
        go_wp2_with (fail)
        have e1 : (txt [d] ++ txt S) = txt (d :: S) := by rw [txt_appT]; rfl
        refine ⟨⟨m / 10, d :: S, by omega, congrArg (Value.int .i64) HDV.out, congrArg Value.string e1, HD2.out, HBA.out⟩, ?_⟩
        have h1 : (txt [d] ++ txt S).size ≠ 0 := by rw [e1, size_txt]; simp
        have h2 := HDI.out
        have h3 := HDV.out
        simp only [intOf, h1, if_false]
        split <;> omega
      · have hS : S = [] := hc.resolve_left hm0
        obtain rfl : m = 0 := by omega
        subst hS
        have hd48 : d = 48 := by rw [hdd]; rfl
        subst hd48
        as_aux_lemma =>
        have hcv2 := (Bs.lit wo [48] 5 #[.int .u8 48] wo.heap.size rfl rfl rfl (by simp [maxLen])).str (P := Tryd.prog) 22 5 9 Tryd.underlying22 Tryd.underlying5 Tryd.underlying9
        simp only [List.length_cons, List.length_nil] at hcv2
        clear hdd hdiv hdn hc HSL hm0 hcv
        go_wp2_with (fail)
        refine ⟨⟨0, [48], by omega, rfl, rfl, HD2.out, HBA.out⟩, ?_⟩
        simp [intOf, ByteArray.size]
    · have HE := Lib.hid (HD.out.done hc)
      have hm0 : m = 0 := by omega
      have hS : S ≠ [] := fun e => hc (.inr e)
      have es3 : S.isEmpty = false := by
        cases S with
        | nil => exact absurd rfl hS
        | cons a r => rfl
      subst hm0
      clear hc hm hS
      go_wp2_with (fail)
      go_ret
      exact ⟨by rw [← HE.out]; rfl, HB.out⟩

theorem itoa_min : itoaT (-9223372036854775808) = [45, 57, 50, 50, 51, 51, 55, 50, 48, 51, 54, 56, 53, 52, 55, 55, 53, 56, 48, 56] := by
  have h : Lib.decDigits 9223372036854775808 = [57, 50, 50, 51, 51, 55, 50, 48, 51, 54, 56, 53, 52, 55, 55, 53, 56, 48, 56] := by
    simp [Lib.decDigits]
  unfold itoaT Lib.itoa
  rw [if_pos (by omega)]
  rw [show (-9223372036854775808 : Int).natAbs = 9223372036854775808 from rfl, h]
set_option maxHeartbeats 4000000 in
set_option maxRecDepth 100000 in
theorem refDecimal (n : Int) (h0 : -9223372036854775808 ≤ n) (h1 : n ≤ 9223372036854775807) (w : World) : Calls Tryd.prog 27 #[.int .i64 n] w fun e w' => e = .returned (str (itoaT n)) ∧ Below w.heap.size w w' := by
  by_cases hn : 0 ≤ n
  · obtain ⟨m, rfl⟩ : ∃ m : Nat, n = (m : Int) := ⟨n.toNat, by omega⟩
    have h := refDecimal0 m (by omega) w
    rwa [show itoaT (m : Int) = Lib.decDigits m from Lib.itoa_nonneg m]
  by_cases hm : n = -9223372036854775808
  · subst hm
    have HI := Lib.hid itoa_min
    clear h0 h1 hn
    go_enter Tryd.func27, Tryd.ntmps27
    go_wp2_with (fail)
    go_ret
    exact ⟨by rw [HI.out]; rfl, Below.refl _ _⟩
  obtain ⟨m, rfl⟩ : ∃ m : Nat, n = -(m : Int) := ⟨n.natAbs, by omega⟩
  have HI : Hid (itoaT (-(m : Int)) = 45 :: Lib.decDigits m) := Lib.hid (Lib.itoa_neg m (by omega))
  have HD := Lib.hid (fun W => refDecimal0 m (by omega) W)
  have HDL : Hid ((Lib.decDigits m).length ≤ 20) := Lib.hid (by
    have h := dec_len 18 m (by simp; omega)
    omega)
  have d0 : -(m : Int) < 0 := by omega
  have d1 : decide (-(m : Int) < 0) = true := by rw [decide_eq_true_iff]; exact d0
  have d2 : (-(m : Int) == -9223372036854775808) = false := by rw [beq_eq_false_iff_ne]; exact hm
  have hw : IntKind.i64.wrap (- -(m : Int)) = (m : Int) := by rw [IntWalk.i64_in _ (by omega)]; omega
  have hw' : IntKind.i64.wrap (m : Int) = (m : Int) := IntWalk.i64_in _ (by omega)
  clear hn
  go_enter Tryd.func27, Tryd.ntmps27
  go_wp2_with (fail)
  refine (HD.out w).mono ?_
  rintro e w1 ⟨rfl, hb1⟩
  have HB1 := Lib.hid hb1
  obtain ⟨X, hX⟩ : ∃ X, X = Lib.decDigits m := ⟨_, rfl⟩
  rw [← hX] at HI HDL ⊢
  have sl : ¬ (9223372036854775807 < 1 + X.length) := by have := HDL.out; omega
  clear hX hb1 HD
  go_wp2_with (fail)
  go_ret
  refine ⟨?_, HB1.out⟩
  rw [HI.out]
  show Ending.returned (Value.string ((⟨#[45]⟩ : ByteArray) ++ txt X)) = _
  rw [show (⟨#[45]⟩ : ByteArray) = txt [45] from rfl, txt_appT]
  rfl

theorem ne48 {c : UInt8} (h : c ≠ 48) : ((c.toNat : Int) == 48) = false := by
  rw [beq_eq_false_iff_ne]
  intro e
  exact h (UInt8.toNat_inj.1 (by simpa using (by omega : c.toNat = 48)))
theorem right_all {t : List UInt8} (h0 : t ≠ []) (h18 : t.length ≤ 18) (h : t.length ≤ 1 ∨ t.getD 0 0 ≠ 48) : rightN t = t.all digB := by
  have h1 : 1 ≤ t.length := List.length_pos_iff.2 h0
  have h2 : (decide (1 < t.length) && decide (t.getD 0 0 = 48)) = false := by
    rw [Bool.and_eq_false_iff]
    rcases h with h | h
    · exact .inl (decide_eq_false (by omega))
    · exact .inr (decide_eq_false h)
  unfold rightN
  rw [decide_eq_true h1, decide_eq_true h18, h2]
  rfl
theorem nought_no {t : List UInt8} (h48 : t.getD 0 0 = 48) (h0 : t ≠ []) (h : t ≠ [48]) : rightN t = false := by
  have h1 : 1 < t.length := by
    match t, h0 with
    | [a], _ => simp at h48; subst h48; exact absurd rfl h
    | a :: b :: r, _ => simp
  unfold rightN
  rw [decide_eq_true h1, decide_eq_true h48]
  simp
set_option maxHeartbeats 8000000 in
set_option maxRecDepth 100000 in
theorem refNumber (x : ByteArray) (w : World) (hx : x.size ≤ 100000000) : Calls Tryd.prog 32 #[.string x] w fun e w' => e = .returned (.tuple #[.int .i64 (numT x.data.toList).1, .bool (numT x.data.toList).2]) ∧ w' = w := by
  have hsz : x.data.toList.length = x.size := by simp
  by_cases h0 : x.data.toList = []
  · have HE : Hid (numT x.data.toList = (0, false)) := Lib.hid (by rw [h0]; rfl)
    have q1 : x.toList.isEmpty = true := by rw [Go.ByteArray.toList_eq, h0]; rfl
    clear h0 hsz
    go_enter Tryd.func32, Tryd.ntmps32
    go_wp2_with (fail)
    go_ret2
    exact ⟨by rw [HE.out]; rfl, rfl⟩
  have e0 : x.toList.isEmpty = false := by rw [Go.ByteArray.toList_eq]; cases hh : x.data.toList with | nil => exact absurd hh h0 | cons a b => rfl
  have hlt0 : 0 < x.size := by rw [← hsz]; exact List.length_pos_iff.2 h0
  have hh : x.data.toList.head? = some x[0] := by
    rw [List.head?_eq_getElem?, List.getElem?_eq_getElem (by omega)]; rfl
  by_cases h45 : x[0] = 45
  · have ix := fun W => strIx x 0 hlt0 0 rfl W
    rw [h45] at ix
    have HMI : Hid (minusN x.data.toList = true) := Lib.hid (by unfold minusN; rw [hh, h45]; rfl)
    have HX48 : Hid (x.data.toList ≠ [48]) := Lib.hid (fun e => by rw [e] at hh; simp only [List.head?_cons, Option.some.injEq] at hh; rw [h45] at hh; exact absurd hh (by decide))
    have hyl : (x.extract 1 x.size).data.toList = x.data.toList.drop 1 := ext1 x
    have HDG : Hid (digsN x.data.toList = (x.extract 1 x.size).data.toList) := Lib.hid (by unfold digsN; rw [if_pos HMI.out, hyl])
    have HYX : Hid ((x.extract 1 x.size).data.toList ≠ x.data.toList) := Lib.hid (fun e => by have := congrArg List.length e; rw [hyl, List.length_drop] at this; omega)
    obtain ⟨L, hL⟩ : ∃ L, L = (x.extract 1 x.size).size := ⟨_, rfl⟩
    have HYZ : Hid ((x.extract 1 x.size).size = L) := Lib.hid hL.symm
    have HYS : Hid ((x.extract 1 x.size).data.toList.length = L) := Lib.hid (by rw [hL]; simp)
    have hs1 : (1 : Int) ≤ (x.size : Int) := by omega
    have hyz := HYZ.out
    clear h45 hh hyl hsz hx hL h0
    by_cases hq0 : (x.extract 1 x.size).data.toList = []
    · as_aux_lemma =>
      have HE : Hid (numT x.data.toList = (0, false)) := Lib.hid (by unfold numT; rw [HDG.out, if_pos (.inl (by rw [hq0]; rfl))])
      have q1 : (x.extract 1 x.size).toList.isEmpty = true := by rw [Go.ByteArray.toList_eq, hq0]; rfl
      clear hq0
      go_enter Tryd.func32, Tryd.ntmps32
      go_wp2_with (fail)
      go_ret2
      exact ⟨by rw [HE.out]; rfl, rfl⟩
    have q1 : (x.extract 1 x.size).toList.isEmpty = false := by rw [Go.ByteArray.toList_eq]; cases hh : (x.extract 1 x.size).data.toList with | nil => exact absurd hh hq0 | cons a b => rfl
    by_cases hq2 : 18 < L
    · as_aux_lemma =>
      have HE : Hid (numT x.data.toList = (0, false)) := Lib.hid (by unfold numT; rw [HDG.out, if_pos (.inl (by unfold rightN; rw [decide_eq_false (p := _ ≤ 18) (by rw [HYS.out]; omega)]; simp))])
      have q2 : decide ((18 : Int) < ((x.extract 1 x.size).size : Int)) = true := by rw [HYZ.out, decide_eq_true_iff]; omega
      have q3 : (18 : Int) < ((x.extract 1 x.size).size : Int) := by rw [HYZ.out]; omega
      clear hq0 hq2
      go_enter Tryd.func32, Tryd.ntmps32
      go_wp2_with (fail)
      go_ret2
      exact ⟨by rw [HE.out]; rfl, rfl⟩
    have hL0 : 0 < L := by have := HYS.out; rcases Nat.eq_zero_or_pos L with h | h; exact absurd (List.eq_nil_of_length_eq_zero (by omega)) hq0; exact h
    have q2 : decide ((18 : Int) < ((x.extract 1 x.size).size : Int)) = false := by rw [HYZ.out, decide_eq_false_iff_not]; omega
    have q3 : ¬ ((18 : Int) < ((x.extract 1 x.size).size : Int)) := by rw [HYZ.out]; omega
    have hy0 : 0 < (x.extract 1 x.size).size := by rw [HYZ.out]; exact hL0
    have iy := fun W => strIx (x.extract 1 x.size) 0 hy0 0 rfl W
    have hgy := getD_ix (x.extract 1 x.size) 0 hy0
    by_cases hq4 : (x.extract 1 x.size)[0] = 48
    · as_aux_lemma =>
      have HE : Hid (numT x.data.toList = (0, false)) := Lib.hid (by
        unfold numT
        rw [HDG.out]
        by_cases h1 : (x.extract 1 x.size).data.toList = [48]
        · rw [if_pos (.inr ⟨HMI.out, h1⟩)]
        · rw [if_pos (.inl (nought_no (by rw [hgy]; exact hq4) hq0 h1))])
      rw [hq4] at iy
      have q5 : (x.toList == [48]) = false := by rw [Go.ByteArray.toList_eq, beq_eq_false_iff_ne]; exact HX48.out
      have q6 : (x.toList != [48]) = true := by rw [bne, q5]; rfl
      clear hq0 hq2 hq4 hgy
      go_enter Tryd.func32, Tryd.ntmps32
      go_wp2_with (fail)
      go_ret2
      exact ⟨by rw [HE.out]; rfl, rfl⟩
    have HNG : Hid (rightN (x.extract 1 x.size).data.toList = (x.extract 1 x.size).data.toList.all digB ∧ (x.extract 1 x.size).data.toList ≠ [48]) := Lib.hid ⟨right_all hq0 (by rw [HYS.out]; omega) (.inr (by rw [hgy]; exact hq4)), fun e => hq4 (by rw [← hgy, e]; rfl)⟩
    have q5 : (((x.extract 1 x.size)[0].toNat : Int) == 48) = false := ne48 hq4
    have hL18 : L ≤ 18 := by omega
    obtain ⟨c0, hc0⟩ : ∃ c0, c0 = (x.extract 1 x.size)[0] := ⟨_, rfl⟩
    rw [← hc0] at iy q5
    clear hq4 hgy hq2 hq0 hc0
    go_enter Tryd.func32, Tryd.ntmps32
    go_wp2_with (fail)
    go_loop [6, 5] (fun i n => ∃ k : Nat, k ≤ L ∧ i = .int .i64 k ∧ n = .int .i64 ((valN ((x.extract 1 x.size).data.toList.take k) : Nat) : Int) ∧ ((x.extract 1 x.size).data.toList.take k).all digB = true) (fun i _ => L - (intOf i).toNat)
    case atStart => exact ⟨0, Nat.zero_le _, rfl, rfl, rfl⟩
    case round =>
      obtain ⟨k, hk, rfl, rfl, hall⟩ := hrel
      have HALL := Lib.hid hall
      have hv := valN_lt k ((x.extract 1 x.size).data.toList.take k) (by rw [List.length_take, HYS.out]; omega) (List.all_eq_true.1 hall)
      rw [List.take_take, Nat.min_self] at hv
      have hp : (10 : Nat) ^ k ≤ 10 ^ 18 := Nat.pow_le_pow_right (by decide) (by omega)
      have hv2 : valN ((x.extract 1 x.size).data.toList.take k) < 1000000000000000000 := Nat.lt_of_lt_of_le hv hp
      clear hv hp hall
      by_cases hlt : k < L
      · have hkx : k < (x.extract 1 x.size).size := by rw [HYZ.out]; exact hlt
        have ixk := fun W => strIx (x.extract 1 x.size) k hkx (k : Int) rfl W
        have hkl : k < (x.extract 1 x.size).data.toList.length := by rw [HYS.out]; exact hlt
        have hg : (x.extract 1 x.size).data.toList[k] = (x.extract 1 x.size)[k] := rfl
        have HT : Hid ((x.extract 1 x.size).data.toList.take (k + 1) = (x.extract 1 x.size).data.toList.take k ++ [(x.extract 1 x.size)[k]]) := Lib.hid (by rw [List.take_succ_eq_append_getElem hkl, hg])
        have HMM : Hid ((x.extract 1 x.size)[k] ∈ (x.extract 1 x.size).data.toList) := Lib.hid (by rw [← hg]; exact List.getElem_mem hkl)
        obtain ⟨c, hc⟩ : ∃ c, c = (x.extract 1 x.size)[k] := ⟨_, rfl⟩
        rw [← hc] at ixk HT HMM
        clear hc hg hkl hkx
        have hv3 : valN ((x.extract 1 x.size).data.toList.take k) < 100000000000000000 := by
          have hv := valN_lt k ((x.extract 1 x.size).data.toList.take k) (by rw [List.length_take, HYS.out]; omega) (List.all_eq_true.1 HALL.out)
          rw [List.take_take, Nat.min_self] at hv
          exact Nat.lt_of_lt_of_le hv (Nat.pow_le_pow_right (by decide) (by omega : k ≤ 17))
        by_cases hd : c.toNat < 48
        · as_aux_lemma =>
          have HF : Hid (numT x.data.toList = (0, false)) := Lib.hid (by unfold numT; rw [HDG.out, if_pos (.inl (by rw [HNG.out.1, List.all_eq_false]; exact ⟨c, HMM.out, by simp [digB]; omega⟩))])
          have d1 : decide ((c.toNat : Int) < 48) = true := by rw [decide_eq_true_iff]; omega
          clear hd hv2 hv3
          go_wp2_with (fail)
          go_ret2
          exact ⟨by rw [HF.out]; rfl, rfl⟩
        have d1 : decide ((c.toNat : Int) < 48) = false := by rw [decide_eq_false_iff_not]; omega
        by_cases hd2 : 57 < c.toNat
        · as_aux_lemma =>
          have HF : Hid (numT x.data.toList = (0, false)) := Lib.hid (by unfold numT; rw [HDG.out, if_pos (.inl (by rw [HNG.out.1, List.all_eq_false]; exact ⟨c, HMM.out, by simp [digB]; omega⟩))])
          have d2 : decide ((57 : Int) < (c.toNat : Int)) = true := by rw [decide_eq_true_iff]; omega
          clear hd hd2 hv2 hv3
          go_wp2_with (fail)
          go_ret2
          exact ⟨by rw [HF.out]; rfl, rfl⟩
        have d2 : decide ((57 : Int) < (c.toNat : Int)) = false := by rw [decide_eq_false_iff_not]; omega
        as_aux_lemma =>
        have HDD : Hid (digB c = true) := Lib.hid (by simp [digB]; omega)
        obtain ⟨V, hV⟩ : ∃ V, V = valN ((x.extract 1 x.size).data.toList.take k) := ⟨_, rfl⟩
        have HTT : Hid (valN ((x.extract 1 x.size).data.toList.take (k + 1)) = 10 * V + (c.toNat - 48)) := Lib.hid (by rw [HT.out, valN_snoc, hV])
        rw [← hV] at hv2 hv3 ⊢
        obtain ⟨d, hdd⟩ : ∃ d : Nat, c.toNat = d + 48 := ⟨c.toNat - 48, by omega⟩
        have hc256 := c.toNat_lt
        have hw1 : IntKind.i64.wrap (10 * (V : Int)) = 10 * (V : Int) := IntWalk.i64_in _ (by omega)
        have hw2 : IntKind.i64.wrap (10 * (V : Int) + (c.toNat : Int)) = 10 * (V : Int) + (c.toNat : Int) := IntWalk.i64_in _ (by omega)
        have hw3 : IntKind.i64.wrap (10 * (V : Int) + (c.toNat : Int) - 48) = 10 * (V : Int) + (d : Int) := by rw [IntWalk.i64_in _ (by omega)]; omega
        have HRES : Hid (valN ((x.extract 1 x.size).data.toList.take (k + 1)) = 10 * V + d) := Lib.hid (by rw [HTT.out]; omega)
        clear hV hd hd2 hdd HTT hv3
        go_wp2_with (fail)
        go_round
        case rel => exact ⟨k + 1, by omega, by go_num, by rw [HRES.out]; congr 1; try omega, by rw [HT.out, List.all_append, HALL.out]; simp [HDD.out]⟩
        case measure => simp [intOf]; omega
      · obtain rfl : k = L := by omega
        have HALL2 := Lib.hid HALL.out
        rw [List.take_of_length_le (by rw [HYS.out]; exact Nat.le_refl _)] at hv2 HALL2 ⊢
        have HF : Hid (numT x.data.toList = (-(valN (x.extract 1 x.size).data.toList : Int), true)) := Lib.hid (by
          unfold numT
          rw [HDG.out, if_neg, if_pos HMI.out]
          rintro (h | h)
          · rw [HNG.out.1, HALL2.out] at h; cases h
          · exact HNG.out.2 h.2)
        obtain ⟨V, hV⟩ : ∃ V, V = valN (x.extract 1 x.size).data.toList := ⟨_, rfl⟩
        rw [← hV] at HF hv2 ⊢
        have hw1 : IntKind.i64.wrap (-(V : Int)) = -(V : Int) := IntWalk.i64_in _ (by omega)
        have ne1 : ((x.extract 1 x.size).toList == x.toList) = false := by rw [Go.ByteArray.toList_eq, Go.ByteArray.toList_eq, beq_eq_false_iff_ne]; exact HYX.out
        have ne2 : ((x.extract 1 x.size).toList != x.toList) = true := by rw [bne, ne1]; rfl
        have ne3 : ((x.extract 1 x.size).data.toList == x.data.toList) = false := by rw [beq_eq_false_iff_ne]; exact HYX.out
        clear hV hlt hk
        go_wp2_with (fail)
        go_ret2
        exact ⟨by rw [HF.out]; rfl, rfl⟩
  · have ix := fun W => strIx x 0 hlt0 0 rfl W
    have HMI : Hid (minusN x.data.toList = false) := Lib.hid (by unfold minusN; rw [hh]; rw [decide_eq_false_iff_not]; intro e; exact h45 (Option.some.inj e))
    have HDG : Hid (digsN x.data.toList = x.data.toList) := Lib.hid (by unfold digsN; rw [if_neg (by rw [HMI.out]; decide)])
    have e45 : ((x[0].toNat : Int) == 45) = false := by
      rw [beq_eq_false_iff_ne]
      intro e
      exact h45 (UInt8.toNat_inj.1 (by simpa using (by omega : x[0].toNat = 45)))
    obtain ⟨L, hL⟩ : ∃ L, L = x.size := ⟨_, rfl⟩
    have HYZ : Hid (x.size = L) := Lib.hid hL.symm
    have HYS : Hid (x.data.toList.length = L) := Lib.hid (by rw [hL]; simp)
    have hyz := HYZ.out
    clear h45 hh hsz hx hL
    obtain ⟨c1, hc1⟩ : ∃ c1, c1 = x[0] := ⟨_, rfl⟩
    have HC1 := Lib.hid hc1
    rw [← hc1] at ix e45
    clear hc1
    have hq0 := h0
    have q1 : x.toList.isEmpty = false := by rw [Go.ByteArray.toList_eq]; cases hh : x.data.toList with | nil => exact absurd hh hq0 | cons a b => rfl
    by_cases hq2 : 18 < L
    · as_aux_lemma =>
      have HE : Hid (numT x.data.toList = (0, false)) := Lib.hid (by unfold numT; rw [HDG.out, if_pos (.inl (by unfold rightN; rw [decide_eq_false (p := _ ≤ 18) (by rw [HYS.out]; omega)]; simp))])
      have q2 : decide ((18 : Int) < (x.size : Int)) = true := by rw [HYZ.out, decide_eq_true_iff]; omega
      have q3 : (18 : Int) < (x.size : Int) := by rw [HYZ.out]; omega
      clear hq0 hq2 h0
      go_enter Tryd.func32, Tryd.ntmps32
      go_wp2_with (fail)
      go_ret2
      exact ⟨by rw [HE.out]; rfl, rfl⟩
    have hL0 : 0 < L := by have := HYS.out; rcases Nat.eq_zero_or_pos L with h | h; exact absurd (List.eq_nil_of_length_eq_zero (by omega)) hq0; exact h
    have q2 : decide ((18 : Int) < (x.size : Int)) = false := by rw [HYZ.out, decide_eq_false_iff_not]; omega
    have q3 : ¬ ((18 : Int) < (x.size : Int)) := by rw [HYZ.out]; omega
    have hy0 : 0 < x.size := by rw [HYZ.out]; exact hL0
    have hgy : x.data.toList.getD 0 0 = c1 := (getD_ix x 0 hy0).trans HC1.out.symm
    by_cases hq4 : c1 = 48 ∧ x.data.toList ≠ [48]
    · as_aux_lemma =>
      have HE : Hid (numT x.data.toList = (0, false)) := Lib.hid (by
        unfold numT
        rw [HDG.out, if_pos (.inl (nought_no (by rw [hgy]; exact hq4.1) hq0 hq4.2))])
      rw [hq4.1] at ix e45
      have q5 : (x.toList == [48]) = false := by rw [Go.ByteArray.toList_eq, beq_eq_false_iff_ne]; exact hq4.2
      have q6 : (x.toList != [48]) = true := by rw [bne, q5]; rfl
      clear hq0 hq2 hq4 hgy
      go_enter Tryd.func32, Tryd.ntmps32
      go_wp2_with (fail)
      go_ret2
      exact ⟨by rw [HE.out]; rfl, rfl⟩
    have HNG : Hid (rightN x.data.toList = x.data.toList.all digB) := Lib.hid (by
      by_cases h1 : x.data.toList = [48]
      · rw [h1]; rfl
      · exact right_all hq0 (by rw [HYS.out]; omega) (.inr (by rw [hgy]; exact fun e => hq4 ⟨e, h1⟩)))
    have q5 : (((c1.toNat : Int) == 48) && (x.toList != [48])) = false := by
      rw [Bool.and_eq_false_iff]
      by_cases h1 : c1 = 48
      · right
        have h2 : x.data.toList = [48] := Classical.byContradiction (fun h => hq4 ⟨h1, h⟩)
        rw [bne_eq_false_iff_eq, Go.ByteArray.toList_eq]
        exact h2
      · exact .inl (ne48 h1)
    have hL18 : L ≤ 18 := by omega
    have q7 : ((c1.toNat : Int) == 48) = false ∨ (x.toList == [48]) = true := by
      rcases Bool.and_eq_false_iff.1 q5 with h | h
      · exact .inl h
      · right
        rwa [bne, Bool.not_eq_false'] at h
    clear q5 hq4 hgy hq2 hq0 h0
    have fin : ∀ (b : Bool), (x.toList == [48]) = b → ((c1.toNat : Int) == 48) = false ∨ b = true := fun b hb => hb ▸ q7
    clear q7
    rcases hqb : (x.toList == [48]) with _ | _
    · have q8 := fin _ hqb
      have q9 : ((c1.toNat : Int) == 48) = false := q8.resolve_right (by decide)
      have q10 : (x.toList != [48]) = true := by rw [bne, hqb]; rfl
      clear fin q8
      go_enter Tryd.func32, Tryd.ntmps32
      go_wp2_with (fail)
      go_loop [6, 5] (fun i n => ∃ k : Nat, k ≤ L ∧ i = .int .i64 k ∧ n = .int .i64 ((valN (x.data.toList.take k) : Nat) : Int) ∧ (x.data.toList.take k).all digB = true) (fun i _ => L - (intOf i).toNat)
      case atStart => exact ⟨0, Nat.zero_le _, rfl, rfl, rfl⟩
      case round =>
        obtain ⟨k, hk, rfl, rfl, hall⟩ := hrel
        have HALL := Lib.hid hall
        have hv := valN_lt k (x.data.toList.take k) (by rw [List.length_take, HYS.out]; omega) (List.all_eq_true.1 hall)
        rw [List.take_take, Nat.min_self] at hv
        have hp : (10 : Nat) ^ k ≤ 10 ^ 18 := Nat.pow_le_pow_right (by decide) (by omega)
        have hv2 : valN (x.data.toList.take k) < 1000000000000000000 := Nat.lt_of_lt_of_le hv hp
        clear hv hp hall
        by_cases hlt : k < L
        · have hkx : k < x.size := by rw [HYZ.out]; exact hlt
          have ixk := fun W => strIx x k hkx (k : Int) rfl W
          have hkl : k < x.data.toList.length := by rw [HYS.out]; exact hlt
          have hg : x.data.toList[k] = x[k] := rfl
          have HT : Hid (x.data.toList.take (k + 1) = x.data.toList.take k ++ [x[k]]) := Lib.hid (by rw [List.take_succ_eq_append_getElem hkl, hg])
          have HMM : Hid (x[k] ∈ x.data.toList) := Lib.hid (by rw [← hg]; exact List.getElem_mem hkl)
          obtain ⟨c, hc⟩ : ∃ c, c = x[k] := ⟨_, rfl⟩
          rw [← hc] at ixk HT HMM
          clear hc hg hkl hkx
          have hv3 : valN (x.data.toList.take k) < 100000000000000000 := by
            have hv := valN_lt k (x.data.toList.take k) (by rw [List.length_take, HYS.out]; omega) (List.all_eq_true.1 HALL.out)
            rw [List.take_take, Nat.min_self] at hv
            exact Nat.lt_of_lt_of_le hv (Nat.pow_le_pow_right (by decide) (by omega : k ≤ 17))
          by_cases hd : c.toNat < 48
          · as_aux_lemma =>
            have HF : Hid (numT x.data.toList = (0, false)) := Lib.hid (by unfold numT; rw [HDG.out, if_pos (.inl (by rw [HNG.out, List.all_eq_false]; exact ⟨c, HMM.out, by simp [digB]; omega⟩))])
            have d1 : decide ((c.toNat : Int) < 48) = true := by rw [decide_eq_true_iff]; omega
            clear hd hv2 hv3
            go_wp2_with (fail)
            go_ret2
            exact ⟨by rw [HF.out]; rfl, rfl⟩
          have d1 : decide ((c.toNat : Int) < 48) = false := by rw [decide_eq_false_iff_not]; omega
          by_cases hd2 : 57 < c.toNat
          · as_aux_lemma =>
            have HF : Hid (numT x.data.toList = (0, false)) := Lib.hid (by unfold numT; rw [HDG.out, if_pos (.inl (by rw [HNG.out, List.all_eq_false]; exact ⟨c, HMM.out, by simp [digB]; omega⟩))])
            have d2 : decide ((57 : Int) < (c.toNat : Int)) = true := by rw [decide_eq_true_iff]; omega
            clear hd hd2 hv2 hv3
            go_wp2_with (fail)
            go_ret2
            exact ⟨by rw [HF.out]; rfl, rfl⟩
          have d2 : decide ((57 : Int) < (c.toNat : Int)) = false := by rw [decide_eq_false_iff_not]; omega
          as_aux_lemma =>
          have HDD : Hid (digB c = true) := Lib.hid (by simp [digB]; omega)
          obtain ⟨V, hV⟩ : ∃ V, V = valN (x.data.toList.take k) := ⟨_, rfl⟩
          have HTT : Hid (valN (x.data.toList.take (k + 1)) = 10 * V + (c.toNat - 48)) := Lib.hid (by rw [HT.out, valN_snoc, hV])
          rw [← hV] at hv2 hv3 ⊢
          obtain ⟨d, hdd⟩ : ∃ d : Nat, c.toNat = d + 48 := ⟨c.toNat - 48, by omega⟩
          have hc256 := c.toNat_lt
          have hw1 : IntKind.i64.wrap (10 * (V : Int)) = 10 * (V : Int) := IntWalk.i64_in _ (by omega)
          have hw2 : IntKind.i64.wrap (10 * (V : Int) + (c.toNat : Int)) = 10 * (V : Int) + (c.toNat : Int) := IntWalk.i64_in _ (by omega)
          have hw3 : IntKind.i64.wrap (10 * (V : Int) + (c.toNat : Int) - 48) = 10 * (V : Int) + (d : Int) := by rw [IntWalk.i64_in _ (by omega)]; omega
          have HRES : Hid (valN (x.data.toList.take (k + 1)) = 10 * V + d) := Lib.hid (by rw [HTT.out]; omega)
          clear hV hd hd2 hdd HTT hv3
          go_wp2_with (fail)
          go_round
          case rel => exact ⟨k + 1, by omega, by go_num, by rw [HRES.out]; congr 1; try omega, by rw [HT.out, List.all_append, HALL.out]; simp [HDD.out]⟩
          case measure => simp [intOf]; omega
        · obtain rfl : k = L := by omega
          have HALL2 := Lib.hid HALL.out
          rw [List.take_of_length_le (by rw [HYS.out]; exact Nat.le_refl _)] at hv2 HALL2 ⊢
          have HF : Hid (numT x.data.toList = ((valN x.data.toList : Int), true)) := Lib.hid (by
            unfold numT
            rw [HDG.out, if_neg, if_neg (by rw [HMI.out]; decide)]
            rintro (h | h)
            · rw [HNG.out, HALL2.out] at h; cases h
            · rw [HMI.out] at h; exact absurd h.1 (by decide))
          obtain ⟨V, hV⟩ : ∃ V, V = valN x.data.toList := ⟨_, rfl⟩
          rw [← hV] at HF hv2 ⊢
          clear hV hlt hk
          go_wp2_with (fail)
          go_ret2
          exact ⟨by rw [HF.out]; rfl, rfl⟩
    · have q8 := fin _ hqb
      have q10 : (x.toList != [48]) = false := by rw [bne, hqb]; rfl
      have h48 : c1 = 48 := by
        have hl : x.data.toList = [48] := by rw [← Go.ByteArray.toList_eq]; exact eq_of_beq hqb
        have hg := getD_ix x 0 hlt0
        rw [HC1.out, ← hg, hl]
        rfl
      rw [h48] at ix e45
      clear h48
      clear fin q8
      go_enter Tryd.func32, Tryd.ntmps32
      go_wp2_with (fail)
      go_loop [6, 5] (fun i n => ∃ k : Nat, k ≤ L ∧ i = .int .i64 k ∧ n = .int .i64 ((valN (x.data.toList.take k) : Nat) : Int) ∧ (x.data.toList.take k).all digB = true) (fun i _ => L - (intOf i).toNat)
      case atStart => exact ⟨0, Nat.zero_le _, rfl, rfl, rfl⟩
      case round =>
        obtain ⟨k, hk, rfl, rfl, hall⟩ := hrel
        have HALL := Lib.hid hall
        have hv := valN_lt k (x.data.toList.take k) (by rw [List.length_take, HYS.out]; omega) (List.all_eq_true.1 hall)
        rw [List.take_take, Nat.min_self] at hv
        have hp : (10 : Nat) ^ k ≤ 10 ^ 18 := Nat.pow_le_pow_right (by decide) (by omega)
        have hv2 : valN (x.data.toList.take k) < 1000000000000000000 := Nat.lt_of_lt_of_le hv hp
        clear hv hp hall
        by_cases hlt : k < L
        · have hkx : k < x.size := by rw [HYZ.out]; exact hlt
          have ixk := fun W => strIx x k hkx (k : Int) rfl W
          have hkl : k < x.data.toList.length := by rw [HYS.out]; exact hlt
          have hg : x.data.toList[k] = x[k] := rfl
          have HT : Hid (x.data.toList.take (k + 1) = x.data.toList.take k ++ [x[k]]) := Lib.hid (by rw [List.take_succ_eq_append_getElem hkl, hg])
          have HMM : Hid (x[k] ∈ x.data.toList) := Lib.hid (by rw [← hg]; exact List.getElem_mem hkl)
          obtain ⟨c, hc⟩ : ∃ c, c = x[k] := ⟨_, rfl⟩
          rw [← hc] at ixk HT HMM
          clear hc hg hkl hkx
          have hv3 : valN (x.data.toList.take k) < 100000000000000000 := by
            have hv := valN_lt k (x.data.toList.take k) (by rw [List.length_take, HYS.out]; omega) (List.all_eq_true.1 HALL.out)
            rw [List.take_take, Nat.min_self] at hv
            exact Nat.lt_of_lt_of_le hv (Nat.pow_le_pow_right (by decide) (by omega : k ≤ 17))
          by_cases hd : c.toNat < 48
          · as_aux_lemma =>
            have HF : Hid (numT x.data.toList = (0, false)) := Lib.hid (by unfold numT; rw [HDG.out, if_pos (.inl (by rw [HNG.out, List.all_eq_false]; exact ⟨c, HMM.out, by simp [digB]; omega⟩))])
            have d1 : decide ((c.toNat : Int) < 48) = true := by rw [decide_eq_true_iff]; omega
            clear hd hv2 hv3
            go_wp2_with (fail)
            go_ret2
            exact ⟨by rw [HF.out]; rfl, rfl⟩
          have d1 : decide ((c.toNat : Int) < 48) = false := by rw [decide_eq_false_iff_not]; omega
          by_cases hd2 : 57 < c.toNat
          · as_aux_lemma =>
            have HF : Hid (numT x.data.toList = (0, false)) := Lib.hid (by unfold numT; rw [HDG.out, if_pos (.inl (by rw [HNG.out, List.all_eq_false]; exact ⟨c, HMM.out, by simp [digB]; omega⟩))])
            have d2 : decide ((57 : Int) < (c.toNat : Int)) = true := by rw [decide_eq_true_iff]; omega
            clear hd hd2 hv2 hv3
            go_wp2_with (fail)
            go_ret2
            exact ⟨by rw [HF.out]; rfl, rfl⟩
          have d2 : decide ((57 : Int) < (c.toNat : Int)) = false := by rw [decide_eq_false_iff_not]; omega
          as_aux_lemma =>
          have HDD : Hid (digB c = true) := Lib.hid (by simp [digB]; omega)
          obtain ⟨V, hV⟩ : ∃ V, V = valN (x.data.toList.take k) := ⟨_, rfl⟩
          have HTT : Hid (valN (x.data.toList.take (k + 1)) = 10 * V + (c.toNat - 48)) := Lib.hid (by rw [HT.out, valN_snoc, hV])
          rw [← hV] at hv2 hv3 ⊢
          obtain ⟨d, hdd⟩ : ∃ d : Nat, c.toNat = d + 48 := ⟨c.toNat - 48, by omega⟩
          have hc256 := c.toNat_lt
          have hw1 : IntKind.i64.wrap (10 * (V : Int)) = 10 * (V : Int) := IntWalk.i64_in _ (by omega)
          have hw2 : IntKind.i64.wrap (10 * (V : Int) + (c.toNat : Int)) = 10 * (V : Int) + (c.toNat : Int) := IntWalk.i64_in _ (by omega)
          have hw3 : IntKind.i64.wrap (10 * (V : Int) + (c.toNat : Int) - 48) = 10 * (V : Int) + (d : Int) := by rw [IntWalk.i64_in _ (by omega)]; omega
          have HRES : Hid (valN (x.data.toList.take (k + 1)) = 10 * V + d) := Lib.hid (by rw [HTT.out]; omega)
          clear hV hd hd2 hdd HTT hv3
          go_wp2_with (fail)
          go_round
          case rel => exact ⟨k + 1, by omega, by go_num, by rw [HRES.out]; congr 1; try omega, by rw [HT.out, List.all_append, HALL.out]; simp [HDD.out]⟩
          case measure => simp [intOf]; omega
        · obtain rfl : k = L := by omega
          have HALL2 := Lib.hid HALL.out
          rw [List.take_of_length_le (by rw [HYS.out]; exact Nat.le_refl _)] at hv2 HALL2 ⊢
          have HF : Hid (numT x.data.toList = ((valN x.data.toList : Int), true)) := Lib.hid (by
            unfold numT
            rw [HDG.out, if_neg, if_neg (by rw [HMI.out]; decide)]
            rintro (h | h)
            · rw [HNG.out, HALL2.out] at h; cases h
            · rw [HMI.out] at h; exact absurd h.1 (by decide))
          obtain ⟨V, hV⟩ : ∃ V, V = valN x.data.toList := ⟨_, rfl⟩
          rw [← hV] at HF hv2 ⊢
          clear hV hlt hk
          go_wp2_with (fail)
          go_ret2
          exact ⟨by rw [HF.out]; rfl, rfl⟩
end Go.Proofs.YtnoppnnpennddaaDoor
