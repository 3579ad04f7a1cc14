/- The document's disk: the power goes, walked. -/
import Derived.Test.YtolomfdommnklaaRk6
import Derived.BigQuiet
namespace Go.Proofs.Ytolomfdommnklaa
open Go.RowKit Go.MapKept

/-- how many bytes behind the safe ones stay -/
def powK (kp : Int) (f : Fl) : Nat := (min kp ((f.bs.length : Int) - (f.safe : Int))).toNat
def powF (kp : Int) (f : Fl) : Fl := ⟨f.bs.take (f.safe + powK kp f), f.safe + powK kp f⟩
def powL (kp : Int) (L : Fs) : Fs := L.map fun e => (e.1, powF kp e.2)
def Rk.power (r : Rk) : Rk := { r with armed := 0, fail := 0 }
theorem powK_le {kp : Int} {f : Fl} (h : f.safe ≤ f.bs.length) : f.safe + powK kp f ≤ f.bs.length := by unfold powK; omega
theorem powL_len {kp : Int} {L : Fs} : (powL kp L).length = L.length := by simp [powL]
theorem powL_take {kp : Int} {L : Fs} {j : Nat} (h : j < L.length) : powL kp (L.take (j + 1)) = powL kp (L.take j) ++ [(L[j].1, powF kp L[j].2)] := by
  unfold powL
  rw [List.take_succ_eq_append_getElem h, List.map_append]
  rfl
section
variable {w : World} {B G : Nat} {E : Nat → Prop} {r : Rk} {L : Fs} {v : Value} {P : List Value}
set_option maxHeartbeats 16000000 in
set_option maxRecDepth 100000 in
theorem rkPower (h : RkAt w B G E r L v P) (hL : L.length ≤ 100000) (hsa : ∀ e ∈ L, e.2.safe ≤ e.2.bs.length) (hby : ∀ e ∈ L, e.2.bs.length ≤ 1099511627776) (kp : Int) :
    Calls Try.prog 22 #[pR G, .int .i64 kp] w (fun x w' => x = .returned (.tuple #[]) ∧ ∃ P', RkAt w' B G E r.power (powL kp L) v P' ∧ Ch (RF G v) w w') := by
  obtain ⟨A, c, rfl, hc1, hc2⟩ := h.form
  have H := Lib.hid h
  have HL := Lib.hid hL
  have HSA := Lib.hid hsa
  have HBY := Lib.hid hby
  have HC2 := Lib.hid hc2
  obtain ⟨n, hn⟩ : ∃ n, n = L.length := ⟨_, rfl⟩
  have HN := Lib.hid hn
  rw [← hn] at hc1 H ⊢
  have hcc : (n : Int) ≤ (c : Int) := by omega
  clear h hL hsa hby hn hc1 hc2
  go_enter Try.func22, Try.ntmps22
  go_wp2_with (fail)
  go_loopw [4] (fun i wr => ∃ k : Nat, k ≤ n ∧ i = .int .i64 k ∧ ∃ Q, RkAt wr B G E r (powL kp (L.take k) ++ L.drop k) (.slice A n c) Q ∧ Ch (RF G (.slice A n c)) w wr) (fun i _ => n - (intOf i).toNat)
  case atStart => exact ⟨0, by omega, rfl, P, by simpa [powL] using H.out, Ch.refl _ _⟩
  case round =>
    obtain ⟨k, hk, rfl, Q, hq, hch⟩ := hrel
    have c0 : wr.cell? ⟨G, 0, none⟩ = some (.slice A n c) := hq.cell 0
    have HQ := Lib.hid hq
    have HCH := Lib.hid hch
    clear hq hch
    by_cases hlt : k < n
    · have hkl : k < L.length := by have := HN.out; omega
      have HT := Lib.hid (powL_take (kp := kp) hkl)
      obtain ⟨e, he⟩ : ∃ e, e = L[k] := ⟨_, rfl⟩
      rw [← he] at HT
      obtain ⟨nm, f⟩ := e
      have HD : Hid (L.drop k = (nm, f) :: L.drop (k + 1)) := Lib.hid (by rw [he, List.getElem_cons_drop])
      have HM : Hid (f.safe ≤ f.bs.length ∧ f.bs.length ≤ 1099511627776) := Lib.hid ⟨HSA.out (nm, f) (by rw [he]; exact List.getElem_mem _), HBY.out (nm, f) (by rw [he]; exact List.getElem_mem _)⟩
      obtain ⟨A0, hA0⟩ : ∃ A0, A0 = powL kp (L.take k) := ⟨_, rfl⟩
      obtain ⟨Q0, hQ0⟩ : ∃ Q0, Q0 = L.drop (k + 1) := ⟨_, rfl⟩
      have HAL : Hid (A0.length = k) := Lib.hid (by rw [hA0, powL_len, List.length_take]; omega)
      have hq := HQ.out
      rw [HD.out, ← hA0, ← hQ0] at hq
      obtain ⟨g, n1, cv, Pa, A7, m7, c7, Pb, hvv, hn1, hnc, hcm, rfl, hpa, hB7, hdv, _, x1, x2, fz⟩ := hq.mid
      injection hvv with hv1 hv2 hv3
      subst hv1 hv2 hv3
      have HQ2 := Lib.hid hq
      have HPA := Lib.hid hpa
      have HN1 := Lib.hid hn1
      have HDV := Lib.hid hdv
      have hm7 : f.bs.length = m7 := hB7.len
      have hc7 : m7 ≤ c7 := hB7.2.1
      have HM7 := Lib.hid hm7
      have HC7 := Lib.hid hc7
      have HA0 := Lib.hid hA0
      have HQ0 := Lib.hid hQ0
      rw [HAL.out] at x1 x2
      have hw5 : IntKind.i64.wrap ((k : Int) + 1) = (k : Int) + 1 := IntWalk.i64_in _ (by have := HL.out; omega)
      have hw6 : IntKind.i64.wrap ((m7 : Int) - (f.safe : Int)) = (m7 : Int) - (f.safe : Int) := IntWalk.i64_in _ (by have := HM.out; have := HM7.out; omega)
      clear hq hpa hn1 hdv hm7 hc7 hA0 hQ0 HQ he hkl hB7 fz hnc hcm
      have hin : (k : Int) < (n : Int) := by omega
      go_wp2_with (fail)
      go_quiet (fail)
      have HBQ : Hid (Below wr.heap.size wr (wr.drewN nq)) := Lib.hid (drawN_below (Below.refl _ _) nq)
      have HQ3 := Lib.hid (HQ2.out.below HBQ.out)
      have HCH3 := Lib.hid (HCH.out.trans (Ch.of_below (S := fun _ => False) HBQ.out) (fun _ _ h => h.elim))
      clear c0 x1 x2 HQ2 HCH HBQ hw6
      generalize wr.drewN nq = w3 at *
      obtain ⟨D, hD⟩ : ∃ D, D = (m7 : Int) - (f.safe : Int) := ⟨_, rfl⟩
      have HD2 := Lib.hid hD
      rw [← hD]
      clear hD
      go_upto_if 35 with (fail)
      go_cut [5] (fun x wx => x = .int .i64 (min kp D) ∧ wx = w3)
      case first =>
        by_cases hc : kp < D
        · have d1 : decide (kp < D) = true := decide_eq_true hc
          have HMIN : Hid (min kp D = kp) := Lib.hid (by omega)
          go_wp2_with (fail)
          go_meet
          exact ⟨by rw [HMIN.out], rfl⟩
        · have d1 : decide (kp < D) = false := decide_eq_false hc
          have HMIN : Hid (min kp D = D) := Lib.hid (by omega)
          go_wp2_with (fail)
          go_meet
          exact ⟨by rw [HMIN.out], rfl⟩
      case rest =>
        obtain ⟨rfl, hw⟩ := hcut
        obtain rfl := hw.symm
        obtain ⟨K, hK⟩ : ∃ K, K = min kp D := ⟨_, rfl⟩
        have HK := Lib.hid hK
        rw [← hK]
        clear hK
        obtain ⟨M, hM⟩ : ∃ M, M = powK kp f := ⟨_, rfl⟩
        have HMM := Lib.hid hM
        clear hM
        have HKM : Hid (M = K.toNat) := Lib.hid (by rw [HMM.out, HK.out, HD2.out, ← HM7.out]; rfl)
        go_upto_if 38 with (fail)
        go_cut [5] (fun x wx => x = .int .i64 ((M : Nat) : Int) ∧ wx = w3)
        case first =>
          by_cases hc : K < 0
          · have d1 : decide (K < 0) = true := decide_eq_true hc
            have HMIN : Hid (((M : Nat) : Int) = 0) := Lib.hid (by have := HKM.out; omega)
            go_wp2_with (fail)
            go_meet
            exact ⟨by rw [HMIN.out], rfl⟩
          · have d1 : decide (K < 0) = false := decide_eq_false hc
            have HMIN : Hid (((M : Nat) : Int) = K) := Lib.hid (by have := HKM.out; omega)
            go_wp2_with (fail)
            go_meet
            exact ⟨by rw [HMIN.out], rfl⟩
        case rest =>
          obtain ⟨rfl, hw⟩ := hcut
          obtain rfl := hw.symm
          obtain ⟨N, hN⟩ : ∃ N, N = f.safe + M := ⟨_, rfl⟩
          have HNN := Lib.hid hN
          have HNM : Hid (N ≤ m7) := Lib.hid (by have := powK_le (kp := kp) HM.out.1; rw [← HMM.out] at this; have := HM7.out; omega)
          have HPF : Hid (powF kp f = ⟨f.bs.take N, N⟩) := Lib.hid (by rw [hN, HMM.out]; rfl)
          have hw6 : IntKind.i64.wrap ((f.safe : Int) + (M : Int)) = ((N : Nat) : Int) := by
            rw [hN]
            push_cast
            exact IntWalk.i64_in _ (by have := HM.out; have := HM7.out; have := HNM.out; omega)
          clear hN
          have sl1 : ∀ W, (Instr.sliceAt 22 (.slice A7 m7 c7) none (some (.int .i64 ((N : Nat) : Int))) none).run Try.prog W = .ok (.slice A7 N c7) W := fun W => slice_fr A7 m7 c7 N (by have := HC7.out; have := HNM.out; omega) W
          have HCX : Hid (w3.cell? ⟨G, 0, none⟩ = some (.slice (some ⟨g, 0, none⟩) n c) ∧ w3.cell? ⟨g, k * 3 + 1, none⟩ = some (.slice A7 m7 c7) ∧ w3.cell? ⟨g, k * 3 + 2, none⟩ = some (.int .i64 (f.safe : Int)) ∧ (∀ j, w3.frozen? ⟨g, j, none⟩ = false)) := Lib.hid (by
            obtain ⟨g', n1, cv, Pa', A8, m8, c8, Pb', hvv, hn1, _, _, hpp, hpa', _, _, y0, y1, y2, fz⟩ := HQ3.out.mid
            rw [HAL.out] at y1 y2
            injection hvv with hv1 hv2 hv3
            injection hv1 with hv1
            injection hv1 with hv1
            subst hv1 hv2 hv3
            have hd : (Value.slice A7 m7 c7) = .slice A8 m8 c8 := by
              have := congrArg (fun l => l[A0.length]?) hpp
              rw [List.getElem?_append_right (by have := HPA.out; omega), List.getElem?_append_right (by omega), HPA.out, hpa', Nat.sub_self] at this
              simpa using this
            rw [← hd] at y1
            exact ⟨y0, y1, y2, fz⟩)
          obtain ⟨c0, x1, x2, fz⟩ := HCX.out
          have f1 := fz (k * 3 + 1)
          have HQ4 : Hid (RkAt (w3.setCell ⟨g, k * 3 + 1, none⟩ (.slice A7 N c7)) B G E r (A0 ++ (nm, ⟨f.bs.take N, f.safe⟩) :: Q0) (.slice (some ⟨g, 0, none⟩) n c) (Pa ++ .slice A7 N c7 :: Pb)) := Lib.hid (by
            obtain ⟨A8, m8, c8, e8, hB8, hx8⟩ := HQ3.out.dat A0.length (nm, f) (.slice A7 m7 c7) (by rw [List.getElem?_append_right (Nat.le_refl _), Nat.sub_self]; rfl) (by rw [List.getElem?_append_right (by have := HPA.out; omega), HPA.out, Nat.sub_self]; rfl)
            cases e8
            have := HQ3.out.setD HPA.out (.slice A7 N c7) (f.bs.take N) ⟨A7, N, c7, rfl, hB8.front HNM.out, fun a ha => (hx8 a ha).imp (fun h0 => by have := HNM.out; omega) id⟩
            rw [HAL.out] at this
            exact this)
          have HQ5 : Hid (RkAt ((w3.setCell ⟨g, k * 3 + 1, none⟩ (.slice A7 N c7)).setCell ⟨g, k * 3 + 2, none⟩ (.int .i64 (N : Int))) B G E r (A0 ++ (nm, ⟨f.bs.take N, N⟩) :: Q0) (.slice (some ⟨g, 0, none⟩) n c) (Pa ++ .slice A7 N c7 :: Pb)) := Lib.hid (by
            have := HQ4.out.setS HPA.out N
            rw [HAL.out] at this
            exact this)
          have HC5 : Hid (Ch (RF G (.slice (some ⟨g, 0, none⟩) n c)) w ((w3.setCell ⟨g, k * 3 + 1, none⟩ (.slice A7 N c7)).setCell ⟨g, k * 3 + 2, none⟩ (.int .i64 (N : Int)))) := Lib.hid ((HCH3.out.trans ((Ch.refl _ w3).set1 (k * 3 + 1) (.slice A7 N c7)) (fun k _ hk => .inr (by rw [hk]; rfl))).trans ((Ch.refl _ _).set1 (k * 3 + 2) (.int .i64 (N : Int))) (fun k _ hk => .inr (by rw [hk]; rfl)))
          have HY : Hid ((w3.setCell ⟨g, k * 3 + 1, none⟩ (.slice A7 N c7)).drew.cell? ⟨G, 0, none⟩ = some (.slice (some ⟨g, 0, none⟩) n c) ∧ (w3.setCell ⟨g, k * 3 + 1, none⟩ (.slice A7 N c7)).drew.cell? ⟨g, k * 3 + 1, none⟩ = some (.slice A7 N c7) ∧ (w3.setCell ⟨g, k * 3 + 1, none⟩ (.slice A7 N c7)).drew.cell? ⟨g, k * 3 + 2, none⟩ = some (.int .i64 (f.safe : Int)) ∧ (w3.setCell ⟨g, k * 3 + 1, none⟩ (.slice A7 N c7)).drew.frozen? ⟨g, k * 3 + 2, none⟩ = false) := Lib.hid (by
            obtain ⟨g', n1, cv, Pa', A8, m8, c8, Pb', hvv, hn1, _, _, hpp, hpa', _, _, y0, y1, y2, fz⟩ := (HQ4.out.below (Below.drew (Below.refl _ _))).mid
            rw [HAL.out] at y1 y2
            injection hvv with hv1 hv2 hv3
            injection hv1 with hv1
            injection hv1 with hv1
            subst hv1 hv2 hv3
            have hd : (Value.slice A7 N c7) = .slice A8 m8 c8 := by
              have := congrArg (fun l => l[A0.length]?) hpp
              rw [List.getElem?_append_right (by have := HPA.out; omega), List.getElem?_append_right (by omega), HPA.out, hpa', Nat.sub_self] at this
              simpa using this
            rw [← hd] at y1
            exact ⟨y0, y1, y2, fz _⟩)
          clear fz
          go_wp2_with (fail)
          go_region
          all_goals
            clear c0 x1 x2 f1 sl1 hw6
            obtain ⟨c0, x1, x2, f2⟩ := HY.out
            go_wp2_with (fail)
            go_region
            all_goals
              clear c0 x1 x2 f2
              have HZ : Hid (RkAt ((w3.setCell ⟨g, k * 3 + 1, none⟩ (.slice A7 N c7)).setCell ⟨g, k * 3 + 2, none⟩ (.int .i64 (N : Int))).drew.drew B G E r (powL kp (L.take (k + 1)) ++ L.drop (k + 1)) (.slice (some ⟨g, 0, none⟩) n c) (Pa ++ .slice A7 N c7 :: Pb) ∧ Ch (RF G (.slice (some ⟨g, 0, none⟩) n c)) w ((w3.setCell ⟨g, k * 3 + 1, none⟩ (.slice A7 N c7)).setCell ⟨g, k * 3 + 2, none⟩ (.int .i64 (N : Int))).drew.drew) := Lib.hid (by
                refine ⟨?_, HC5.out.trans (Ch.of_below (S := fun _ => False) ((Below.refl _ _).drew.drew)) (fun _ _ h => h.elim)⟩
                have h5 := HQ5.out.below ((Below.refl _ _).drew.drew)
                rw [← HPF.out, HA0.out, HQ0.out] at h5
                rw [HT.out, List.append_assoc]
                exact h5)
              clear HQ5 HC5 HQ4 HY HCX
              go_wp2_with (fail)
              exact ⟨⟨k + 1, by omega, rfl, _, HZ.out.1, HZ.out.2⟩, by simp [intOf]; omega⟩
    · obtain rfl : k = n := by omega
      have HT : Hid (powL kp (L.take k) ++ L.drop k = powL kp L) := Lib.hid (by rw [HN.out, List.take_of_length_le (Nat.le_refl _), List.drop_eq_nil_of_le (Nat.le_refl _), List.append_nil])
      have f3 := HQ.out.frozen 3
      have c3 := HQ.out.cell 3
      have c5 := HQ.out.cell 5
      have f5 := HQ.out.frozen 5
      have HRW : Hid (((wr.setCell ⟨G, 3, none⟩ (.int .i64 0)).setCell ⟨G, 5, none⟩ (.int .i64 0)).heap[G]? = some (rkObj (.slice A k c) r.power)) := Lib.hid (by
        have h1 : (wr.setCell ⟨G, 3, none⟩ (.int .i64 0)).heap[G]? = some (rkObj (.slice A k c) { r with armed := 0 }) := heap_set_row HQ.out.row _
        exact heap_set_row h1 _)
      clear hlt
      go_wp2_with (fail)
      go_end0
      have hq := HQ.out
      rw [HT.out] at hq
      exact ⟨rfl, Q, hq.nums (((Ch.refl _ _).set1 3 _).set1 5 _) HRW.out, (HCH.out.trans ((Ch.refl _ _).set1 3 _) (fun _ _ hk => .inl hk)).trans ((Ch.refl _ _).set1 5 _) (fun _ _ hk => .inl hk)⟩
end
end Go.Proofs.Ytolomfdommnklaa
