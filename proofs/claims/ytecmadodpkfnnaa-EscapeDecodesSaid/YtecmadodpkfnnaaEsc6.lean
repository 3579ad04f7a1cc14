/- Layer 7: Decode, walked. -/
import Derived.Test.YtecmadodpkfnnaaEsc5
namespace Go.Proofs.Ytecmadodpkfnnaa
open Go.RowKit Go.MapKept

def decText (r : Except Nat (List UInt8)) : List UInt8 := match r with | .ok t => t | .error _ => []
def decPos (r : Except Nat (List UInt8)) (n : Nat) : Nat := match r with | .ok _ => n | .error p => p
def decErr (r : Except Nat (List UInt8)) : Int := match r with | .ok _ => 0 | .error _ => 10
/-- what Decode gives -/
def RetDec (s : Sgn) (l : List UInt8) (w : World) (e : Ending) (w' : World) : Prop :=
  e = .returned (.tuple #[strV (decText (decD s l)), .int .i64 (decPos (decD s l) l.length : Nat), .int .i64 (decErr (decD s l))]) ∧ Below w.heap.size w w'
theorem pairsD_len : ∀ (l t : List UInt8), pairsD l = some t → t.length ≤ l.length
  | [], t, h => by simp [pairsD] at h; subst h; simp
  | [_], t, h => by simp [pairsD] at h; subst h; simp
  | a :: b :: r, t, h => by
    rw [pairsD] at h
    split at h
    · cases h
    · obtain ⟨t', h1, h2⟩ := Option.map_eq_some_iff.1 h
      have := pairsD_len r t' h1
      subst h2
      simp only [List.length_cons]
      omega
theorem firstD_short {s : Sgn} {l t : List UInt8} {n : Nat} (h : firstD s l = some (t, n)) : t.length ≤ n := by
  unfold firstD at h
  split at h
  · cases h
  · obtain ⟨t', h1, h2⟩ := Option.map_eq_some_iff.1 h
    injection h2 with h3 h4
    subst h3
    have hge : 0 ≤ Lib.indexByte (l.drop 1) (l.getD 0 0) := by omega
    unfold insideD at h1
    split at h1
    · obtain ⟨c, _, hc⟩ := Option.map_eq_some_iff.1 h1
      subst hc
      simp
      omega
    split at h1
    · cases h1
    · have := pairsD_len _ _ h1
      rw [List.length_drop, List.length_take] at this
      omega
theorem decD_start (s : Sgn) (l : List UInt8) : decD s l = (decFrom s l 0).map ([] ++ ·) := by
  unfold decD decFrom
  rw [List.drop_zero]
  cases decG s l.length l 0 <;> rfl
theorem map_map_app (r : Except Nat (List UInt8)) (a b : List UInt8) : (r.map (b ++ ·)).map (a ++ ·) = r.map ((a ++ b) ++ ·) := by
  cases r <;> simp [Except.map]
theorem map_map_cons (r : Except Nat (List UInt8)) (a : List UInt8) (c : UInt8) : (r.map (c :: ·)).map (a ++ ·) = r.map ((a ++ [c]) ++ ·) := by
  cases r <;> simp [Except.map]

set_option maxHeartbeats 2000000 in
set_option maxRecDepth 100000 in
theorem escDecode_no (x : ByteArray) (s : Sgn) (hg : s.good = false) (w : World) : Calls Try.prog 16 #[.string x, s.v] w fun e w' => e = .returned (.tuple #[.string ⟨#[]⟩, .int .i64 0, .int .i64 11]) ∧ Below w.heap.size w w' := by
  have HB0 : Hid (Below w.heap.size w (w.alloc (.cells #[u8 s.a, u8 s.b, u8 s.c, u8 s.d, u8 s.e] 23))) := Lib.hid ((Below.refl _ _).alloc (Nat.le_refl _) _)
  have HG := Lib.hid hg
  clear hg
  go_enter Try.func16, Try.ntmps16
  go_wp2_with (fail)
  refine (delimRight s _).mono ?_
  rintro e w1 ⟨rfl, hb1⟩
  rw [HG.out]
  have HB1 : Hid (Below w.heap.size w w1) := Lib.hid (HB0.out.trans (hb1.mono HB0.out.size))
  clear hb1
  go_wp2_with (fail)
  go_ret3
  exact ⟨rfl, HB1.out⟩

set_option maxHeartbeats 8000000 in
set_option maxRecDepth 100000 in
theorem escDecode (x : ByteArray) (hx : x.size ≤ 1000000) (s : Sgn) (hg : s.good = true) (w : World) : Calls Try.prog 16 #[.string x, s.v] w (RetDec s x.data.toList w) := by
  have HX := Lib.hid (Box5.new s w)
  have HB0 : Hid (Below w.heap.size w (w.alloc (.cells #[u8 s.a, u8 s.b, u8 s.c, u8 s.d, u8 s.e] 23))) := Lib.hid ((Below.refl _ _).alloc (Nat.le_refl _) _)
  have HG := Lib.hid hg
  clear hg
  go_enter Try.func16, Try.ntmps16
  go_wp2_with (fail)
  refine (delimRight s _).mono ?_
  rintro e w1 ⟨rfl, hb1⟩
  rw [HG.out]
  have HB1 : Hid (Below w.heap.size w w1) := Lib.hid (HB0.out.trans (hb1.mono HB0.out.size))
  have HX1 := Lib.hid (HX.out.below hb1)
  obtain ⟨x0, x1, x2, x3, x4⟩ := HX1.out.cells
  clear hb1
  go_wp2_with (fail)
  refine (escSigns s w1).mono ?_
  rintro e w2 ⟨M, rfl, hm, hlo, hb2⟩
  have HM := Lib.hid hm
  have HB2 : Hid (Below w.heap.size w w2) := Lib.hid (HB1.out.trans (hb2.mono HB1.out.size))
  have HX2 := Lib.hid (HX1.out.below hb2)
  have HBU : Hid (Bu w2.heap.size w2.heap.size [] (w2.alloc (.cells #[.pointer none, .slice none 0 0] TB))) := Lib.hid (Bu.new (Nat.le_refl _))
  have HBA : Hid (Below w2.heap.size w2 (w2.alloc (.cells #[.pointer none, .slice none 0 0] TB))) := Lib.hid ((Below.refl _ _).alloc (Nat.le_refl _) _)
  have HML : Hid (M < w2.heap.size) := Lib.hid hm.lt
  have HGL : Hid (w.heap.size < w2.heap.size) := Lib.hid HX2.out.lt
  clear hm hlo hb2 x0 x1 x2 x3 x4
  go_wp2_with (fail)
  generalize hB : w2.heap.size = B at *
  generalize (w2.alloc (.cells #[.pointer none, .slice none 0 0] TB)) = w3 at *
  have HBE := Lib.hid hB
  clear hB
  go_loopw [20, 9, 10, 11, 12] (fun i nx _ _ _ wr => ∃ (k n : Nat) (out : List UInt8), k ≤ x.size ∧ i = .int .i64 k ∧ nx = .int .i64 n ∧ n ≤ x.size ∧ Bu B B out wr ∧ Below B w2 wr ∧ out.length ≤ max k n ∧ decD s x.data.toList = (decFrom s x.data.toList (max k n)).map (out ++ ·)) (fun i _ _ _ _ _ => x.size - (intOf i).toNat)
  case atStart => exact ⟨0, 0, [], Nat.zero_le _, rfl, rfl, Nat.zero_le _, HBU.out, HBA.out, by simp, decD_start s x.data.toList⟩
  case round =>
    clear HBU HBA HX HX1 HB0 HB1
    obtain ⟨wo, rfl⟩ : ∃ wo : World, wo = wr := ⟨_, rfl⟩
    obtain ⟨k, n, out, hk, rfl, rfl, hn, hbu, hb, hol, hdec⟩ := hrel
    have HBU := Lib.hid hbu
    have HB := Lib.hid hb
    have HMk := Lib.hid (HM.out.low hb HML.out)
    have HSZ : Hid (B ≤ wo.heap.size) := Lib.hid (by have := hb.size; have := HBE.out; omega)
    have HXk : Hid (Box5 s w.heap.size wo) := Lib.hid ((hb.block _ HGL.out).trans HX2.out)
    have HOL := Lib.hid hol
    have HD := Lib.hid hdec
    obtain ⟨x0, x1, x2, x3, x4⟩ := HXk.out.cells
    clear hbu hb hol hdec
    by_cases hlt : k < x.size
    · have e1 : (k : Int) < (x.size : Int) := by omega
      by_cases hskip : k < n
      · have e2 : (k : Int) < (n : Int) := by omega
        have hmax : max (k + 1) n = max k n := by omega
        have HMX := Lib.hid hmax
        clear hmax
        go_wp2_with (fail)
        exact ⟨⟨k + 1, n, out, by omega, by go_num, rfl, hn, HBU.out, HB.out, by rw [HMX.out]; exact HOL.out, by rw [HMX.out]; exact HD.out⟩, by simp [intOf]; omega⟩
      have e2 : ¬ (k : Int) < (n : Int) := by omega
      have hmk : max k n = k := by omega
      rw [hmk] at HD HOL
      have HKL : Hid (k < x.data.toList.length) := Lib.hid (by simpa using hlt)
      have hgi := getD_idx x k hlt
      have ix := fun W => strIdx x k hlt (k : Int) rfl W
      clear hmk
      by_cases hc : x[k] = s.d
      case neg =>
        have hne : ((x[k].toNat : Int) != (s.d.toNat : Int)) = true := by
          rw [bne_iff_ne]
          intro h
          exact hc (UInt8.toNat_inj.1 (by omega))
        have HDN : Hid (decD s x.data.toList = (decFrom s x.data.toList (max (k + 1) n)).map ((out ++ [x[k]]) ++ ·)) := Lib.hid (by
          rw [HD.out, decFrom_byte s _ k HKL.out (by rw [hgi]; exact hc), map_map_cons, hgi, show max (k + 1) n = k + 1 from by omega]; rfl)
        clear hc hgi
        go_wp2_with (fail)
        go_quiet (fail)
        go_wp2_with (fail)
        have HDR : Hid (Below wo.heap.size wo (wo.drewN nq)) := Lib.hid (drawN_below (Below.refl _ _) _)
        have HBD : Hid (Below B w2 (wo.drewN nq)) := Lib.hid (drawN_below HB.out _)
        have HSD : Hid (B ≤ (wo.drewN nq).heap.size) := Lib.hid (Nat.le_trans HSZ.out HDR.out.size)
        generalize wo.drewN nq = w4 at *
        refine (buByte B B out x[k] w4 (HBU.out.below HDR.out) (by have := HOL.out; omega) HSD.out).mono ?_
        rintro e w5 ⟨rfl, hbu5, hb5⟩
        have HBU5 := Lib.hid hbu5
        have HB5 : Hid (Below B w2 w5) := Lib.hid (HBD.out.trans hb5)
        clear hbu5 hb5
        go_wp2_with (fail)
        exact ⟨⟨k + 1, n, out ++ [x[k]], by omega, by go_num, rfl, hn, HBU5.out, HB5.out, by rw [List.length_append, List.length_singleton]; have := HOL.out; omega, HDN.out⟩, by simp [intOf]; omega⟩
      have hne : ((x[k].toNat : Int) != (s.d.toNat : Int)) = false := by rw [hc]; simp
      have HC := Lib.hid hc
      have hki : (k : Int) ≤ (x.size : Int) := by omega
      have hex : (x.extract k x.size).data.toList = x.data.toList.drop k := by rw [ext_list, List.take_of_length_le (by simp)]
      have HEX := Lib.hid hex
      have HES : Hid (0 < (x.extract k x.size).size ∧ (x.extract k x.size).size ≤ 1000000) := Lib.hid (by rw [ByteArray.size_extract]; omega)
      have HGI := Lib.hid hgi
      clear hc hex hgi
      go_wp2_with (fail)
      go_quiet (fail)
      go_wp2_with (fail)
      have HDR : Hid (Below wo.heap.size wo (wo.drewN nq)) := Lib.hid (drawN_below (Below.refl _ _) _)
      have HBD : Hid (Below B w2 (wo.drewN nq)) := Lib.hid (drawN_below HB.out _)
      have HSD : Hid (B ≤ (wo.drewN nq).heap.size) := Lib.hid (Nat.le_trans HSZ.out HDR.out.size)
      generalize wo.drewN nq = w4 at *
      refine (escFirst (x.extract k x.size) HES.out.1 HES.out.2 s M w4 (HMk.out.below HDR.out)).mono ?_
      rintro e w5 ⟨rfl, hb5⟩
      rw [HEX.out]
      have HB5 : Hid (Below B w2 w5) := Lib.hid (HBD.out.trans (hb5.mono HSD.out))
      have HBU5 : Hid (Bu B B out w5) := Lib.hid ((HBU.out.below HDR.out).below hb5)
      have HS5 : Hid (B ≤ w5.heap.size) := Lib.hid (Nat.le_trans HSD.out hb5.size)
      clear hb5
      cases hf : firstD s (x.data.toList.drop k) with
      | none =>
        have HE : Hid (decD s x.data.toList = .error k) := Lib.hid (by
          rw [HD.out, decFrom_bad s _ k HKL.out (by rw [HGI.out]; exact HC.out) hf]; rfl)
        have HBW : Hid (Below w.heap.size w w5) := Lib.hid (HB2.out.trans (HB5.out.mono (by have := HGL.out; omega)))
        simp only [Option.map_none, Option.getD_none]
        clear hf
        go_wp2_with (fail)
        go_ret3
        exact ⟨by rw [HE.out]; rfl, HBW.out⟩
      | some q =>
        obtain ⟨t, m⟩ := q
        have hml := firstD_len hf
        have HMT := Lib.hid (firstD_short hf)
        rw [List.length_drop] at hml
        have hm2 : 2 ≤ m ∧ k + m ≤ x.size := by have := HKL.out; simp only [Array.length_toList, ByteArray.size_data] at hml; omega
        have HDN : Hid (decD s x.data.toList = (decFrom s x.data.toList (max (k + 1) (k + m))).map ((out ++ t) ++ ·)) := Lib.hid (by
          rw [HD.out, decFrom_esc s _ k HKL.out (by rw [HGI.out]; exact HC.out) hf, map_map_app, show max (k + 1) (k + m) = k + m from by omega])
        have hm0 : ((m : Int) == 0) = false := by rw [beq_eq_false_iff_ne]; omega
        simp only [Option.map_some, Option.getD_some]
        clear hf hml
        go_wp2_with (fail)
        refine (buString_ B B out t w5 HBU5.out (by have := HOL.out; have := HMT.out; omega) HS5.out).mono ?_
        rintro e w6 ⟨rfl, hbu6, hb6⟩
        have HBU6 := Lib.hid hbu6
        have HB6 : Hid (Below B w2 w6) := Lib.hid (HB5.out.trans hb6)
        clear hbu6 hb6
        go_wp2_with (fail)
        exact ⟨⟨k + 1, k + m, out ++ t, by omega, by go_num, by go_num, hm2.2, HBU6.out, HB6.out, by rw [List.length_append]; have := HOL.out; have := HMT.out; omega, HDN.out⟩, by simp [intOf]; omega⟩
    · obtain rfl : k = x.size := by omega
      have hmk : max x.size n = x.data.toList.length := by simp; omega
      have HE : Hid (decD s x.data.toList = .ok out) := Lib.hid (by
        rw [HD.out, hmk, decFrom_end]; simp [Except.map])
      clear hlt hmk
      go_wp2_with (fail)
      refine (Try.Builder_String_any B B out wo HBU.out HSZ.out).mono ?_
      rintro e w4 ⟨rfl, hb4⟩
      have HB4 : Hid (Below w.heap.size w w4) := Lib.hid (HB2.out.trans ((HB.out.trans hb4).mono (by have := HGL.out; omega)))
      clear hb4
      go_wp2_with (fail)
      go_ret3
      exact ⟨by rw [HE.out]; simp [decText, decPos, decErr], HB4.out⟩
end Go.Proofs.Ytecmadodpkfnnaa
