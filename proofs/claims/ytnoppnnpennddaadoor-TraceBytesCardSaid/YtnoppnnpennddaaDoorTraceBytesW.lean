/- TraceBytes, walked. -/
import Derived.Test.YtnoppnnpennddaaDoorTr8
import Derived.Test.YtnoppnnpennddaaDoorTr9
namespace Go.Proofs.YtnoppnnpennddaaDoor
open Go.RowKit

set_option maxHeartbeats 8000000 in
set_option maxRecDepth 100000 in
theorem traceBytes_walk (A : Option Addr) (n c : Nat) (l : List UInt8) (s : ByteArray) (w : World) (hv : TRows w ∧ MaxLen w) (hB : Bs w A n c l) (_hcp : c ≤ 140737488351232) (_hR : s.size ≤ maxLen) :
    Calls Tryd.prog 4 #[.slice A n c, .string s] w fun e w' => e = .returned (.bool true) ∧ Below w.heap.size w w' := by
  have HM := Lib.hid (fun W (hb : Below w.heap.size w W) => hv.2.below hb)
  have HR := Lib.hid (fun W (hb : Below w.heap.size w W) => hv.1.below hb)
  have HBS := Lib.hid hB
  clear hv hB
  go_enter Tryd.func4, Tryd.ntmps4
  by_cases hbig : 1500 < n
  · as_aux_lemma =>
    have d1 : decide ((1500 : Int) < (n : Int)) = true := by simp; omega
    go_wp2_with (fail)
    refine (alive19 w (HM.out _ (Below.refl _ _)) (HR.out _ (Below.refl _ _))).mono ?_
    rintro e w2 ⟨rfl, hbA⟩
    have HBA := Lib.hid hbA
    clear hbA
    go_wp2_with (fail)
    go_ret
    exact ⟨rfl, HBA.out⟩
  have d1 : decide ((1500 : Int) < (n : Int)) = false := by simp; omega
  have HN : Hid (n ≤ 1500) := Lib.hid (by omega)
  clear hbig
  by_cases hbig : 1500 < s.size
  · as_aux_lemma =>
    have d2 : decide ((1500 : Int) < (s.size : Int)) = true := by simp; omega
    go_wp2_with (fail)
    refine (alive19 w (HM.out _ (Below.refl _ _)) (HR.out _ (Below.refl _ _))).mono ?_
    rintro e w2 ⟨rfl, hbA⟩
    have HBA := Lib.hid hbA
    clear hbA
    go_wp2_with (fail)
    go_ret
    exact ⟨rfl, HBA.out⟩
  have d2 : decide ((1500 : Int) < (s.size : Int)) = false := by simp; omega
  have HSN : Hid (s.size ≤ 1500) := Lib.hid (by omega)
  clear hbig
  go_wp2_with (fail)
  clear d1 d2
  refine (hex_ A n c l w HBS.out (by have := HN.out; omega)).mono ?_
  rintro e w1 ⟨rfl, hb1⟩
  have HB1 := Lib.hid hb1
  have HBS1 := Lib.hid (HBS.out.below hb1)
  have HXL : Hid ((hexD l).length ≤ 3001) := Lib.hid (by have := hexD_len l; have := HBS.out.len; have := HN.out; omega)
  have HBY : Hid (bytesD (hexD l) = some l) := Lib.hid (bytes_hex l)
  have HRH : Hid (∀ W, Bs W A n c l → Calls Tryd.prog 19 #[.slice A n c] W fun e w' => e = .returned (str (hexD l)) ∧ Below W.heap.size W w') := Lib.hid (fun W h => refHex A n c l W h (by have := HN.out; omega))
  obtain ⟨X, hX⟩ : ∃ X, X = hexD l := ⟨_, rfl⟩
  rw [← hX] at HXL HBY HRH ⊢
  clear hb1 hX
  go_wp2_with (fail)
  refine (bytes_ (txt X) w1 (by rw [size_txt]; have := HXL.out; omega)).mono ?_
  rw [show (bytesD (txt X).data.toList) = some l from HBY.out]
  rintro e w2 ⟨A2, m2, c2, rfl, hB2, _, hb2⟩
  have HB2 := Lib.hid (HB1.out.trans (hb2.mono HB1.out.size))
  have HBS2 := Lib.hid (HBS1.out.below hb2)
  have HY2 : Hid (Bs w2 A2 m2 c2 l) := Lib.hid hB2
  clear hb2 hB2 HB1 HBS1
  go_wp2_with (fail)
  refine (bytes_ s w2 (by have := HSN.out; omega)).mono ?_
  obtain ⟨r, hr⟩ : ∃ r, r = bytesD s.data.toList := ⟨_, rfl⟩
  have HRB : Hid (∀ W, Calls Tryd.prog 18 #[.string s] W (RetO r W)) := Lib.hid (fun W => hr ▸ refBytes19 s W (by have := HSN.out; omega))
  rw [← hr]
  clear hr
  rintro e w3 ⟨A3, m3, c3, rfl, hB3, _, hb3⟩
  have HB3 := Lib.hid (HB2.out.trans (hb3.mono HB2.out.size))
  have HBS3 := Lib.hid (HBS2.out.below hb3)
  have HY3 := Lib.hid (HY2.out.below hb3)
  have HZ3 := Lib.hid hB3
  clear hb3 hB3 HB2 HBS2 HY2
  go_wp2_with (fail)
  refine (HRB.out w3).mono ?_
  rintro e w4 ⟨A4, m4, c4, rfl, hB4, _, hb4⟩
  have HB4 := Lib.hid (HB3.out.trans (hb4.mono HB3.out.size))
  have HBS4 := Lib.hid (HBS3.out.below hb4)
  have HY4 := Lib.hid (HY3.out.below hb4)
  have HZ4 := Lib.hid (HZ3.out.below hb4)
  have HU4 := Lib.hid hB4
  clear hb4 hB4 HB3 HBS3 HY3 HZ3 HRB
  obtain ⟨R, hR⟩ : ∃ R, R = r.getD [] := ⟨_, rfl⟩
  obtain ⟨rb, hrb⟩ : ∃ rb, rb = r.isSome := ⟨_, rfl⟩
  rw [← hR] at HZ4 HU4
  rw [← hrb]
  clear hR hrb
  go_wp2_with (fail)
  refine (alive19 w4 (HM.out _ HB4.out) (HR.out _ HB4.out)).mono ?_
  rintro e w5 ⟨rfl, hb5⟩
  have HB5 := Lib.hid (HB4.out.trans (hb5.mono HB4.out.size))
  have HBS5 := Lib.hid (HBS4.out.below hb5)
  have HY5 := Lib.hid (HY4.out.below hb5)
  have HZ5 := Lib.hid (HZ4.out.below hb5)
  have HU5 := Lib.hid (HU4.out.below hb5)
  clear hb5 HB4 HBS4 HY4 HZ4 HU4
  go_wp2_with (fail)
  refine (HRH.out w5 HBS5.out).mono ?_
  rintro e w6 ⟨rfl, hb6⟩
  have HB6 := Lib.hid (HB5.out.trans (hb6.mono HB5.out.size))
  have hcv1 := (HBS5.out.below hb6).str (P := Tryd.prog) 22 5 9 Tryd.underlying22 Tryd.underlying5 Tryd.underlying9
  have hcv2 := (HY5.out.below hb6).str (P := Tryd.prog) 22 5 9 Tryd.underlying22 Tryd.underlying5 Tryd.underlying9
  have hcv3 := (HZ5.out.below hb6).str (P := Tryd.prog) 22 5 9 Tryd.underlying22 Tryd.underlying5 Tryd.underlying9
  have hcv4 := (HU5.out.below hb6).str (P := Tryd.prog) 22 5 9 Tryd.underlying22 Tryd.underlying5 Tryd.underlying9
  have q1 : (rb == rb) = true := by simp
  clear hb6
  go_wp2_with (fail)
  go_ret
  exact ⟨rfl, HB6.out⟩
end Go.Proofs.YtnoppnnpennddaaDoor
