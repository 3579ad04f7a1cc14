/- The law CrcLinear, walked. -/
import Derived.Test.YtamjcihhilmppaaCrcAlive
import Derived.RegionTactic
import Derived.BigRegion
import Derived.Deep.DeepCutAuto
import Derived.Deep.RegionWith
namespace Go.Proofs.Ytamjcihhilmppaa
open Go.RowKit

def xors (a b : List UInt8) : List UInt8 := List.zipWith (· ^^^ ·) a b
theorem num_xors (a : List UInt8) : ∀ b, a.length = b.length → Crc.num (xors a b) = Crc.num a ^^^ Crc.num b := by
  induction a with
  | nil => intro b h; cases b with
    | nil => rfl
    | cons y b => simp at h
  | cons x a ih =>
    intro b h
    cases b with
    | nil => simp at h
    | cons y b =>
      simp at h
      show (x ^^^ y).toNat ^^^ 2 ^ 8 * Crc.num (xors a b) = (x.toNat ^^^ 2 ^ 8 * Crc.num a) ^^^ (y.toNat ^^^ 2 ^ 8 * Crc.num b)
      rw [ih b h, UInt8.toNat_xor]
      apply Nat.eq_of_testBit_eq
      intro i
      simp only [Nat.testBit_xor, Nat.testBit_two_pow_mul]
      by_cases h8 : 8 ≤ i <;> simp [h8]
      · cases x.toNat.testBit i <;> cases y.toNat.testBit i <;> cases (Crc.num a).testBit (i - 8) <;> cases (Crc.num b).testBit (i - 8) <;> rfl
theorem num_zeros (r : Nat) : Crc.num (List.replicate r 0) = 0 := by
  induction r with
  | zero => rfl
  | succ r ih => rw [List.replicate_succ]; show (0 : UInt8).toNat ^^^ 2 ^ 8 * Crc.num (List.replicate r 0) = 0; rw [ih]; rfl
theorem xors_length (a b : List UInt8) (h : a.length = b.length) : (xors a b).length = a.length := by simp [xors, h]
theorem sum_xors (a b : List UInt8) (h : a.length = b.length) : (Crc.sum 0 a ^^^ Crc.sum 0 b) ^^^ Crc.sum 0 (xors a b) = Crc.sum 0 (List.replicate a.length 0) := by
  unfold Crc.sum
  rw [Crc.upd_num, Crc.upd_num, Crc.upd_num, Crc.upd_num, num_xors a b h, num_zeros, xors_length a b h, ← h, List.length_replicate, Nat.xor_zero]
  generalize 8 * a.length = n
  simp only [Crc.it_xor, Nat.xor_zero]
  generalize Crc.it n 4294967295 = y
  generalize Crc.it n (Crc.num a) = p
  generalize Crc.it n (Crc.num b) = q
  apply Nat.eq_of_testBit_eq
  intro i
  simp only [Nat.testBit_xor]
  cases (4294967295).testBit i <;> cases y.testBit i <;> cases p.testBit i <;> cases q.testBit i <;> rfl
/-- what the third row holds behind i rounds -/
def xrow (l k : List UInt8) (r i : Nat) : List UInt8 := xors (l.take i) (k.take i) ++ List.replicate (r - i) 0
theorem xrow_length (l k : List UInt8) (r i : Nat) (h1 : i ≤ r) (h2 : r ≤ l.length) (h3 : r ≤ k.length) : (xrow l k r i).length = r := by
  simp [xrow, xors]; omega
theorem xrow_zero (l k : List UInt8) (r : Nat) : xrow l k r 0 = List.replicate r 0 := by simp [xrow, xors]
theorem xrow_full (l k : List UInt8) (r : Nat) : xrow l k r r = xors (l.take r) (k.take r) := by simp [xrow]
theorem xrow_set (l k : List UInt8) (r i : Nat) (h1 : i < r) (h2 : r ≤ l.length) (h3 : r ≤ k.length) : (xrow l k r i).set i (l[i] ^^^ k[i]) = xrow l k r (i + 1) := by
  unfold xrow xors
  rw [List.take_succ_eq_append_getElem (by omega), List.take_succ_eq_append_getElem (by omega), List.zipWith_append (by simp; omega)]
  have hl : (List.zipWith (· ^^^ ·) (l.take i) (k.take i)).length = i := by simp; omega
  rw [List.set_append_right _ _ (by omega), hl, Nat.sub_self, show r - i = (r - (i + 1)) + 1 from by omega, List.replicate_succ]
  simp

theorem min3 (n m : Nat) : ∃ r : Nat, r ≤ n ∧ r ≤ m ∧ r ≤ 2000 ∧ (if (2000 : Int) < (if m < n then (m : Int) else (n : Int)) then (2000 : Int) else (if m < n then (m : Int) else (n : Int))) = (r : Int) := by
  by_cases h : m < n
  · rw [if_pos h]
    by_cases h2 : (2000 : Int) < (m : Int)
    · rw [if_pos h2]; exact ⟨2000, by omega, by omega, by omega, rfl⟩
    · rw [if_neg h2]; exact ⟨m, by omega, by omega, by omega, rfl⟩
  · rw [if_neg h]
    by_cases h2 : (2000 : Int) < (n : Int)
    · rw [if_pos h2]; exact ⟨2000, by omega, by omega, by omega, rfl⟩
    · rw [if_neg h2]; exact ⟨n, by omega, by omega, by omega, rfl⟩

theorem heap_frozen (w : World) (g j : Nat) (cs : Array Value) (t : TypeId) (h : w.heap[g]? = some (.cells cs t)) : w.frozen? ⟨g, j, none⟩ = false := by simp [World.frozen?, h]
theorem zero_cells (r : Nat) : Array.replicate r (Value.int .u8 0) = (u8s (List.replicate r 0)).toArray := by simp [u8s]
theorem two_rows (h : Array Obj) (X Y : Obj) : ((h.push X).push Y)[h.size]? = some X ∧ ((h.push X).push Y)[h.size + 1]? = some Y := by
  constructor
  · rw [Array.getElem?_push, if_neg (by simp)]; simp
  · rw [Array.getElem?_push, if_pos (by simp)]

set_option maxRecDepth 100000 in
set_option maxHeartbeats 1000000 in
theorem crcLinear_walk (A : Option Addr) (n c : Nat) (l : List UInt8) (B : Option Addr) (m d : Nat) (k : List UInt8) (w : World) (hA : Bs w A n c l) (_hR : c ≤ 140737488351232) (hB : Bs w B m d k) (_hR2 : d ≤ 140737488351232) :
    Calls Try.prog 6 #[.slice A n c, .slice B m d] w (True_ w) := by
  have hmax := hA.nmax
  have hmax2 := hB.nmax
  have HA := Lib.hid hA; clear hA
  have HB := Lib.hid hB; clear hB
  obtain ⟨r, r1, r2, r3, hr⟩ := min3 n m
  have HRR := Lib.hid hr; clear hr
  have hmk : ∀ w : World, (Instr.makeSlice 22 (.int .i64 (r : Int)) (.int .i64 (r : Int))).run Try.prog w = .ok (.slice (some ⟨w.heap.size, 0, none⟩) r r) (w.alloc (.cells (Array.replicate r (.int .u8 0)) 5)) :=
    fun w => run_mk 22 5 Try.underlying22 byteInfo r r (Nat.le_refl _) (by omega) w
  go_enter Try.func6, Try.ntmps6
  go_upto_region 2 with (fail)
  rw [HRR.out]
  go_cut [6, 7] (fun x y wx => ∃ g1 g2 : Nat, x = .slice (some ⟨g1, 0, none⟩) r r ∧ y = .slice (some ⟨g2, 0, none⟩) r r ∧ g1 ≠ g2 ∧ w.heap.size ≤ g1 ∧ w.heap.size ≤ g2 ∧ wx.heap[g1]? = some (.cells (u8s (List.replicate r 0)).toArray 5) ∧ wx.heap[g2]? = some (.cells (u8s (List.replicate r 0)).toArray 5) ∧ Below w.heap.size w wx)
  case first =>
    go_region
    all_goals
      go_wp2_with (fail)
      rw [zero_cells]
      go_meet
      have h2 := two_rows w.heap (.cells (u8s (List.replicate r 0)).toArray 5) (.cells (u8s (List.replicate r 0)).toArray 5)
      first
      | exact ⟨w.heap.size, w.heap.size + 1, rfl, rfl, by omega, by omega, by omega, h2.1, h2.2, ((((Below.refl _ _).drew).alloc (Nat.le_refl _) _).alloc (by simp) _)⟩
      | exact ⟨w.heap.size + 1, w.heap.size, rfl, rfl, by omega, by omega, by omega, h2.2, h2.1, ((((Below.refl _ _).drew).alloc (Nat.le_refl _) _).alloc (by simp) _)⟩
  case rest =>
    obtain ⟨g1, g2, rfl, rfl, hne, hg1, hg2, hh1, hh2, hb⟩ := hcut
    have HNE := Lib.hid hne
    have H1 := Lib.hid hh1
    have H2 := Lib.hid hh2
    have HBW := Lib.hid hb
    clear hne hh1 hh2 hb hmk
    go_wp2_with (fail)
    go_loopw [8, 20] (fun _ i wr => ∃ j : Nat, j ≤ r ∧ i = .int .i64 j ∧ wr.heap[g1]? = some (.cells (u8s (xrow l k r j)).toArray 5) ∧ wr.heap[g2]? = some (.cells (u8s (List.replicate r 0)).toArray 5) ∧ Below w.heap.size w wr) (fun _ i _ => r - (intOf i).toNat)
    case atStart => exact ⟨0, Nat.zero_le _, rfl, by rw [xrow_zero]; exact H1.out, H2.out, HBW.out⟩
    case round =>
      obtain ⟨j, hj, rfl, h1, h2, hb⟩ := hrel
      by_cases hlt : j < r
      · have hjl : j < l.length := by have := HA.out.len; omega
        have hjk : j < k.length := by have := HB.out.len; omega
        have XS := Lib.hid (xrow_set l k r j hlt (by have := HA.out.len; omega) (by have := HB.out.len; omega))
        have XL := Lib.hid (xrow_length l k r j (by omega) (by have := HA.out.len; omega) (by have := HB.out.len; omega))
        obtain ⟨b, o, rfl, _, hc⟩ := (HA.out.below hb).at_ (by omega)
        obtain ⟨b', o', rfl, _, hc'⟩ := (HB.out.below hb).at_ (by omega)
        have hcell := hc j _ (List.getElem?_eq_getElem hjl)
        have hcell' := hc' j _ (List.getElem?_eq_getElem hjk)
        have hx : bits BinOp.xor .u8 (l[j].toNat : Int) (k[j].toNat : Int) = ((l[j] ^^^ k[j]).toNat : Int) := by
          rw [u8_xor_nat _ _ (UInt8.toNat_lt _) (UInt8.toNat_lt _), UInt8.toNat_xor]
        generalize l[j] = x at *
        generalize k[j] = y at *
        have hf := heap_frozen wr g1 j _ _ h1
        have hcell3 : ∃ v, wr.cell? ⟨g1, j, none⟩ = some v := by
          rw [cell_of_row wr g1 j _ _ _ h1]
          exact ⟨_, Array.getElem?_eq_getElem (by simp [XL.out]; omega)⟩
        obtain ⟨v3, hcell3⟩ := hcell3
        have e1 : (0 : Int) ≤ (j : Int) := by omega
        have e2 : (j : Int) < (n : Int) := by omega
        have e3 : (j : Int) < (m : Int) := by omega
        have e4 : (j : Int) < (r : Int) := by omega
        have H1 := Lib.hid h1
        have H2 := Lib.hid h2
        have HBW := Lib.hid hb
        clear hc hc' h1 h2 hb
        go_wp2_with (fail)
        go_region
        all_goals
          go_wp2_with (fail)
          go_roundw
          case rel =>
            refine ⟨j + 1, by omega, by go_num, ?_, ?_, ?_⟩
            · rw [← XS.out]
              rw [← u8s_set]
              exact heap_setCell_same wr g1 j _ _ _ H1.out
            · exact (Below.heap_setCell _ _ _ _ (fun e => HNE.out e.symm)).trans H2.out
            · exact (HBW.out.drew).setCell hg1 _
          case measure => simp [intOf]; omega
      · obtain rfl : j = r := by omega
        have H1 := Lib.hid h1
        have H2 := Lib.hid h2
        have HBW := Lib.hid hb
        clear h1 h2 hb
        have c1 := HA.out.le
        have c2 := HB.out.le
        have l1 : (l.take j).length = j := (HA.out.take r1).len
        have l2 : (k.take j).length = j := (HB.out.take r2).len
        have X1 := Lib.hid ((HA.out.take r1).below HBW.out)
        have X2 := Lib.hid ((HB.out.take r2).below HBW.out)
        have X3 : Hid (Bs wr (some ⟨g1, 0, none⟩) j j (xors (l.take j) (k.take j))) := Lib.hid (Bs.block (by rw [← xrow_full]; exact H1.out) (by rw [xors_length _ _ (by omega)]; exact l1) (by unfold maxLen; omega))
        have X4 := Lib.hid (Bs.block H2.out (n := j) (by simp) (by unfold maxLen; omega))
        have hs := sum_xors (l.take j) (k.take j) (by omega)
        rw [l1] at hs
        have b1 := Crc.sum_lt (s := 0) (l.take j) (by omega)
        have b2 := Crc.sum_lt (s := 0) (k.take j) (by omega)
        have b3 := Crc.sum_lt (s := 0) (xors (l.take j) (k.take j)) (by omega)
        have b12 : Crc.sum 0 (l.take j) ^^^ Crc.sum 0 (k.take j) < 4294967296 := Nat.xor_lt_two_pow (n := 32) (by omega) (by omega)
        have C1 := fun W h => crcSum A j c (l.take j) W h
        have C2 := fun W h => crcSum B j d (k.take j) W h
        have C3 := fun W h => crcSum (some ⟨g1, 0, none⟩) j j (xors (l.take j) (k.take j)) W h
        have C4 := fun W h => crcSum (some ⟨g2, 0, none⟩) j j (List.replicate j 0) W h
        have x1 := u32_xor_nat _ _ b1 b2
        have x2 := u32_xor_nat _ _ b12 b3
        rw [hs] at x2
        generalize Crc.sum 0 (l.take j) = s1 at *
        generalize Crc.sum 0 (k.take j) = s2 at *
        generalize Crc.sum 0 (xors (l.take j) (k.take j)) = s3 at *
        generalize s1 ^^^ s2 = s12 at *
        generalize Crc.sum 0 (List.replicate j 0) = s4 at *
        have K1 := Lib.hid C1
        have K2 := Lib.hid C2
        have K3 := Lib.hid C3
        have K4 := Lib.hid C4
        have e1 : (j : Int) ≤ (c : Int) := by omega
        have e2 : (j : Int) ≤ (d : Int) := by omega
        clear C1 C2 C3 C4 hs b1 b2 b3 b12 l1 l2
        go_wp2_with (fail)
        refine region_later (by kernel_rfl) (by kernel_rfl) ?_
        repeat (go_big_quiet_step ((first
          | (go_at_call 14; exact Calls.later (crcAlive _))
          | (go_at_call_of 19 (Value.slice A j c); exact Calls.later_same (K1.out _ (Later.bs _ X1.out)))
          | (go_at_call_of 19 (Value.slice B j d); exact Calls.later_same (K2.out _ (Later.bs _ X2.out)))
          | (go_at_call_of 19 (Value.slice (some ⟨g1, 0, none⟩) j j); exact Calls.later_same (K3.out _ (Later.bs _ X3.out)))
          | (go_at_call_of 19 (Value.slice (some ⟨g2, 0, none⟩) j j); exact Calls.later_same (K4.out _ (Later.bs _ X4.out))))))
        refine wpQuiet_nil ?_
        intro nq
        have hbq := Lib.hid (HBW.out.trans (nq.h.mono HBW.out.size))
        go_wp2
        go_ret
        exact ⟨rfl, hbq.out⟩
end Go.Proofs.Ytamjcihhilmppaa
