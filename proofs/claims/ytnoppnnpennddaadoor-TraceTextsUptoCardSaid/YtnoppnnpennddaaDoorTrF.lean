/- Layer 19: the text of steps, walked. -/
import Derived.Test.YtnoppnnpennddaaDoorTrB
import Derived.Test.YtnoppnnpennddaaDoorTrG
import Derived.Test.YtnoppnnpennddaaDoorTr9
namespace Go.Proofs.YtnoppnnpennddaaDoor
open Go.RowKit

set_option maxHeartbeats 4000000 in
set_option maxRecDepth 100000 in
theorem output_ (bk : Bool) (A : Option Addr) (m c : Nat) (l : List UInt8) (w : World) (hB : Bs w A m c l) (hm : m ≤ 100000000) :
    Calls Tryd.prog 38 #[.agg #[.bool bk, .slice A m c]] w fun e w' => e = .returned (str (outT ⟨bk, l⟩)) ∧ Below w.heap.size w w' := by
  have hb1 : Below w.heap.size w (w.alloc (.cells #[.bool bk, .slice A m c] TO)) := (Below.refl _ w).alloc (Nat.le_refl _) _
  have HBS := Lib.hid (hB.below hb1)
  have HB := Lib.hid hb1
  have HM := Lib.hid hm
  have HXL : Hid ((hexD l).length ≤ 2 * m + 1) := Lib.hid (by have := hexD_len l; have := hB.len; omega)
  have q0 : (w.alloc (.cells #[.bool bk, .slice A m c] TO)).cell? ⟨w.heap.size, 0, none⟩ = some (.bool bk) := box_cells w [.bool bk, .slice A m c] TO 0 _ rfl
  have q1 : (w.alloc (.cells #[.bool bk, .slice A m c] TO)).cell? ⟨w.heap.size, 1, none⟩ = some (.slice A m c) := box_cells w [.bool bk, .slice A m c] TO 1 _ rfl
  clear hB hb1
  go_enter Tryd.func38, Tryd.ntmps38
  cases bk
  · as_aux_lemma =>
    have HO : Hid ((⟨#[111, 110, 32]⟩ : ByteArray) ++ txt (hexD l) = txt (outT ⟨false, l⟩)) := Lib.hid (txt_appT [111, 110, 32] (hexD l))
    go_wp2_with (fail)
    refine (hex_ A m c l _ HBS.out (by have := HM.out; omega)).mono ?_
    rintro e w2 ⟨rfl, hb2⟩
    have HB2 := Lib.hid (HB.out.trans (hb2.mono HB.out.size))
    have hsz : (txt (hexD l)).size = (hexD l).length := by simp [ByteArray.size]
    have hsz2 : (txt (hexD l)).size ≤ 200000001 := by have := HXL.out; have := HM.out; omega
    rw [show str (hexD l) = .string (txt (hexD l)) from rfl]
    obtain ⟨t, ht⟩ : ∃ t, t = txt (hexD l) := ⟨_, rfl⟩
    rw [← ht] at HO hsz2 ⊢
    have hs1 : ¬ (9223372036854775807 < 3 + t.size) := by omega
    clear hb2 q0 q1 hsz ht
    go_wp2_with (fail)
    go_ret
    exact ⟨by rw [HO.out]; rfl, HB2.out⟩
  · as_aux_lemma =>
    have HO : Hid ((⟨#[98, 97, 99, 107, 32]⟩ : ByteArray) ++ txt (hexD l) = txt (outT ⟨true, l⟩)) := Lib.hid (txt_appT [98, 97, 99, 107, 32] (hexD l))
    go_wp2_with (fail)
    refine (hex_ A m c l _ HBS.out (by have := HM.out; omega)).mono ?_
    rintro e w2 ⟨rfl, hb2⟩
    have HB2 := Lib.hid (HB.out.trans (hb2.mono HB.out.size))
    have hsz : (txt (hexD l)).size = (hexD l).length := by simp [ByteArray.size]
    have hsz2 : (txt (hexD l)).size ≤ 200000001 := by have := HXL.out; have := HM.out; omega
    rw [show str (hexD l) = .string (txt (hexD l)) from rfl]
    obtain ⟨t, ht⟩ : ∃ t, t = txt (hexD l) := ⟨_, rfl⟩
    rw [← ht] at HO hsz2 ⊢
    have hs1 : ¬ (9223372036854775807 < 5 + t.size) := by omega
    clear hb2 q0 q1 hsz ht
    go_wp2_with (fail)
    go_ret
    exact ⟨by rw [HO.out]; rfl, HB2.out⟩

def fmtD (L : List TStep) : List UInt8 × Int := match L.find? (fun x => codeT x != 0) with
  | some x => ([], codeT x)
  | none => (stepsT L, 0)
theorem fmt_bad {L : List TStep} {k : Nat} (hk : k < L.length) (h : ∀ x ∈ L.take k, codeT x = 0) (hc : codeT L[k] ≠ 0) : fmtD L = ([], codeT L[k]) := by
  have e : L = L.take k ++ (L[k] :: L.drop (k + 1)) := by rw [← List.drop_eq_getElem_cons hk, List.take_append_drop]
  have hf : L.find? (fun x => codeT x != 0) = some L[k] := by
    conv => lhs; rw [e]
    rw [List.find?_append, List.find?_eq_none.2 (fun x hx => by simp [h x hx]), List.find?_cons_of_pos (by simpa using hc)]
    rfl
  unfold fmtD
  rw [hf]
theorem fmt_ok {L : List TStep} (h : ∀ x ∈ L, codeT x = 0) : fmtD L = (stepsT L, 0) := by
  unfold fmtD
  rw [List.find?_eq_none.2 (fun x hx => by simp [h x hx])]

set_option maxHeartbeats 16000000 in
set_option maxRecDepth 100000 in
theorem format_ (A : Option Addr) (n c : Nat) (L : List TStep) (w : World) (hS : Sts w A n c L) (hf : ∀ x ∈ L, x.Fits) (hg : sumG L ≤ 1000000) (hr : TRows w) (hp : Pow w) :
    Calls Tryd.prog 21 #[.slice A n c] w (RetT (fmtD L) w) := by
  have HR := Lib.hid (fun W (hb : Below w.heap.size w W) => hr.below hb)
  have HP := Lib.hid (fun W (hb : Below w.heap.size w W) => hp.below hb)
  have HS := Lib.hid hS
  have HG := Lib.hid hg
  have HL : Hid (L.length = n) := Lib.hid hS.1
  have HN : Hid (n ≤ 1000000) := Lib.hid (by have := len_sumG L; have := hS.1; omega)
  have HF := Lib.hid hf
  have HLEN : Hid (∀ k, (stepsT (L.take k)).length ≤ 100000000) := Lib.hid (fun k => by
    have h1 := sumG_take_le L k
    have h2 := stepsT_len (L := L.take k) (fun x hx => hf x (List.mem_of_mem_take hx))
    omega)
  have HBU : Hid (Bu w.heap.size w.heap.size [] (w.alloc (.cells #[.pointer none, .slice none 0 0] TB))) := Lib.hid (Bu.new (Nat.le_refl _))
  have HBA : Hid (Below w.heap.size w (w.alloc (.cells #[.pointer none, .slice none 0 0] TB))) := Lib.hid ((Below.refl _ _).alloc (Nat.le_refl _) _)
  clear hS hf hg hr hp
  go_enter Tryd.func21, Tryd.ntmps21
  go_wp2_with (fail)
  obtain ⟨G, hG⟩ : ∃ G, G = w.heap.size := ⟨_, rfl⟩
  have HGG := Lib.hid hG
  rw [← hG] at HBU ⊢
  clear hG
  go_loopw [13, 6, 7, 8, 10] (fun i _ _ _ _ wr => ∃ k : Nat, k ≤ n ∧ i = .int .i64 k ∧ (∀ x ∈ L.take k, codeT x = 0) ∧ Bu G G (stepsT (L.take k)) wr ∧ Below w.heap.size w wr) (fun i _ _ _ _ _ => n - (intOf i).toNat)
  case atStart => exact ⟨0, by omega, rfl, (fun x hx => by cases hx), HBU.out, HBA.out⟩
  case round =>
    clear HBU HBA
    obtain ⟨wo, rfl⟩ : ∃ wo : World, wo = wr := ⟨_, rfl⟩
    obtain ⟨k, hk, rfl, hc0, hbu, hb⟩ := hrel
    have HB := Lib.hid hb
    have HC0 := Lib.hid hc0
    have HBU := Lib.hid hbu
    clear hbu hc0
    by_cases hlt : k < n
    · have hkl : k < L.length := by have := HL.out; omega
      obtain ⟨x, hx⟩ : ∃ x, x = L[k] := ⟨_, rfl⟩
      have HTK : Hid (stepsT (L.take (k + 1)) = stepsT (L.take k) ++ stepT x) := Lib.hid (hx ▸ stepsT_take hkl)
      have HBAD : Hid (codeT x ≠ 0 → fmtD L = ([], codeT x)) := Lib.hid (fun h => by rw [hx] at h ⊢; exact fmt_bad hkl HC0.out h)
      have HGOOD : Hid (codeT x = 0 → ∀ y ∈ L.take (k + 1), codeT y = 0) := Lib.hid (fun h y hy => by
        rw [List.take_succ_eq_append_getElem hkl] at hy
        rcases List.mem_append.1 hy with e | e
        · exact HC0.out y e
        · rw [List.mem_singleton.1 e, ← hx]; exact h)
      have HFX : Hid x.Fits := Lib.hid (hx ▸ HF.out _ (List.getElem_mem hkl))
      have HXG : Hid (1 + x.l.length + sumO x.outs ≤ 1000000) := Lib.hid (by have := sumG_mem (L := L) (x := x) (hx ▸ List.getElem_mem hkl); have := HG.out; omega)
      obtain ⟨b, o, rfl, hc⟩ := HS.out.2.2.2 (by omega)
      obtain ⟨a0, a1, a2, ⟨A3, m3, c3, a3, hB3⟩, ⟨A4, m4, c4, a4, hB4⟩, a5⟩ := (hx ▸ hc k _ (List.getElem?_eq_getElem hkl) : StepAt w b o k x)
      have hb' := hb
      have hlb := World.block_lt_of_cell? w _ a0
      have b0 := (hb.cell (p := ⟨b, o + k * 6, none⟩) hlb).trans a0
      have b1 := (hb.cell (p := ⟨b, o + k * 6 + 1, none⟩) hlb).trans a1
      have b2 := (hb.cell (p := ⟨b, o + k * 6 + 2, none⟩) hlb).trans a2
      have b3 := (hb.cell (p := ⟨b, o + k * 6 + 3, none⟩) hlb).trans a3
      have b4 := (hb.cell (p := ⟨b, o + k * 6 + 4, none⟩) hlb).trans a4
      have b5 := (hb.cell (p := ⟨b, o + k * 6 + 5, none⟩) hlb).trans a5
      have HB3 := Lib.hid hB3
      have HB4 := Lib.hid hB4
      have hkc : (n : Int) ≤ (c : Int) := by have := HS.out.2.1; omega
      have hmx : c ≤ 9223372036854775807 := by have := HS.out.2.2.1; simpa only [maxLen] using this
      obtain ⟨OB, hOB⟩ : ∃ OB : List Value, OB = [.int .i64 x.k, .int .i64 x.n, .int .i64 x.kp, .slice A3 m3 c3, .slice A4 m4 c4, .bool x.cr] := ⟨_, rfl⟩
      have HOB := Lib.hid hOB
      have HZ1 : Hid ((wo.alloc (.cells #[.int .i64 x.k, .int .i64 x.n, .int .i64 x.kp, .slice A3 m3 c3, .slice A4 m4 c4, .bool x.cr] TS)).heap[wo.heap.size]? = some (.cells #[.int .i64 x.k, .int .i64 x.n, .int .i64 x.kp, .slice A3 m3 c3, .slice A4 m4 c4, .bool x.cr] TS)) := Lib.hid (heap_alloc_new wo _)
      have p0 := cell_of_row _ wo.heap.size 0 _ _ _ HZ1.out
      have p1 := cell_of_row _ wo.heap.size 1 _ _ _ HZ1.out
      have p2 := cell_of_row _ wo.heap.size 2 _ _ _ HZ1.out
      have p3 := cell_of_row _ wo.heap.size 3 _ _ _ HZ1.out
      simp only [List.getElem?_toArray, List.getElem?_cons_zero, List.getElem?_cons_succ] at p0 p1 p2 p3
      have hb1 : Below wo.heap.size wo (wo.alloc (.cells #[.int .i64 x.k, .int .i64 x.n, .int .i64 x.kp, .slice A3 m3 c3, .slice A4 m4 c4, .bool x.cr] TS)) := (Below.refl _ wo).alloc (Nat.le_refl _) _
      have HB1 := Lib.hid (HB.out.trans (hb1.mono HB.out.size))
      have HBU1 := Lib.hid (HBU.out.below hb1)
      have HGB : Hid (wo.heap.size ≠ G) := Lib.hid (by have := HBU.out; have h := (show G < wo.heap.size from by rcases this with h | h <;> exact h.lt); omega)
      clear hx hkl hc hb hB3 hB4 hb1 hb' a0 a1 a2 a3 a4 a5 hlb HBU hOB
      go_wp2_with (fail)
      clear b0 b1 b2 b3 b4 b5 p0 p1 p2 p3
      obtain ⟨g, hg⟩ : ∃ g, g = wo.heap.size := ⟨_, rfl⟩
      rw [← hg] at HZ1 HGB ⊢
      clear hg
      generalize wo.alloc (.cells #[.int .i64 x.k, .int .i64 x.n, .int .i64 x.kp, .slice A3 m3 c3, .slice A4 m4 c4, .bool x.cr] TS) = wb at *
      refine (event_ x.k x.n x.kp A3 m3 c3 x.l wb (HB3.out.below HB1.out) (by have := HB3.out.len; have := HXG.out; omega) HFX.out.n.1 HFX.out.n.2 HFX.out.kp.1 HFX.out.kp.2 (HR.out _ HB1.out) (HP.out _ HB1.out)).mono ?_
      rcases hE : evT x.k x.n x.kp x.l with ⟨T1, er⟩
      have HCD : Hid (codeT x = er) := Lib.hid (by unfold codeT; rw [hE])
      have HTX : Hid (stepT x = T1 ++ [10] ++ outsT x.outs ++ goneT x.cr) := Lib.hid (by unfold stepT; rw [hE])
      have HTL : Hid (T1.length ≤ 3000000) := Lib.hid (by have := evT_len x.k x.n x.kp x.l HFX.out.n HFX.out.kp; rw [hE] at this; have := HXG.out; dsimp only at *; omega)
      rintro e w1 ⟨rfl, hb1⟩
      have HB2 := Lib.hid (HB1.out.trans (hb1.mono HB1.out.size))
      have hlt1 := (Array.getElem?_eq_some_iff.1 HZ1.out).1
      have HZ2 := Lib.hid ((hb1.block _ hlt1).trans HZ1.out)
      have HBU2 := Lib.hid (HBU1.out.below hb1)
      clear hb1 hlt1 hE HZ1 HBU1 HB1 HB3
      dsimp only
      by_cases her : er = 0
      · subst her
        have HGOOD := Lib.hid (HGOOD.out HCD.out)
        clear HBAD
        rw [show str T1 = .string (txt T1) from rfl]
        have HQ : Hid (txt T1 ++ (⟨#[10]⟩ : ByteArray) = txt (T1 ++ [10])) := Lib.hid (txt_appT T1 [10])
        have hsz : (txt T1).size ≤ 3000000 := by have := HTL.out; simpa [ByteArray.size] using this
        obtain ⟨t, ht⟩ : ∃ t, t = txt T1 := ⟨_, rfl⟩
        rw [← ht] at HQ hsz ⊢
        clear ht
        have hs1 : ¬ (9223372036854775807 < t.size + 1) := by omega
        go_wp2_with (fail)
        rw [HQ.out]
        refine (buStringX G G (stepsT (L.take k)) (T1 ++ [10]) w1 HBU2.out (by have := HTL.out; have := HLEN.out k; simp; omega) (by have := HB2.out.size; have := HGG.out; omega)).mono ?_
        rintro e w2 ⟨rfl, hbu3, hb3, hk3⟩
        rw [HGG.out] at hb3
        have HB3 := Lib.hid (HB2.out.trans hb3)
        have HBU3 := Lib.hid hbu3
        have HZ3 := Lib.hid (hk3 _ _ _ _ HZ2.out (by decide) HGB.out)
        clear hbu3 hb3 hk3 HB2 HBU2 HZ2 hs1 hsz
        have p4 := cell_of_row _ g 4 _ _ _ HZ3.out
        simp only [List.getElem?_toArray, List.getElem?_cons_zero, List.getElem?_cons_succ] at p4
        go_wp2_with (fail)
        clear p4
        obtain ⟨P, hP⟩ : ∃ P, P = stepsT (L.take k) ++ (T1 ++ [10]) := ⟨_, rfl⟩
        have HPP := Lib.hid hP
        have HPL : Hid (P.length ≤ 200000000) := Lib.hid (by rw [hP]; have := HTL.out; have := HLEN.out k; simp; omega)
        rw [← hP] at HBU3
        clear hP
        go_loopw [32, 10] (fun i _ wr => ∃ j : Nat, j ≤ m4 ∧ i = .int .i64 j ∧ Bu G G (P ++ outsT (x.outs.take j)) wr ∧ Below w.heap.size w wr ∧ wr.heap[g]? = some (.cells #[.int .i64 x.k, .int .i64 x.n, .int .i64 x.kp, .slice A3 m3 c3, .slice A4 m4 c4, .bool x.cr] TS)) (fun i _ _ => m4 - (intOf i).toNat)
        case atStart => exact ⟨0, by omega, rfl, by simpa [outsT] using HBU3.out, HB3.out, HZ3.out⟩
        case round =>
          obtain ⟨wi, rfl⟩ : ∃ wi : World, wi = wr := ⟨_, rfl⟩
          obtain ⟨j, hj, rfl, hbu, hbi, hz⟩ := hrel
          have HBI := Lib.hid hbi
          have HBUI := Lib.hid hbu
          have HZI := Lib.hid hz
          have HOL : Hid (∀ j, (outsT (x.outs.take j)).length ≤ 10000000) := Lib.hid (fun j => by have := outsT_len (x.outs.take j); have := sumO_take_le x.outs j; have := HXG.out; omega)
          clear hbu hz HBU3 HB3 HZ3
          by_cases hjt : j < m4
          · as_aux_lemma =>
            have hjl : j < x.outs.length := by have := HB4.out.1; omega
            obtain ⟨y, hy⟩ : ∃ y, y = x.outs[j] := ⟨_, rfl⟩
            have HTO : Hid (P ++ outsT (x.outs.take (j + 1)) = P ++ outsT (x.outs.take j) ++ (outT y ++ [10])) := Lib.hid (by rw [hy, outsT_take hjl, List.append_assoc])
            have HYL : Hid (y.l.length ≤ 1000000) := Lib.hid (by have := sumO_mem (L := x.outs) (o := y) (hy ▸ List.getElem_mem hjl); have := HXG.out; omega)
            obtain ⟨b', o', rfl, hc'⟩ := HB4.out.2.2.2 (by omega)
            obtain ⟨y0, A5, m5, c5, y1, hB5⟩ := (hy ▸ hc' j _ (List.getElem?_eq_getElem hjl) : OutAt w b' o' j y).below hbi
            have h5 := hB5.len
            have hmc : (m4 : Int) ≤ (c4 : Int) := by have := HB4.out.2.1; omega
            have q0 : (wi.alloc (.cells #[.bool y.back, .slice A5 m5 c5] TO)).cell? ⟨wi.heap.size, 0, none⟩ = some (.bool y.back) := box_cells wi [.bool y.back, .slice A5 m5 c5] TO 0 _ rfl
            have q1 : (wi.alloc (.cells #[.bool y.back, .slice A5 m5 c5] TO)).cell? ⟨wi.heap.size, 1, none⟩ = some (.slice A5 m5 c5) := box_cells wi [.bool y.back, .slice A5 m5 c5] TO 1 _ rfl
            have hbe : Below wi.heap.size wi (wi.alloc (.cells #[.bool y.back, .slice A5 m5 c5] TO)) := (Below.refl _ wi).alloc (Nat.le_refl _) _
            have HBE := Lib.hid (HBI.out.trans (hbe.mono HBI.out.size))
            have HBUE := Lib.hid (HBUI.out.below hbe)
            have HZE := Lib.hid ((hbe.block _ (Array.getElem?_eq_some_iff.1 HZI.out).1).trans HZI.out)
            have HB5 := Lib.hid (hB5.below hbe)
            have hw5 : IntKind.i64.wrap ((j : Int) + 1) = (j : Int) + 1 := IntWalk.i64_in _ (by have := len_sumO x.outs; have := HXG.out; omega)
            have HM5 : Hid (m5 ≤ 1000000) := Lib.hid (by have := HYL.out; omega)
            have HOY : Hid ((outT y).length ≤ 3000000) := Lib.hid (by have := outT_len y; have := HYL.out; omega)
            clear hy hjl hc' hbi hB5 h5 hbe HBUI HBI HZI HYL
            go_wp2_with (fail)
            clear q0 q1 y0 y1
            refine (output_ y.back A5 m5 c5 y.l _ HB5.out (by have := HM5.out; omega)).mono ?_
            generalize wi.alloc (.cells #[.bool y.back, .slice A5 m5 c5] TO) = we at *
            rintro e wf ⟨rfl, hbf⟩
            rw [show str (outT ⟨y.back, y.l⟩) = .string (txt (outT y)) from rfl]
            have HBF := Lib.hid (HBE.out.trans (hbf.mono HBE.out.size))
            have HBUF := Lib.hid (HBUE.out.below hbf)
            have HZF := Lib.hid ((hbf.block _ (Array.getElem?_eq_some_iff.1 HZE.out).1).trans HZE.out)
            have HQ2 : Hid (txt (outT y) ++ (⟨#[10]⟩ : ByteArray) = txt (outT y ++ [10])) := Lib.hid (txt_appT (outT y) [10])
            have hsz2 : (txt (outT y)).size ≤ 3000000 := by have := HOY.out; simpa [ByteArray.size] using this
            obtain ⟨u, hu⟩ : ∃ u, u = txt (outT y) := ⟨_, rfl⟩
            rw [← hu] at HQ2 hsz2 ⊢
            have hs2 : ¬ (9223372036854775807 < u.size + 1) := by omega
            clear hu hbf HBE HBUE HZE HB5
            go_wp2_with (fail)
            rw [HQ2.out]
            refine (buStringX G G (P ++ outsT (x.outs.take j)) (outT y ++ [10]) wf HBUF.out (by have := HOY.out; have := HPL.out; have := HOL.out j; simp; omega) (by have := HBF.out.size; have := HGG.out; omega)).mono ?_
            rintro e wg ⟨rfl, hbug, hbg, hkg⟩
            rw [HGG.out] at hbg
            rw [← HTO.out] at hbug
            have HBUG := Lib.hid hbug
            have HBGG := Lib.hid (HBF.out.trans hbg)
            have HZG := Lib.hid (hkg _ _ _ _ HZF.out (by decide) HGB.out)
            clear hbug hbg hkg hs2 hsz2
            go_wp2_with (fail)
            exact ⟨⟨j + 1, by omega, rfl, HBUG.out, HBGG.out, HZG.out⟩, by simp [intOf]; omega⟩
          · have hje : j = m4 := by omega
            subst hje
            have HOE : Hid (outsT (x.outs.take j) = outsT x.outs) := Lib.hid (by rw [List.take_of_length_le (l := x.outs) (by have := HB4.out.1; omega)])
            rw [HOE.out] at HBUI
            have hw5 : IntKind.i64.wrap ((k : Int) + 1) = (k : Int) + 1 := IntWalk.i64_in _ (by have := HN.out; omega)
            have p5 := cell_of_row _ g 5 _ _ _ HZI.out
            simp only [List.getElem?_toArray, List.getElem?_cons_zero, List.getElem?_cons_succ] at p5
            have HO2 : Hid ((outsT x.outs).length ≤ 10000000) := Lib.hid (by have := outsT_len x.outs; have := HXG.out; omega)
            clear hbi hjt HOE
            cases hcr : x.cr
            · as_aux_lemma =>
              rw [hcr] at p5 HTX
              have HSN : Hid (P ++ outsT x.outs = stepsT (L.take (k + 1))) := Lib.hid (by rw [HTK.out, HTX.out, HPP.out]; simp [goneT])
              rw [HSN.out] at HBUI
              go_wp2_with (fail)
              exact ⟨⟨k + 1, by omega, rfl, HGOOD.out, HBUI.out, HBI.out⟩, by simp [intOf]; omega⟩
            · as_aux_lemma =>
              rw [hcr] at p5 HTX
              have HSN : Hid (P ++ outsT x.outs ++ [103, 111, 110, 101, 10] = stepsT (L.take (k + 1))) := Lib.hid (by rw [HTK.out, HTX.out, HPP.out]; simp [goneT])
              go_wp2_with (fail)
              refine (buStringX G G (P ++ outsT x.outs) [103, 111, 110, 101, 10] wi HBUI.out (by have := HO2.out; have := HPL.out; simp; omega) (by have := HBI.out.size; have := HGG.out; omega)).mono ?_
              rintro e wg ⟨rfl, hbug, hbg, _⟩
              rw [HGG.out] at hbg
              rw [HSN.out] at hbug
              have HBUG := Lib.hid hbug
              have HBGG := Lib.hid (HBI.out.trans hbg)
              clear hbug hbg
              go_wp2_with (fail)
              exact ⟨⟨k + 1, by omega, rfl, HGOOD.out, HBUG.out, HBGG.out⟩, by simp [intOf]; omega⟩
      · as_aux_lemma =>
        have n1 : (er == 0) = false := by rw [beq_eq_false_iff_ne]; exact her
        have n2 : (er != 0) = true := by rw [bne, n1]; rfl
        have HE := Lib.hid (HBAD.out (by rw [HCD.out]; exact her))
        rw [HCD.out] at HE
        clear her
        go_wp2_with (fail)
        go_ret2
        rw [HE.out]
        exact ⟨rfl, HB2.out⟩
    · as_aux_lemma =>
      obtain rfl : k = n := by omega
      have HT : Hid (L.take k = L) := Lib.hid (List.take_of_length_le (by have := HL.out; omega))
      rw [HT.out] at HBU HC0
      have HFM : Hid (fmtD L = (stepsT L, 0)) := Lib.hid (fmt_ok HC0.out)
      clear hb hlt
      go_wp2_with (fail)
      refine (Tryd.Builder_String_any G G (stepsT L) wo HBU.out (by have := HB.out.size; have := HGG.out; omega)).mono ?_
      rintro e w4 ⟨rfl, hb4⟩
      rw [HGG.out] at hb4
      have HB4 : Hid (Below w.heap.size w w4) := Lib.hid (HB.out.trans hb4)
      clear hb4
      go_wp2_with (fail)
      go_ret2
      rw [HFM.out]
      exact ⟨rfl, HB4.out⟩
end Go.Proofs.YtnoppnnpennddaaDoor
