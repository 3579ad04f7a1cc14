/- Layer 10's answer: an answer read, and AckReads, walked. -/
import Derived.Test.YtbgjhpkjdcbclaaDoorAckA
import Derived.Test.YtbgjhpkjdcbclaaDoorOpenAck
namespace Go.Proofs.YtbgjhpkjdcbclaaDoor
open Go.RowKit

theorem codeD_three (s : ByteArray) : codeD s = (s.toList == [65, 65] || s.toList == [65, 69] || s.toList == [65, 82]) := by
  have e : ∀ (k : Nat) (x : List UInt8), (cB k).data.toList = x → (s.toList == x) = decide (cB k = s) := by
    intro k x hx
    rw [Go.ByteArray.toList_eq]
    by_cases h : cB k = s
    · rw [decide_eq_true h, ← h, hx]; simp
    · rw [decide_eq_false h, beq_eq_false_iff_ne]
      exact fun e => h (ByteArray.ext (Array.toList_inj.1 (by rw [hx, e])))
  rw [e 0 [65, 65] rfl, e 1 [65, 69] rfl, e 2 [65, 82] rfl]
  unfold codeD codesL
  simp [Bool.or_assoc]
set_option maxHeartbeats 1000000 in
theorem refKnown10 (s : ByteArray) (w : World) : Calls Tryd.prog 15 #[.string s] w fun e w' => e = .returned (.bool (codeD s)) ∧ w' = w := by
  rw [codeD_three]
  cases d1 : (s.toList == [65, 65]) <;> cases d2 : (s.toList == [65, 69]) <;> cases d3 : (s.toList == [65, 82]) <;>
  · go_enter Tryd.func15, Tryd.ntmps15
    go_wp2_with (fail)
    go_ret
    exact ⟨rfl, rfl⟩

set_option maxHeartbeats 8000000 in
set_option maxRecDepth 100000 in
theorem refRead10 (A : Option Addr) (n c : Nat) (l : List UInt8) (w : World) (hB : Bs w A n c l) (hn : n ≤ 1000000) :
    Calls Tryd.prog 17 #[.slice A n c] w fun e w' => e = .returned (.tuple #[ackV (readA l).1.1 (readA l).1.2, .int .i64 (readA l).2]) ∧ Below w.heap.size w w' := by
  have HN := Lib.hid hn
  have HL := Lib.hid hB.len
  have HZ : Hid (BoxA ⟨#[]⟩ ⟨#[]⟩ w.heap.size (w.alloc (.cells #[.string ⟨#[]⟩, .string ⟨#[]⟩] 39))) := Lib.hid (heap_alloc_new w _)
  have HB0 : Hid (Below w.heap.size w (w.alloc (.cells #[.string ⟨#[]⟩, .string ⟨#[]⟩] 39))) := Lib.hid ((Below.refl _ w).alloc (Nat.le_refl _) _)
  have HBS := Lib.hid (hB.below HB0.out)
  have HFIN : Hid (∀ (W : World) (x y : ByteArray) (u v : ByteArray) (k : Int), BoxA u v w.heap.size W → Below w.heap.size w W → readA l = ((x, y), k) → BoxA x y w.heap.size (setTwo W w.heap.size (.string x) (.string y)) ∧ Below w.heap.size w (setTwo W w.heap.size (.string x) (.string y))) := Lib.hid (fun W x y u v k h1 h2 _ => ⟨setTwo_row h1 _ _, setTwo_below h2 (Nat.le_refl _) _ _⟩)
  clear hB hn
  go_enter Tryd.func17, Tryd.ntmps17
  go_wp2_with (fail)
  generalize w.alloc (.cells #[.string ⟨#[]⟩, .string ⟨#[]⟩] 39) = w0 at *
  refine (refRead09 A n c l w0 HBS.out HN.out).mono ?_
  rintro e w1 ⟨rfl, hb1⟩
  have HZ1 := Lib.hid (HZ.out.below hb1)
  have HB1 := Lib.hid (HB0.out.trans (hb1.mono HB0.out.size))
  have HBS1 := Lib.hid (HBS.out.below hb1)
  clear hb1 HZ HBS
  have HRA : Hid (readA l = if (readH l).2 = 0 then tellD (splitD l) (readH l).1.d.a else ((⟨#[]⟩, ⟨#[]⟩), (readH l).2)) := Lib.hid rfl
  have HLS : Hid (((splitD l).getD 1 []).length ≤ n) := Lib.hid (by rw [← HL.out]; exact splitD_le)
  obtain ⟨h, hh⟩ : ∃ h, h = (readH l).1 := ⟨_, rfl⟩
  obtain ⟨x, hx⟩ : ∃ x, x = (readH l).2 := ⟨_, rfl⟩
  rw [← hh, ← hx] at HRA ⊢
  clear hh hx
  have HX2 : Hid (BoxH h w1.heap.size (w1.alloc (.cells h.cells TH))) := Lib.hid (BoxH.new h w1)
  have HZ2 : Hid (BoxA ⟨#[]⟩ ⟨#[]⟩ w.heap.size (w1.alloc (.cells h.cells TH))) := Lib.hid (HZ1.out.below (boxHd_below h w1))
  have HB2 : Hid (Below w.heap.size w (w1.alloc (.cells h.cells TH))) := Lib.hid (HB1.out.alloc HB1.out.size _)
  have HBS2 : Hid (Bs (w1.alloc (.cells h.cells TH)) A n c l) := Lib.hid (HBS1.out.alloc _)
  obtain ⟨z0, z1⟩ := HZ2.out.cells
  obtain ⟨f0, f1⟩ := HZ2.out.frz
  by_cases he : x = 0
  · subst he
    rw [if_pos rfl] at HRA
    clear z0 z1 f0 f1
    go_wp2_with (fail)
    generalize w1.alloc (.cells #[u8 h.d.a, u8 h.d.b, u8 h.d.c, u8 h.d.d, u8 h.d.e, .string h.a0, .string h.a1, .string h.a2, .string h.a3, .string h.a4, .string h.a5, .string h.a6, .string h.a7, .string h.a8, .string h.a9] TH) = w2 at *
    generalize w1.heap.size = G at *
    refine (refSplit A n c l w2 HBS2.out HN.out).mono ?_
    rintro e w3 ⟨A2, c2, rfl, hS, hb3⟩
    have HX3 := Lib.hid (HX2.out.below hb3)
    have HZ3 := Lib.hid (HZ2.out.below hb3)
    have HB3 := Lib.hid (HB2.out.trans (hb3.mono HB2.out.size))
    clear hb3 HX2 HZ2 HB2 HBS2 HZ1 HB1 HBS1
    obtain ⟨T, hT⟩ : ∃ T, T = splitD l := ⟨_, rfl⟩
    rw [← hT] at HRA HLS hS ⊢
    clear hT
    by_cases h2 : T.length < 2
    · have HE : Hid (readA l = ((⟨#[]⟩, ⟨#[]⟩), 10)) := Lib.hid (by rw [HRA.out]; exact if_pos (.inl h2))
      obtain ⟨m, hm⟩ : ∃ m, m = T.length := ⟨_, rfl⟩
      rw [← hm] at h2 ⊢
      have d1 : decide ((m : Int) < 2) = true := by simp; omega
      clear hS hm h2
      obtain ⟨z0, z1⟩ := HZ3.out.cells
      obtain ⟨f0, f1⟩ := HZ3.out.frz
      go_wp2_with (fail)
      change bodyPost _ _ _ _ _ (setTwo w3 w.heap.size (.string ⟨#[]⟩) (.string ⟨#[]⟩))
      obtain ⟨hk1, hk2⟩ := HFIN.out w3 ⟨#[]⟩ ⟨#[]⟩ ⟨#[]⟩ ⟨#[]⟩ 10 HZ3.out HB3.out HE.out
      have HK2 := Lib.hid hk2
      generalize setTwo w3 w.heap.size (.string ⟨#[]⟩) (.string ⟨#[]⟩) = wz at *
      clear z0 z1 f0 f1 hk2
      obtain ⟨z0, z1⟩ := hk1.cells
      refine bodyPost_ret (v := .tuple #[ackV ⟨#[]⟩ ⟨#[]⟩, .int .i64 10]) ?_ rfl ⟨by rw [HE.out], HK2.out⟩
      simp [results, Tryd.results17, go_sem, *]
    · obtain ⟨b, o, rfl, hbl, hc⟩ := hS.read (i := 1) (by omega)
      have HCE : Hid (∀ W, Below w3.heap.size w3 W → W.cell? ⟨b, o + 1, none⟩ = some (str (T.getD 1 []))) := Lib.hid (fun W hW => (hW.cell (p := ⟨b, o + 1, none⟩) hbl).trans hc)
      obtain ⟨m, hm⟩ : ∃ m, m = T.length := ⟨_, rfl⟩
      rw [← hm] at h2 hS ⊢
      have d1 : decide ((m : Int) < 2) = false := by simp; omega
      have d2 : (1 : Int) < (m : Int) := by omega
      have HM2 : Hid (¬ T.length < 2) := Lib.hid (by omega)
      clear hS hm h2
      obtain ⟨s, hs⟩ : ∃ s : ByteArray, s = txt (T.getD 1 []) := ⟨_, rfl⟩
      have HSZ : Hid (s.size ≤ 1000000) := Lib.hid (by rw [hs, txt_size']; have := HLS.out; have := HN.out; omega)
      rw [show str (T.getD 1 []) = .string s from congrArg Value.string hs.symm] at hc HCE
      have HT1 : Hid (txt (T.getD 1 []) = s) := Lib.hid hs.symm
      clear hs
      go_wp2_with (fail)
      refine (refName s w3).mono ?_
      rintro e w4 ⟨rfl, rfl⟩
      by_cases hnm : nameS s = msaB
      · have dn := msa_t hnm
        have dn2 : ((nameS s).toList != [77, 83, 65]) = false := by rw [bne, dn]; rfl
        have HRT : Hid (readA l = if codeD (txt ((nthD (fieldsD s h.d.a) 1).getD [])) = true then ((txt ((nthD (fieldsD s h.d.a) 1).getD []), txt ((nthD (fieldsD s h.d.a) 2).getD [])), 0) else ((⟨#[]⟩, ⟨#[]⟩), 17)) := Lib.hid (by
          rw [HRA.out]
          unfold tellD
          rw [HT1.out, if_neg]
          rintro (h | h)
          · exact HM2.out h
          · exact h hnm)
        clear hnm
        go_wp2_with (fail)
        clear dn dn2
        have hcl := fun (q : Later w4) => HCE.out q.u q.h
        obtain ⟨q0, q1, q2, q3, q4, _⟩ : (∀ q : Later w4, q.u.cell? ⟨G, 0, none⟩ = some (u8 h.d.a)) ∧ (∀ q : Later w4, q.u.cell? ⟨G, 1, none⟩ = some (u8 h.d.b)) ∧ (∀ q : Later w4, q.u.cell? ⟨G, 2, none⟩ = some (u8 h.d.c)) ∧ (∀ q : Later w4, q.u.cell? ⟨G, 3, none⟩ = some (u8 h.d.d)) ∧ (∀ q : Later w4, q.u.cell? ⟨G, 4, none⟩ = some (u8 h.d.e)) ∧ True := by
          have t := fun q : Later w4 => (HX3.out.below q.h).cells
          exact ⟨fun q => (t q).1, fun q => (t q).2.1, fun q => (t q).2.2.1, fun q => (t q).2.2.2.1, fun q => (t q).2.2.2.2.1, trivial⟩
        clear hc
        refine region_later (by kernel_rfl) (by kernel_rfl) ?_
        repeat (go_big_quiet_step ((go_at_call 32; exact Calls.later (refField s 1 h.d _ HSZ.out (by omega)))))
        refine wpQuiet_nil ?_
        intro nq
        have HX5 := Lib.hid (HX3.out.below nq.h)
        have HZ5 := Lib.hid (HZ3.out.below nq.h)
        have HB5 := Lib.hid (HB3.out.trans (nq.h.mono HB3.out.size))
        have HCE5 : Hid (∀ W, Below nq.u.heap.size nq.u W → W.cell? ⟨b, o + 1, none⟩ = some (.string s)) := Lib.hid (fun W hW => HCE.out W (nq.h.trans (hW.mono nq.h.size)))
        clear hcl q0 q1 q2 q3 q4 HCE HX3 HZ3 HB3
        generalize nq.u = w5 at *
        obtain ⟨cd, hcd⟩ : ∃ cd : ByteArray, cd = txt ((nthD (fieldsD s h.d.a) 1).getD []) := ⟨_, rfl⟩
        rw [← hcd] at HRT
        rw [show str ((nthD (fieldsD s h.d.a) 1).getD []) = .string cd from congrArg Value.string hcd.symm]
        clear hcd
        go_wp2_with (fail)
        have hcl := fun (q : Later w5) => HCE5.out q.u q.h
        obtain ⟨q0, q1, q2, q3, q4, _⟩ : (∀ q : Later w5, q.u.cell? ⟨G, 0, none⟩ = some (u8 h.d.a)) ∧ (∀ q : Later w5, q.u.cell? ⟨G, 1, none⟩ = some (u8 h.d.b)) ∧ (∀ q : Later w5, q.u.cell? ⟨G, 2, none⟩ = some (u8 h.d.c)) ∧ (∀ q : Later w5, q.u.cell? ⟨G, 3, none⟩ = some (u8 h.d.d)) ∧ (∀ q : Later w5, q.u.cell? ⟨G, 4, none⟩ = some (u8 h.d.e)) ∧ True := by
          have t := fun q : Later w5 => (HX5.out.below q.h).cells
          exact ⟨fun q => (t q).1, fun q => (t q).2.1, fun q => (t q).2.2.1, fun q => (t q).2.2.2.1, fun q => (t q).2.2.2.2.1, trivial⟩
        refine region_later (by kernel_rfl) (by kernel_rfl) ?_
        repeat (go_big_quiet_step ((go_at_call 32; exact Calls.later (refField s 2 h.d _ HSZ.out (by omega)))))
        refine wpQuiet_nil ?_
        intro nq2
        have HZ7 := Lib.hid (HZ5.out.below nq2.h)
        have HB7 := Lib.hid (HB5.out.trans (nq2.h.mono HB5.out.size))
        clear hcl q0 q1 q2 q3 q4 HCE5 HX5 HZ5 HB5
        generalize nq2.u = w7 at *
        obtain ⟨id, hid⟩ : ∃ id : ByteArray, id = txt ((nthD (fieldsD s h.d.a) 2).getD []) := ⟨_, rfl⟩
        rw [← hid] at HRT
        rw [show str ((nthD (fieldsD s h.d.a) 2).getD []) = .string id from congrArg Value.string hid.symm]
        clear hid
        go_wp2_with (fail)
        refine (refKnown10 cd w7).mono ?_
        rintro e w8 ⟨rfl, rfl⟩
        cases hk : codeD cd
        · have HE : Hid (readA l = ((⟨#[]⟩, ⟨#[]⟩), 17)) := Lib.hid (by rw [HRT.out, hk]; rfl)
          clear hk
          obtain ⟨z0, z1⟩ := HZ7.out.cells
          obtain ⟨f0, f1⟩ := HZ7.out.frz
          go_wp2_with (fail)
          change bodyPost _ _ _ _ _ (setTwo w8 w.heap.size (.string ⟨#[]⟩) (.string ⟨#[]⟩))
          obtain ⟨hk1, hk2⟩ := HFIN.out w8 ⟨#[]⟩ ⟨#[]⟩ ⟨#[]⟩ ⟨#[]⟩ 17 HZ7.out HB7.out HE.out
          have HK2 := Lib.hid hk2
          generalize setTwo w8 w.heap.size (.string ⟨#[]⟩) (.string ⟨#[]⟩) = wz at *
          clear z0 z1 f0 f1 hk2
          obtain ⟨z0, z1⟩ := hk1.cells
          refine bodyPost_ret (v := .tuple #[ackV ⟨#[]⟩ ⟨#[]⟩, .int .i64 17]) ?_ rfl ⟨by rw [HE.out], HK2.out⟩
          simp [results, Tryd.results17, go_sem, *]
        · have HR2 : Hid (readA l = ((cd, id), 0)) := Lib.hid (by rw [HRT.out, if_pos hk])
          clear hk
          obtain ⟨z0, z1⟩ := HZ7.out.cells
          obtain ⟨f0, f1⟩ := HZ7.out.frz
          go_wp2_with (fail)
          change bodyPost _ _ _ _ _ (setTwo w8 w.heap.size (.string cd) (.string id))
          obtain ⟨hk1, hk2⟩ := HFIN.out w8 cd id ⟨#[]⟩ ⟨#[]⟩ 0 HZ7.out HB7.out HR2.out
          have HK2 := Lib.hid hk2
          generalize setTwo w8 w.heap.size (.string cd) (.string id) = wz at *
          clear z0 z1 f0 f1 hk2
          obtain ⟨z0, z1⟩ := hk1.cells
          refine bodyPost_ret (v := .tuple #[ackV cd id, .int .i64 0]) ?_ rfl ⟨by rw [HR2.out], HK2.out⟩
          simp [results, Tryd.results17, go_sem, *]
      · have dn := msa_f hnm
        have dn2 : ((nameS s).toList != [77, 83, 65]) = true := by rw [bne, dn]; rfl
        have HE : Hid (readA l = ((⟨#[]⟩, ⟨#[]⟩), 10)) := Lib.hid (by rw [HRA.out]; exact if_pos (.inr (by rw [HT1.out]; exact hnm)))
        clear hnm hc
        obtain ⟨z0, z1⟩ := HZ3.out.cells
        obtain ⟨f0, f1⟩ := HZ3.out.frz
        go_wp2_with (fail)
        change bodyPost _ _ _ _ _ (setTwo w4 w.heap.size (.string ⟨#[]⟩) (.string ⟨#[]⟩))
        obtain ⟨hk1, hk2⟩ := HFIN.out w4 ⟨#[]⟩ ⟨#[]⟩ ⟨#[]⟩ ⟨#[]⟩ 10 HZ3.out HB3.out HE.out
        have HK2 := Lib.hid hk2
        generalize setTwo w4 w.heap.size (.string ⟨#[]⟩) (.string ⟨#[]⟩) = wz at *
        clear z0 z1 f0 f1 hk2
        obtain ⟨z0, z1⟩ := hk1.cells
        refine bodyPost_ret (v := .tuple #[ackV ⟨#[]⟩ ⟨#[]⟩, .int .i64 10]) ?_ rfl ⟨by rw [HE.out], HK2.out⟩
        simp [results, Tryd.results17, go_sem, *]
  · rw [if_neg he] at HRA
    have de : (x == 0) = false := by simpa using he
    have de2 : (x != 0) = true := by simpa using he
    clear he
    go_wp2_with (fail)
    change bodyPost _ _ _ _ _ (setTwo (w1.alloc (.cells h.cells TH)) w.heap.size (.string ⟨#[]⟩) (.string ⟨#[]⟩))
    obtain ⟨hk1, hk2⟩ := HFIN.out (w1.alloc (.cells h.cells TH)) ⟨#[]⟩ ⟨#[]⟩ ⟨#[]⟩ ⟨#[]⟩ x HZ2.out HB2.out HRA.out
    have HK2 := Lib.hid hk2
    generalize setTwo (w1.alloc (.cells h.cells TH)) w.heap.size (.string ⟨#[]⟩) (.string ⟨#[]⟩) = wz at *
    clear z0 z1 f0 f1 hk2
    obtain ⟨z0, z1⟩ := hk1.cells
    refine bodyPost_ret (v := .tuple #[ackV ⟨#[]⟩ ⟨#[]⟩, .int .i64 x]) ?_ rfl ⟨by rw [HRA.out], HK2.out⟩
    simp [results, Tryd.results17, go_sem, *]

set_option maxHeartbeats 4000000 in
set_option maxRecDepth 100000 in
theorem ackReads_walk (A : Option Addr) (n cp : Nat) (l : List UInt8) (w : World) (hv : Cds w) (hB : Bs w A n cp l) (_hcp : cp ≤ 140737488351232) :
    Calls Tryd.prog 4 #[.slice A n cp] w (True_ w) := by
  have hnm := hB.nmax
  have HV := Lib.hid (fun W (hb : Below w.heap.size w W) => hv.below hb)
  have HBS := Lib.hid hB
  clear hv hB
  go_enter Tryd.func4, Tryd.ntmps4
  by_cases hbig : 3000 < n
  · as_aux_lemma =>
    have d1 : decide ((3000 : Int) < (n : Int)) = true := by simp; omega
    go_wp2_with (fail)
    refine (alive10 w (HV.out _ (Below.refl _ _))).mono ?_
    rintro e w2 ⟨rfl, hbA⟩
    have HBA := Lib.hid hbA
    clear hbA
    go_wp2_with (fail)
    go_ret
    exact ⟨rfl, HBA.out⟩
  have d1 : decide ((3000 : Int) < (n : Int)) = false := by simp; omega
  have HN : Hid (n ≤ 1000000) := Lib.hid (by omega)
  clear hbig
  go_wp2_with (fail)
  clear d1
  refine (ackRead A n cp l w (HV.out _ (Below.refl _ _)) HBS.out HN.out).mono ?_
  rintro e w1 ⟨rfl, hb1⟩
  have HB1 := Lib.hid hb1
  have HBS1 := Lib.hid (HBS.out.below hb1)
  clear hb1
  obtain ⟨x, hx⟩ : ∃ x, x = (readA l).1.1 := ⟨_, rfl⟩
  obtain ⟨y, hy⟩ : ∃ y, y = (readA l).1.2 := ⟨_, rfl⟩
  obtain ⟨z, hz⟩ : ∃ z, z = (readA l).2 := ⟨_, rfl⟩
  have HXE := Lib.hid hx
  have HYE := Lib.hid hy
  have HZE := Lib.hid hz
  rw [← hx, ← hy, ← hz]
  clear hx hy hz
  have HX2 : Hid (BoxA x y w1.heap.size (w1.alloc (.cells #[.string x, .string y] 39))) := Lib.hid (heap_alloc_new w1 _)
  have HB2 : Hid (Below w.heap.size w (w1.alloc (.cells #[.string x, .string y] 39))) := Lib.hid (HB1.out.alloc HB1.out.size _)
  have HBS2 : Hid (Bs (w1.alloc (.cells #[.string x, .string y] 39)) A n cp l) := Lib.hid (HBS1.out.alloc _)
  go_wp2_with (fail)
  obtain ⟨G1, hG1⟩ : ∃ y, y = w1.heap.size := ⟨_, rfl⟩
  rw [← hG1] at HX2 ⊢
  clear hG1
  generalize w1.alloc (.cells #[.string x, .string y] 39) = w2 at *
  refine (refRead10 A n cp l w2 HBS2.out HN.out).mono ?_
  rintro e w3 ⟨rfl, hb3⟩
  rw [← HXE.out, ← HYE.out, ← HZE.out]
  have HX3 := Lib.hid (HX2.out.below hb3)
  have HB3 := Lib.hid (HB2.out.trans (hb3.mono HB2.out.size))
  have HX4 : Hid (BoxA x y w3.heap.size (w3.alloc (.cells #[.string x, .string y] 39))) := Lib.hid (heap_alloc_new w3 _)
  have HY4 : Hid (BoxA x y G1 (w3.alloc (.cells #[.string x, .string y] 39))) := Lib.hid (HX3.out.below ((Below.refl _ _).alloc (Nat.le_refl _) _))
  have HB4 : Hid (Below w.heap.size w (w3.alloc (.cells #[.string x, .string y] 39))) := Lib.hid (HB3.out.alloc HB3.out.size _)
  clear hb3 HX2 HB2 HBS2 HX3 HB3
  go_wp2_with (fail)
  obtain ⟨G3, hG3⟩ : ∃ y, y = w3.heap.size := ⟨_, rfl⟩
  rw [← hG3] at HX4 ⊢
  clear hG3
  generalize w3.alloc (.cells #[.string x, .string y] 39) = w4 at *
  refine (alive10 w4 (HV.out _ HB4.out)).mono ?_
  rintro e w5 ⟨rfl, hbA⟩
  have HBA := Lib.hid (HB4.out.trans (hbA.mono HB4.out.size))
  have HX5 := Lib.hid (HX4.out.below hbA)
  have HY5 := Lib.hid (HY4.out.below hbA)
  clear hbA HX4 HY4 HB4
  obtain ⟨c0, c1⟩ := HX5.out.cells
  obtain ⟨q0, q1⟩ := HY5.out.cells
  have heq := fun W => ack_self x y W
  have q2 : ((z : Int) == z) = true := by simp
  go_wp2_with (fail)
  go_ret
  exact ⟨rfl, HBA.out⟩
end Go.Proofs.YtbgjhpkjdcbclaaDoor
