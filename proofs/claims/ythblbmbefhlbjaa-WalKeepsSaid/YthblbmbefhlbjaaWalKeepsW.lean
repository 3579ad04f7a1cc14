/- WalKeeps, walked. -/
import Derived.Test.YthblbmbefhlbjaaWalKpI
import Derived.Test.YthblbmbefhlbjaaTxtC
namespace Go.Proofs.Ythblbmbefhlbjaa
open Go.RowKit Go.MapKept

theorem bs_nil (w : World) : Bs w none 0 0 [] := Bs.none_ w
theorem wal_room {d : Dk} {fs : Fs} {T : List (List UInt8)} {k : Int} (h : FsOk d fs) (hw : WalFs fs nmL T) (ho : d.ops ≤ k) (hk : k ≤ 1000) (n : Int) (hn : 0 ≤ n ∧ n ≤ 1073741824) : FsOk { d with room := n } fs ∧ WalFs fs nmL T ∧ ({ d with room := n } : Dk).ops ≤ k := by
  have e : opSetRoom d fs n = (.inl 0, { d with room := n }, fs) := if_pos hn
  have h1 : FsOk (opSetRoom d fs n).2.1 (opSetRoom d fs n).2.2 := callD_ok h (by omega) 5 n 0 (by omega) (by omega) ⟨#[]⟩ ⟨#[]⟩ []
  rw [e] at h1
  exact ⟨h1, hw, ho⟩
theorem wal_fail {d : Dk} {fs : Fs} {T : List (List UInt8)} {k : Int} (h : FsOk d fs) (hw : WalFs fs nmL T) (ho : d.ops ≤ k) (hk : k ≤ 1000) (n : Int) (hn : 1 ≤ n ∧ n ≤ 9223372036854775807) : FsOk { d with failIn := n } fs ∧ WalFs fs nmL T ∧ ({ d with failIn := n } : Dk).ops ≤ k := by
  have e : opFail d fs n = (.inl 0, { d with failIn := n }, fs) := if_neg (by omega)
  have h1 : FsOk (opFail d fs n).2.1 (opFail d fs n).2.2 := callD_ok h (by omega) 6 n 0 (by omega) (by omega) ⟨#[]⟩ ⟨#[]⟩ []
  rw [e] at h1
  exact ⟨h1, hw, ho⟩
theorem wal_arm {d : Dk} {fs : Fs} {T : List (List UInt8)} {k : Int} (h : FsOk d fs) (hw : WalFs fs nmL T) (ho : d.ops ≤ k) (hk : k ≤ 1000) (n j : Int) (hn : 1 ≤ n ∧ n ≤ 9223372036854775807) (hj : -9223372036854775808 ≤ j ∧ j ≤ 9223372036854775807) : FsOk { d with armedIn := n, armKeep := j } fs ∧ WalFs fs nmL T ∧ ({ d with armedIn := n, armKeep := j } : Dk).ops ≤ k := by
  have e : opArm d fs n j = (.inl 0, { d with armedIn := n, armKeep := j }, fs) := if_neg (by omega)
  have h1 : FsOk (opArm d fs n j).2.1 (opArm d fs n j).2.2 := callD_ok h (by omega) 7 n j (by omega) hj ⟨#[]⟩ ⟨#[]⟩ []
  rw [e] at h1
  exact ⟨h1, hw, ho⟩
theorem recs_snocK (rs : List (List UInt8)) (l : List UInt8) : (recs (rs ++ [l])).length = (recs rs).length + (record l).length := by
  rw [recs_snoc, List.length_append]

set_option maxHeartbeats 16000000 in
set_option maxRecDepth 100000 in
theorem walKeeps_walk (n : Int) (A : Option Addr) (k c : Nat) (T0 : List WAct) (w : World) (_wn : (Lit.int .i64 n).wf = true) (hL : WAs w A k c T0) : Calls Try.prog 5 #[.int .i64 n, .slice A k c] w (True_ w) := by
  have HL := Lib.hid hL
  have hmax : k ≤ 140737488351232 := hL.2.2.2.1
  clear hL
  go_enter Try.func5, Try.ntmps5
  go_wp2_with (fail)
  refine (alive14 w).mono ?_
  rintro e w0 ⟨rfl, hb0⟩
  have HB0 := Lib.hid hb0
  clear hb0
  go_wp2_with (fail)
  refine (great14 A k c T0 w0 (HL.out.below HB0.out)).mono ?_
  rintro e w1 ⟨b, rfl, hbig, hb1⟩
  have HB1 : Hid (Below w.heap.size w w1) := Lib.hid (HB0.out.trans (hb1.mono HB0.out.size))
  clear hb1 HB0
  cases b
  case true =>
    clear hbig
    go_wp2_with (fail)
    refine (alive14 w1).mono ?_
    rintro e w2 ⟨rfl, hb2⟩
    have HB2 : Hid (Below w.heap.size w w2) := Lib.hid (HB1.out.trans (hb2.mono HB1.out.size))
    clear hb2
    go_wp2_with (fail)
    go_ret
    exact ⟨rfl, HB2.out⟩
  case false =>
  have HN : Hid (k ≤ 80) := Lib.hid (by
    rcases Nat.lt_or_ge 80 k with h | h
    · cases hbig h
    · exact h)
  clear hbig
  go_wp2_with (fail)
  refine (room14 n w1).mono ?_
  rintro e w2 ⟨rfl, rfl⟩
  have HRM := Lib.hid (roomW_le n)
  generalize roomW n = R at *
  have HL1 := Lib.hid (HL.out.below HB1.out)
  have HB11 : Hid (Below w1.heap.size w1 w1) := Lib.hid (Below.refl _ _)
  clear HL
  go_wp2_with (fail)
  refine (dkNew (R : Int) (by have := HRM.out; omega) w1).mono ?_
  rintro e w2 ⟨D, M, rfl, h1, hb2⟩
  have H2 := Lib.hid h1
  have HB2 : Hid (Below w1.heap.size w1 w2) := Lib.hid hb2
  clear h1 hb2
  go_wp2_with (fail)
  refine (walOpen_new (E := fun _ => False) (by have := HRM.out; omega) H2.out nmL (by decide) nameL (Nat.le_trans HB11.out.size HB2.out.size) (fun _ h => h.elim)).mono ?_
  rintro e w3 ⟨L, v, rfl, hl3, h3, hc3, hL3, hv3⟩
  have hb4 : Below w3.heap.size w3 (w3.alloc (.cells #[pL L] TLP)) := (Below.refl _ _).alloc (Nat.le_refl _) _
  have HB4 : Hid (Below w1.heap.size w1 (w3.alloc (.cells #[pL L] TLP))) := Lib.hid (((HB11.out.trans (HB2.out.mono HB11.out.size)).trans (hc3.below H2.out (Nat.le_trans HB11.out.size HB2.out.size))).trans (hb4.mono (Nat.le_trans HB11.out.size (Nat.le_trans HB2.out.size hc3.ch.size))))
  obtain ⟨P, hP⟩ : ∃ P, P = w3.heap.size := ⟨_, rfl⟩
  have HST : Hid (KpSt w1.heap.size L D M P 0 (.slice none 0 0) [] [] v ⟨(R : Int), 0, 0, 0, 0, 0⟩ [] (w3.alloc (.cells #[pL L] TLP))) := Lib.hid (by
    have hrow : (w3.alloc (.cells #[pL L] TLP)).heap[P]? = some (.cells #[pL L] TLP) := by rw [hP]; exact heap_alloc_new w3 _
    refine ⟨h3.below hb4, (hl3.widen (fun j hj => ?_)).below hb4, newW_ok _ (by have := HRM.out; omega), (newW_plain (R : Int) nmL).hw, by show (0 : Int) ≤ _; omega, ⟨Rw.nil _ _ _, ⟨_, hrow⟩, fun hf => ?_, by rw [hP]; exact Nat.le_trans HB11.out.size (Nat.le_trans HB2.out.size hc3.ch.size)⟩, hrow⟩
    · rcases hj with hj | hj
      · cases hj
      · exact .inr (by rw [hj, hP]; exact Nat.le_refl _)
    · have := (hl3.foot_lt h3 hf).2
      omega)
  clear hb4 hl3 h3 hc3 hL3 hv3 H2 HB11 HB2
  have cP : (w3.alloc (.cells #[pL L] TLP)).cell? ⟨w3.heap.size, 0, none⟩ = some (pL L) := by rw [← hP]; exact cell_of_row _ _ 0 _ _ _ HST.out.bx
  go_wp2_with (fail)
  rw [← hP]
  clear cP
  clear hP
  generalize w3.alloc (.cells #[pL L] TLP) = w4 at *
  go_loopw [51, 8] (fun i vo wr => ∃ (j L : Nat) (T : List (List UInt8)) (v : Value) (d : Dk) (F : List Ent), j ≤ k ∧ i = .int .i64 j ∧ KpSt w1.heap.size L D M P j vo T T v d F wr ∧ Below w1.heap.size w1 wr) (fun i _ _ => k - (intOf i).toNat)
  case atStart => exact ⟨0, L, [], v, _, [], Nat.zero_le _, rfl, HST.out, HB4.out⟩
  case round =>
    clear HST HB4
    obtain ⟨wo, rfl⟩ : ∃ wo : World, wo = wr := ⟨_, rfl⟩
    obtain ⟨j, L, T, v, d, F, hj, rfl, hst, hb⟩ := hrel
    have HST := Lib.hid hst
    have HB := Lib.hid hb
    clear hst hb
    obtain ⟨vo, hvo⟩ : ∃ vo, vo = u8 := ⟨_, rfl⟩
    subst hvo
    by_cases hlt : j < k
    · as_aux_lemma =>
      obtain ⟨b, o, rfl, hxx⟩ := HL1.out.2.2.2.2 (by omega)
      obtain ⟨⟨kd, nn, kp, bd⟩, hxk⟩ : ∃ x, T0[j]? = some x := ⟨_, List.getElem?_eq_getElem (by have := HL1.out.1; omega)⟩
      obtain ⟨⟨c0, c1, c2, A5, m, c5, c3, hbd, hc5⟩, hfit⟩ := hxx j _ hxk
      obtain rfl : m = bd.length := hbd.len.symm
      have HFIT := Lib.hid hfit
      have HBD := Lib.hid hbd
      have hbl := World.block_lt_of_cell? w1 _ c0
      have c0 := (HB.out.cell (p := ⟨b, o + j * 4, none⟩) hbl).trans c0
      have c1 := (HB.out.cell (p := ⟨b, o + j * 4 + 1, none⟩) hbl).trans c1
      have c2 := (HB.out.cell (p := ⟨b, o + j * 4 + 2, none⟩) hbl).trans c2
      have c3 := (HB.out.cell (p := ⟨b, o + j * 4 + 3, none⟩) hbl).trans c3
      have hbo : Below wo.heap.size wo (wo.alloc (.cells #[.int .i64 kd, .int .i64 nn, .int .i64 kp, .slice A5 bd.length c5] 29)) := (Below.refl _ _).alloc (Nat.le_refl _) _
      have HS5 := Lib.hid (HST.out.below hbo)
      have HB5 : Hid (Below w1.heap.size w1 (wo.alloc (.cells #[.int .i64 kd, .int .i64 nn, .int .i64 kp, .slice A5 bd.length c5] 29))) := Lib.hid (HB.out.trans (hbo.mono HB.out.size))
      have HE5 : Hid ((wo.alloc (.cells #[.int .i64 kd, .int .i64 nn, .int .i64 kp, .slice A5 bd.length c5] 29)).heap[wo.heap.size]? = some (.cells #[.int .i64 kd, .int .i64 nn, .int .i64 kp, .slice A5 bd.length c5] 29)) := Lib.hid (heap_alloc_new wo _)
      have e0 : (wo.alloc (.cells #[.int .i64 kd, .int .i64 nn, .int .i64 kp, .slice A5 bd.length c5] 29)).cell? ⟨wo.heap.size, 0, none⟩ = some (.int .i64 kd) := cell_of_row _ _ 0 _ _ _ HE5.out
      have e1 : (wo.alloc (.cells #[.int .i64 kd, .int .i64 nn, .int .i64 kp, .slice A5 bd.length c5] 29)).cell? ⟨wo.heap.size, 1, none⟩ = some (.int .i64 nn) := cell_of_row _ _ 1 _ _ _ HE5.out
      have e2 : (wo.alloc (.cells #[.int .i64 kd, .int .i64 nn, .int .i64 kp, .slice A5 bd.length c5] 29)).cell? ⟨wo.heap.size, 2, none⟩ = some (.int .i64 kp) := cell_of_row _ _ 2 _ _ _ HE5.out
      have e3 : (wo.alloc (.cells #[.int .i64 kd, .int .i64 nn, .int .i64 kp, .slice A5 bd.length c5] 29)).cell? ⟨wo.heap.size, 3, none⟩ = some (.slice A5 bd.length c5) := cell_of_row _ _ 3 _ _ _ HE5.out
      have ex : (wo.alloc (.cells #[.int .i64 kd, .int .i64 nn, .int .i64 kp, .slice A5 bd.length c5] 29)).cell? ⟨P, 0, none⟩ = some (pL L) := cell_of_row _ _ 0 _ _ _ HS5.out.bx
      have HEN : Hid (∀ i, i = wo.heap.size → ¬ (vo.ownBlock = some i ∨ i = P) ∧ ¬ WFoot L D M F v i) := Lib.hid (fun i hi => ⟨fun h => by have := HST.out.lt i h; omega, fun h => by have := (HST.out.lg.foot_lt HST.out.dk h).2; omega⟩)
      have HWO : Hid (w1.heap.size ≤ wo.heap.size) := Lib.hid HB.out.size
      have HNJ : Hid (j < 80) := Lib.hid (by have := HN.out; omega)
      clear hxx hxk hbo hfit hbd hc5 hbl HST HB
      by_cases k0 : kd = 0
      · as_aux_lemma =>
        subst k0
        have hmf : ∀ (fn : Fn) (first cap : Array Value) (ww : World), (Instr.makeFunc fn first cap).run Try.prog ww = .ok (.func fn first cap) ww := fun _ _ _ _ => rfl
        have HBA : Hid (0 < bd.length → ∀ a, A5 = some a → a.block < w1.heap.size) := Lib.hid (fun h0 a ha => by
          obtain ⟨g', o', e', hlt', _⟩ := HBD.out.at_ h0
          rw [ha] at e'; injection e' with e'; subst e'
          exact hlt')
        go_wp2_with (fail)
        generalize wo.alloc (.cells #[.int .i64 0, .int .i64 nn, .int .i64 kp, .slice A5 bd.length c5] 29) = w5 at *
        refine (keepDo HS5.out.lg HS5.out.dk HS5.out.ok (by have := HS5.out.op; have := HNJ.out; omega) (by decide) A5 c5 bd (HBD.out.below HB5.out) (fun h0 a ha hf => by have h1 := HBA.out h0 a ha; have h2 := (HS5.out.dk.foot_lt hf).1; omega) (by have := HS5.out.len; omega) (by have := HS5.out.len; omega) HB5.out.size HS5.out.lt P wo.heap.size ex e3).mono ?_
        clear c0 c1 c2 c3 e0 e1 e2 e3 ex
        rintro e w7 ⟨F7, v7, he7, h7, hf7, hl7, hc7⟩
        have hAE := addD_keeps d bd nameL HS5.out.fs
        have hOK := addD_ok HS5.out.ok (by have := HS5.out.op; have := HNJ.out; omega) nmL (recs T).length bd
        have hE7 := hc7.ch.row HE5.out (fun hf => (HEN.out _ rfl).2 hf)
        have HB7 : Hid (Below w1.heap.size w1 w7) := Lib.hid (HB5.out.trans (hc7.below HS5.out.lg HS5.out.dk HB5.out.size))
        generalize addD d (fsOf F) nmL (recs T).length bd = r at *
        obtain ⟨x | op, d7, fs7⟩ := r
        · as_aux_lemma =>
          replace hAE : (if x = 0 then okLen bd.length = true ∧ WalFs fs7 nmL (T ++ [bd]) else WalFs fs7 nmL T) := hAE
          by_cases hx : x = 0
          · as_aux_lemma =>
            subst hx
            rw [if_pos rfl] at hAE
            dsimp only at h7 hf7 hOK hl7
            subst hf7
            rw [he7, show endDoW (Sum.inl 0 : Int ⊕ Int) = .returned (.tuple #[.int .i64 0, .agg #[.int .i64 0], .bool false]) from rfl]
            rw [if_pos rfl, if_pos rfl, ← recs_snocK] at hl7
            have HS7 := Lib.hid (HS5.out.wlch (k' := j + 1) hc7 h7 hl7 hOK.1 hAE.2 (by have := HS5.out.op; have := hOK.2; push_cast; omega))
            clear h7 hl7 hc7 hOK hAE he7 HS5
            have hbc : Below w7.heap.size w7 (w7.alloc (.cells #[.int .i64 0] 49)) := (Below.refl _ _).alloc (Nat.le_refl _) _
            have HS8 := Lib.hid (HS7.out.below hbc)
            have HB8 : Hid (Below w1.heap.size w1 (w7.alloc (.cells #[.int .i64 0] 49))) := Lib.hid (HB7.out.trans (hbc.mono HB7.out.size))
            have HE8 := Lib.hid ((hbc.block wo.heap.size (Array.getElem?_eq_some_iff.1 hE7).1).trans hE7)
            have e2 : (w7.alloc (.cells #[.int .i64 0] 49)).cell? ⟨wo.heap.size, 2, none⟩ = some (.int .i64 kp) := cell_of_row _ _ 2 _ _ _ HE8.out
            have e3 : (w7.alloc (.cells #[.int .i64 0] 49)).cell? ⟨wo.heap.size, 3, none⟩ = some (.slice A5 bd.length c5) := cell_of_row _ _ 3 _ _ _ HE8.out
            have HE9 : Hid (∀ m, ((w7.alloc (.cells #[.int .i64 0] 49)).drewN m).cell? ⟨wo.heap.size, 2, none⟩ = some (.int .i64 kp) ∧ ((w7.alloc (.cells #[.int .i64 0] 49)).drewN m).cell? ⟨wo.heap.size, 3, none⟩ = some (.slice A5 bd.length c5)) := Lib.hid (fun m => ⟨e2, e3⟩)
            clear hbc hE7 HB7 HS7
            go_wp2_with (fail)
            generalize w7.alloc (.cells #[.int .i64 0] 49) = w8 at *
            go_quiet (fail)
            have HS9 := Lib.hid (HS8.out.below (drawN_below (Below.refl _ _) nq))
            have HB9 := Lib.hid (drawN_below HB8.out nq)
            clear e3
            obtain ⟨e2, e3⟩ := HE9.out nq
            clear HS8 HB8 HE8 HE9
            generalize w8.drewN nq = w9 at *
            obtain ⟨Av, cv, hvf⟩ := HS9.out.own.own.form
            subst hvf
            clear e2
            have hb9 : Below w9.heap.size w9 (w9.alloc (.cells #[.slice A5 bd.length c5] 27)) := (Below.refl _ _).alloc (Nat.le_refl _) _
            have HRA : Hid (Rw w1.heap.size (fun j => WFoot L D M F7 v7 j ∨ j = P) (w9.alloc (.cells #[.slice A5 bd.length c5] 27)) (.slice Av T.length cv) T) := Lib.hid (HS9.out.own.own.below hb9)
            have HXA : Hid (Bs (w9.alloc (.cells #[.slice A5 bd.length c5] 27)) A5 bd.length c5 bd) := Lib.hid ((HBD.out.below HB9.out).below hb9)
            have HXO : Hid (0 < bd.length → ∀ b, A5 = some b → ¬ (Value.slice Av T.length cv).ownBlock = some b.block ∧ ¬ (WFoot L D M F7 v7 b.block ∨ b.block = P)) := Lib.hid (fun h0 b hb => ⟨fun he => by have h1 := (Rw.lt HS9.out.own.own he).1; have h2 := HBA.out h0 b hb; omega, fun he => by have h2 := HBA.out h0 b hb; rcases he with he | he; have h1 := (HS9.out.lg.foot_lt HS9.out.dk he).1; omega; have h1 := HS9.out.own.pb; omega⟩)
            have HTN : Hid (¬ (WFoot L D M F7 v7 (w9.alloc (.cells #[.slice A5 bd.length c5] 27)).heap.size ∨ (w9.alloc (.cells #[.slice A5 bd.length c5] 27)).heap.size = P)) := Lib.hid (fun he => by
              have h9 := hb9.size
              rcases he with he | he
              · have := (HS9.out.lg.foot_lt HS9.out.dk he).2; omega
              · have := HS9.out.own.lt; omega)
            have HGR : Hid ((w9.alloc (.cells #[.slice A5 bd.length c5] 27)).heap[w9.heap.size]? = some (.cells #[.slice A5 bd.length c5] 27)) := Lib.hid (heap_alloc_new w9 _)
            have HBZ : Hid (w1.heap.size ≤ (w9.alloc (.cells #[.slice A5 bd.length c5] 27)).heap.size) := Lib.hid (Nat.le_trans HB9.out.size hb9.size)
            have HLN : Hid (T.length + 1 ≤ 1099511627776) := Lib.hid (by have h9 := HS9.out.len; rw [List.length_append, List.length_singleton] at h9; omega)
            clear hb9
            have tok2 : Hid True := Lib.hid trivial
            go_wp2_with (at_builtin; have _t := tok2; go_loud ((refine wpList_rw rfl (.tmp 77) (.tmp 80) rfl w1.heap.size (fun j => WFoot L D M F7 v7 j ∨ j = P) (.slice Av T.length cv) T bd A5 c5 rfl HRA.out HXA.out HXO.out HTN.out w9.heap.size rfl HGR.out HLN.out HBZ.out ?_; intro v10 w10 hr10 hg10 hf10; obtain ⟨hs10, hb10⟩ := HS9.out.app hr10 hg10 hf10; have HS10 := Lib.hid hs10; have HB10 := Lib.hid (HB9.out.trans hb10); clear tok2 hr10 hg10 hf10 hs10 hb10 _t)))
            clear e3
            exact ⟨⟨j + 1, L, T ++ [bd], v7, d7, F7, by omega, by go_num, HS10.out, HB10.out⟩, by simp [intOf]; omega⟩
          · as_aux_lemma =>
            rw [if_neg hx] at hAE
            dsimp only at h7 hf7 hOK hl7
            subst hf7
            rw [he7, show endDoW (Sum.inl x : Int ⊕ Int) = .returned (.tuple #[.int .i64 x, .agg #[.int .i64 0], .bool false]) from rfl]
            rw [if_neg (by simpa using hx), if_neg (by simpa using hx)] at hl7
            have HS7 := Lib.hid (HS5.out.wlch (k' := j + 1) hc7 h7 hl7 hOK.1 hAE (by have := HS5.out.op; have := hOK.2; push_cast; omega))
            have nx : (x == 0) = false := by simpa using hx
            clear h7 hl7 hc7 hOK hAE he7 HS5
            have hbc : Below w7.heap.size w7 (w7.alloc (.cells #[.int .i64 0] 49)) := (Below.refl _ _).alloc (Nat.le_refl _) _
            have HS8 := Lib.hid (HS7.out.below hbc)
            have HB8 : Hid (Below w1.heap.size w1 (w7.alloc (.cells #[.int .i64 0] 49))) := Lib.hid (HB7.out.trans (hbc.mono HB7.out.size))
            have HE8 := Lib.hid ((hbc.block wo.heap.size (Array.getElem?_eq_some_iff.1 hE7).1).trans hE7)
            have e2 : (w7.alloc (.cells #[.int .i64 0] 49)).cell? ⟨wo.heap.size, 2, none⟩ = some (.int .i64 kp) := cell_of_row _ _ 2 _ _ _ HE8.out
            have e3 : (w7.alloc (.cells #[.int .i64 0] 49)).cell? ⟨wo.heap.size, 3, none⟩ = some (.slice A5 bd.length c5) := cell_of_row _ _ 3 _ _ _ HE8.out
            have HE9 : Hid (∀ m, ((w7.alloc (.cells #[.int .i64 0] 49)).drewN m).cell? ⟨wo.heap.size, 2, none⟩ = some (.int .i64 kp) ∧ ((w7.alloc (.cells #[.int .i64 0] 49)).drewN m).cell? ⟨wo.heap.size, 3, none⟩ = some (.slice A5 bd.length c5)) := Lib.hid (fun m => ⟨e2, e3⟩)
            clear hbc hE7 HB7 HS7
            go_wp2_with (fail)
            generalize w7.alloc (.cells #[.int .i64 0] 49) = w8 at *
            go_quiet (fail)
            have HS9 := Lib.hid (HS8.out.below (drawN_below (Below.refl _ _) nq))
            have HB9 := Lib.hid (drawN_below HB8.out nq)
            clear e3
            obtain ⟨e2, e3⟩ := HE9.out nq
            clear HS8 HB8 HE8 HE9
            generalize w8.drewN nq = w9 at *
            clear e2 e3
            go_wp2_with (fail)
            exact ⟨⟨j + 1, L, T, v7, d7, F7, by omega, by go_num, HS9.out, HB9.out⟩, by simp [intOf]; omega⟩
        · as_aux_lemma =>
          replace hAE : HalfFs fs7 nmL T bd := hAE
          dsimp only at h7 hf7 hOK hl7
          subst hf7
          rw [he7, show endDoW (Sum.inr op : Int ⊕ Int) = .returned (.tuple #[.int .i64 0, .agg #[.int .i64 op], .bool true]) from rfl]
          have HS7 := Lib.hid (HS5.out.half (k' := 6 * (j : Int) + 3) hc7 h7 hOK.1 (by have := HS5.out.op; have := hOK.2; omega))
          have HOP := Lib.hid (opened_half (d := d7) kp hAE)
          have HBX := HBD
          clear h7 hl7 hc7 hOK hAE he7 HS5
          have hbc : Below w7.heap.size w7 (w7.alloc (.cells #[.int .i64 op] 49)) := (Below.refl _ _).alloc (Nat.le_refl _) _
          have HS8 := Lib.hid (HS7.out.below hbc)
          have HB8 : Hid (Below w1.heap.size w1 (w7.alloc (.cells #[.int .i64 op] 49))) := Lib.hid (HB7.out.trans (hbc.mono HB7.out.size))
          have HE8 := Lib.hid ((hbc.block wo.heap.size (Array.getElem?_eq_some_iff.1 hE7).1).trans hE7)
          have e2 : (w7.alloc (.cells #[.int .i64 op] 49)).cell? ⟨wo.heap.size, 2, none⟩ = some (.int .i64 kp) := cell_of_row _ _ 2 _ _ _ HE8.out
          have e3 : (w7.alloc (.cells #[.int .i64 op] 49)).cell? ⟨wo.heap.size, 3, none⟩ = some (.slice A5 bd.length c5) := cell_of_row _ _ 3 _ _ _ HE8.out
          have HE9 : Hid (∀ m, ((w7.alloc (.cells #[.int .i64 op] 49)).drewN m).cell? ⟨wo.heap.size, 2, none⟩ = some (.int .i64 kp) ∧ ((w7.alloc (.cells #[.int .i64 op] 49)).drewN m).cell? ⟨wo.heap.size, 3, none⟩ = some (.slice A5 bd.length c5)) := Lib.hid (fun m => ⟨e2, e3⟩)
          clear hbc hE7 HB7 HS7
          go_wp2_with (fail)
          generalize w7.alloc (.cells #[.int .i64 op] 49) = w8 at *
          go_quiet (fail)
          have HS9 := Lib.hid (HS8.out.below (drawN_below (Below.refl _ _) nq))
          have HB9 := Lib.hid (drawN_below HB8.out nq)
          clear e3
          obtain ⟨e2, e3⟩ := HE9.out nq
          clear HS8 HB8 HE8 HE9
          generalize w8.drewN nq = w9 at *
          have HD9 := HS9
          clear HS9 e3
          go_wp2_with (fail)
          clear e2
          refine (mPower HD9.out.dk HD9.out.ok kp).mono ?_
          rintro e w10 ⟨F10, rfl, h10, hc10, hf10⟩
          obtain ⟨T', hT, hs1, hs2, ho1, hw1⟩ := HOP.out
          have hp10 := power_ok HD9.out.ok kp
          have hd10 : (opPower d7 (fsOf F7) kp).2.1.ops = d7.ops := rfl
          rw [← hf10] at hs1 hs2 ho1 hw1 hp10
          dsimp only [endM]
          rw [show (opPower d7 (fsOf F7) kp).1 = .inl 0 from rfl]
          generalize (opPower d7 (fsOf F7) kp).2.1 = d10 at *
          have HD10 := Lib.hid (HD9.out.dkch (k' := 6 * (j : Int) + 3) hc10 h10 hp10 (by have := HD9.out.op; omega))
          have HB10 : Hid (Below w1.heap.size w1 w10) := Lib.hid (HB9.out.trans (DkCh.below HD9.out.dk hc10 HB9.out.size))
          have HT := Lib.hid hT
          have HOQ := Lib.hid (openD_ok HD10.out.ok (by have := HD10.out.op; have := HNJ.out; omega) nmL)
          have H1 := Lib.hid (And.intro hs1 (And.intro hs2 (And.intro ho1 hw1)))
          clear h10 hc10 hf10 hp10 hd10 hT hs1 hs2 ho1 hw1 HD9 HB9 HOP
          go_wp2_with (fail)
          refine (walOpen (E := fun j => vo.ownBlock = some j ∨ j = P) HD10.out.dk HD10.out.ok (by have := HD10.out.op; have := HNJ.out; omega) nmL (by decide) nameL HB10.out.size HD10.out.lt).mono ?_
          rintro e w11 ⟨F11, h11, hf11, hc11, hm⟩
          obtain ⟨hs1, hs2, ho1, hw1⟩ := H1.out
          rw [ho1] at hm
          dsimp only at hm
          rw [if_pos rfl] at hm
          obtain ⟨L', v', rfl, hl11, hL11, hv11⟩ := hm
          rw [hs1, hs2] at hl11
          have hok11 := HOQ.out.1
          have hop11 := HOQ.out.2
          rw [← hf11] at hok11 hw1
          generalize (openD d10 (fsOf F10) nmL).2.1 = d11 at *
          have HSQ := Lib.hid (HD10.out.opened (k' := j + 1) hc11 h11 hok11 (by have := HD10.out.op; push_cast; omega) hl11 hw1 hL11 hv11)
          have HS12 := Lib.hid HSQ.out.1
          have HB12 : Hid (Below w1.heap.size w1 (w11.setCell ⟨P, 0, none⟩ (pL L'))) := Lib.hid ((HB10.out.trans (DkCh.below HD10.out.dk hc11 HB10.out.size)).trans HSQ.out.2)
          obtain ⟨u0, hu0⟩ := HD10.out.own.bx
          have hu1 := hc11.ch.row hu0 HD10.out.own.off
          have fP : w11.frozen? ⟨P, 0, none⟩ = false := by simp [World.frozen?, hu1]
          have cP0 : w11.cell? ⟨P, 0, none⟩ = some u0 := cell_of_row _ _ 0 _ _ _ hu1
          clear hu0 hu1
          have cP : (w11.setCell ⟨P, 0, none⟩ (pL L')).cell? ⟨P, 0, none⟩ = some (pL L') := cell_of_row _ _ 0 _ _ _ HS12.out.bx
          have HWF : Hid (∀ x ∈ T', okLen x.length = true) := Lib.hid hw1.1
          clear h11 hf11 hc11 hs1 hs2 ho1 hw1 hl11 hL11 hv11 hok11 hop11 HSQ H1 HOQ HD10 HB10
          obtain ⟨Av, cv, hvf⟩ := HS12.out.own.own.form
          have HVF := Lib.hid hvf
          obtain ⟨N, hN⟩ : ∃ N, N = T.length := ⟨_, rfl⟩
          rw [← hN] at hvf
          have HNT := Lib.hid hN
          obtain ⟨N', hN'⟩ : ∃ N', N' = T'.length := ⟨_, rfl⟩
          have HNT' := Lib.hid hN'
          have hNN : N' = N ∨ N' = N + 1 := by
            rcases HT.out with h | h
            · left; rw [hN, hN', h]
            · right; rw [hN, hN', h]; simp
          have HNM : Hid (N' ≤ 1073741824) := Lib.hid (by have := HS12.out.len; omega)
          have g1 : wrap64 ((N : Int) + 1) = (N : Int) + 1 := IntWalk.wrap64_in _ (by have := HNM.out; omega)
          have l1 : decide (N' < N) = false := by simp; omega
          have l2 : decide ((N : Int) + 1 < (N' : Int)) = false := by simp; omega
          have l3 : decide (N + 1 < N') = false := by simp; omega
          have HNN := Lib.hid hNN
          clear hN hN' hNN
          rw [hvf] at HS12 ⊢
          subst hvf
          go_wp2_with (fail)
          clear fP cP0 u0
          generalize w11.setCell ⟨P, 0, none⟩ (pL L') = w12 at *
          refine (walLen HS12.out.lg).mono ?_
          rintro e w13 ⟨rfl, rfl⟩
          rw [← HNT'.out]
          go_wp2_with (fail)
          refine (walLen HS12.out.lg).mono ?_
          rintro e w13 ⟨rfl, rfl⟩
          rw [← HNT'.out]
          go_wp2_with (fail)
          refine (walLen HS12.out.lg).mono ?_
          rintro e w13 ⟨rfl, rfl⟩
          rw [← HNT'.out]
          go_wp2_with (fail)
          clear cP g1 l1 l2 l3
          go_loopw [139, 8] (fun i vq wr => ∃ (q : Nat) (Sq : List (List UInt8)), q ≤ N' ∧ i = .int .i64 q ∧ ((q ≤ N ∧ Sq = T) ∨ (N < q ∧ Sq = T')) ∧ KpSt w1.heap.size L' D M P (j + 1) vq Sq T' v' d11 F11 wr ∧ Below w1.heap.size w1 wr) (fun i _ _ => N' - (intOf i).toNat)
          case atStart => exact ⟨0, T, Nat.zero_le _, rfl, .inl ⟨Nat.zero_le _, rfl⟩, HS12.out, HB12.out⟩
          case round =>
            clear HS12 HB12
            obtain ⟨wi, rfl⟩ : ∃ wi : World, wi = wr := ⟨_, rfl⟩
            obtain ⟨q, Sq, hq, rfl, hsq, hst, hb⟩ := hrel
            have HSI := Lib.hid hst
            have HBI := Lib.hid hb
            have HSQ := Lib.hid hsq
            clear hst hb hsq
            obtain ⟨vq, hvq⟩ : ∃ vq, vq = u8 := ⟨_, rfl⟩
            subst hvq
            by_cases hqn : q < N'
            · as_aux_lemma =>
              have e1 : (q : Int) < (N' : Int) := by omega
              have e2 : (0 : Int) ≤ (q : Int) := by omega
              have HQ := Lib.hid hqn
              have HQT : Hid (q < T'.length) := Lib.hid (by rw [← HNT'.out]; exact hqn)
              have HW1 : Hid (wrap64 ((q : Int) + 1) = (q : Int) + 1) := Lib.hid (IntWalk.wrap64_in _ (by have := HNM.out; omega))
              have cP := cell_of_row _ _ 0 _ _ _ HSI.out.bx
              obtain ⟨Y, hY⟩ : ∃ Y, Y = T'.getD q [] := ⟨_, rfl⟩
              have HY := Lib.hid hY
              have HYL : Hid (Y.length ≤ 65536) := Lib.hid (by
                have := okLen_yes (HWF.out Y (by rw [hY, List.getD_eq_getElem?_getD, List.getElem?_eq_getElem HQT.out]; exact List.getElem_mem _))
                omega)
              clear hY hq
              go_wp2_with (fail)
              refine (walGet HSI.out.lg q HQT.out (by rw [← HY.out]; exact HYL.out)).mono ?_
              rw [← HY.out]
              rintro e w7 ⟨A7, c7, rfl, hB7, hfr, hb7⟩
              have HS7 := Lib.hid (HSI.out.below hb7)
              have HB7 : Hid (Below w1.heap.size w1 w7) := Lib.hid (HBI.out.trans (hb7.mono HBI.out.size))
              have HX7 := Lib.hid hB7
              have HFR : Hid (0 < Y.length → ∀ b, A7 = some b → wi.heap.size ≤ b.block) := Lib.hid (fun h0 b hb => (hfr h0 b hb).1)
              have HFI : Hid (∀ i, (vq.ownBlock = some i ∨ i = P) ∨ WFoot L' D M F11 v' i → i < wi.heap.size) := Lib.hid (fun i hi => by
                rcases hi with hi | hi
                · exact HSI.out.lt i hi
                · exact (HSI.out.lg.foot_lt HSI.out.dk hi).2)
              have HSZ : Hid (wi.heap.size ≤ w7.heap.size) := Lib.hid hb7.size
              clear hfr hb7 HSI HBI cP
              have hsx := fun m => (hB7.drewN m).str (P := Try.prog) 27 5 9 Try.underlying27 Try.underlying5 Try.underlying9
              have sq : ((txt Y).toList != (txt Y).toList) = false := by simp
              have sq2 : (Y != Y) = false := by simp
              obtain ⟨Av2, cv2, hvf2⟩ := HS7.out.own.own.form
              have hqN : q ≤ N := by have := HNN.out; omega
              have hST : Sq = T := by
                rcases HSQ.out with ⟨_, h⟩ | ⟨h, _⟩
                · exact h
                · omega
              subst hST
              rw [← HNT.out] at hvf2
              subst hvf2
              clear hB7
              by_cases hqt : q < N
              · as_aux_lemma =>
                obtain ⟨Ar, cr, hre, hrd⟩ := HS7.out.own.own.rd
                have HYT : Hid (Y = Sq.getD q []) := Lib.hid (by
                  rw [HY.out]
                  rcases HT.out with h | h
                  · rw [h]
                  · rw [h, List.getD_eq_getElem?_getD, List.getD_eq_getElem?_getD, List.getElem?_append_left (by rw [← HNT.out]; exact hqt)])
                obtain ⟨b2, o2, A2, k2, rfl, _, hc2, hB2⟩ := hrd.read (i := q) (by rw [← HNT.out]; exact hqt)
                rw [← HYT.out] at hc2 hB2
                injection hre with hre1 hre2 hre3
                subst hre1
                clear hrd hre2 hre3
                have hsy := fun m => (hB2.drewN m).str (P := Try.prog) 27 5 9 Try.underlying27 Try.underlying5 Try.underlying9
                have e3 : (q : Int) < (N : Int) := by omega
                have e4 : ((q : Int) == (N : Int)) = false := by rw [beq_eq_false_iff_ne]; omega
                have e5 : (q == N) = false := by rw [beq_eq_false_iff_ne]; omega
                have e6 : decide (q < N) = true := by simp; omega
                clear hB2
                go_wp2_with (fail)
                go_quiet (fail)
                have HS8 := Lib.hid (HS7.out.below (drawN_below (Below.refl _ _) nq))
                have HB8 := Lib.hid (drawN_below HB7.out nq)
                have w1' := HW1.out
                go_wp2_with (fail)
                exact ⟨⟨q + 1, Sq, HQ.out, by go_num, .inl ⟨hqt, rfl⟩, HS8.out, HB8.out⟩, by have := HQ.out; (try rw [w1']); clear w1'; simp [intOf]; omega⟩
              · as_aux_lemma =>
                have hT2 : T' = Sq ++ [bd] := by
                  rcases HT.out with h | h
                  · have h1 := HNT.out
                    have h2 := HNT'.out
                    rw [h] at h2
                    omega
                  · exact h
                have hqe : q = Sq.length := by have := HNT.out; omega
                have hYb : Y = bd := by rw [HY.out, hT2, hqe, List.getD_eq_getElem?_getD, List.getElem?_append_right (Nat.le_refl _)]; simp
                subst hYb
                have HT2 := Lib.hid hT2
                have HQE : Hid (q = N) := Lib.hid (by have := HNT.out; omega)
                have hsd := fun m => ((HBX.out.below HB7.out).drewN m).str (P := Try.prog) 27 5 9 Try.underlying27 Try.underlying5 Try.underlying9
                have e3 : decide ((q : Int) < (N : Int)) = false := by simp; omega
                have e4 : ((q : Int) == (N : Int)) = true := by rw [beq_iff_eq]; omega
                have e5 : (q == N) = true := by rw [beq_iff_eq]; omega
                have e6 : decide (q < N) = false := by simp; omega
                clear hT2 hqe
                go_wp2_with (fail)
                go_quiet (fail)
                have HS8 := Lib.hid (HS7.out.below (drawN_below (Below.refl _ _) nq))
                have HB8 := Lib.hid (drawN_below HB7.out nq)
                have HX8 := Lib.hid (HX7.out.drewN nq)
                have HSZ8 : Hid (wi.heap.size ≤ (w7.drewN nq).heap.size) := Lib.hid HSZ.out
                generalize w7.drewN nq = w8 at *
                clear hsx hsd HS7 HB7 HX7 e3 e6
                have hb9 : Below w8.heap.size w8 (w8.alloc (.cells #[.slice A7 Y.length c7] 27)) := (Below.refl _ _).alloc (Nat.le_refl _) _
                have HRA : Hid (Rw w1.heap.size (fun j => WFoot L' D M F11 v' j ∨ j = P) (w8.alloc (.cells #[.slice A7 Y.length c7] 27)) (.slice Av2 N cv2) Sq) := Lib.hid (HS8.out.own.own.below hb9)
                have HXA : Hid (Bs (w8.alloc (.cells #[.slice A7 Y.length c7] 27)) A7 Y.length c7 Y) := Lib.hid ((HX8.out).below hb9)
                have HXO : Hid (0 < Y.length → ∀ b, A7 = some b → ¬ (Value.slice Av2 N cv2).ownBlock = some b.block ∧ ¬ (WFoot L' D M F11 v' b.block ∨ b.block = P)) := Lib.hid (fun h0 b hb => ⟨fun he => by have := HFI.out _ (.inl (.inl he)); have := HFR.out h0 b hb; omega, fun he => by have := HFI.out b.block (by rcases he with he | he; exact .inr he; exact .inl (.inr he)); have := HFR.out h0 b hb; omega⟩)
                have HTN : Hid (¬ (WFoot L' D M F11 v' (w8.alloc (.cells #[.slice A7 Y.length c7] 27)).heap.size ∨ (w8.alloc (.cells #[.slice A7 Y.length c7] 27)).heap.size = P)) := Lib.hid (fun he => by
                  have h9 := hb9.size
                  rcases he with he | he
                  · have := (HS8.out.lg.foot_lt HS8.out.dk he).2; omega
                  · have := HS8.out.own.lt; omega)
                have HGR : Hid ((w8.alloc (.cells #[.slice A7 Y.length c7] 27)).heap[w8.heap.size]? = some (.cells #[.slice A7 Y.length c7] 27)) := Lib.hid (heap_alloc_new w8 _)
                have HBZ : Hid (w1.heap.size ≤ (w8.alloc (.cells #[.slice A7 Y.length c7] 27)).heap.size) := Lib.hid (Nat.le_trans HB8.out.size hb9.size)
                have HLN : Hid (Sq.length + 1 ≤ 1099511627776) := Lib.hid (by have := HNM.out; have := HNN.out; have := HNT.out; omega)
                clear hb9
                have tok2 : Hid True := Lib.hid trivial
                go_wp2_with (at_builtin; have _t := tok2; go_loud ((refine wpList_rw rfl (.tmp 183) (.tmp 185) rfl w1.heap.size (fun j => WFoot L' D M F11 v' j ∨ j = P) (.slice Av2 N cv2) Sq Y A7 c7 rfl HRA.out HXA.out HXO.out HTN.out w8.heap.size rfl HGR.out HLN.out HBZ.out ?_; intro v10 w10 hr10 hg10 hf10; obtain ⟨hs10, hb10⟩ := HS8.out.app hr10 hg10 hf10; have HS10 := Lib.hid hs10; have HB10 := Lib.hid (HB8.out.trans hb10); clear tok2 hr10 hg10 hf10 hs10 hb10 _t)))
                have w1' := HW1.out
                exact ⟨⟨q + 1, Sq ++ [Y], HQ.out, by go_num, .inr ⟨by have := HQE.out; omega, HT2.out.symm⟩, HS10.out, HB10.out⟩, by have := HQ.out; (try rw [w1']); clear w1'; simp [intOf]; omega⟩
            · as_aux_lemma =>
              obtain rfl : q = N' := by omega
              have hST : Sq = T' := by
                rcases HSQ.out with ⟨h1, h2⟩ | ⟨_, h2⟩
                · rcases HT.out with h3 | h3
                  · rw [h2, h3]
                  · have h4 := HNT.out; have h5 := HNT'.out; rw [h3, List.length_append] at h5; simp only [List.length_singleton] at h5; omega
                · exact h2
              subst hST
              clear hqn hq
              go_wp2_with (fail)
              exact ⟨⟨j + 1, L', Sq, v', d11, F11, by omega, by go_num, HSI.out, HBI.out⟩, by simp [intOf]; omega⟩
      by_cases k1 : kd = 1
      · as_aux_lemma =>
        subst k1
        go_wp2_with (fail)
        refine (room14 nn _).mono ?_
        rintro e w6 ⟨rfl, rfl⟩
        have HRM2 := Lib.hid (roomW_le nn)
        generalize roomW nn = R2 at *
        go_wp2_with (fail)
        generalize wo.alloc (.cells #[.int .i64 1, .int .i64 nn, .int .i64 kp, .slice A5 bd.length c5] 29) = w5 at *
        clear c0 c1 c2 c3 e0 e1 e2 e3 ex
        have HQ := Lib.hid (wal_room HS5.out.ok HS5.out.fs HS5.out.op (by have := HNJ.out; omega) (R2 : Int) (by have := HRM2.out; omega))
        have hop : opSetRoom d (fsOf F) (R2 : Int) = (.inl 0, { d with room := (R2 : Int) }, fsOf F) := if_pos (by have := HRM2.out; omega)
        refine (mSetRoom HS5.out.dk _).mono ?_
        rw [hop]
        rintro e w6 ⟨F6, rfl, h6, hc6, hf6⟩
        dsimp only at h6 hf6
        have HS6 := Lib.hid (HS5.out.dkch (k' := j + 1) hc6 h6 (by rw [hf6]; exact HQ.out.1) (by rw [hf6]; exact HQ.out.2.1) (by show d.ops ≤ _; have := HS5.out.op; push_cast; omega))
        have HB6 : Hid (Below w1.heap.size w1 w6) := Lib.hid (HB5.out.trans (DkCh.below HS5.out.dk hc6 HB5.out.size))
        clear h6 hc6 hf6 hop
        dsimp only [endM]
        go_wp2_with (fail)
        exact ⟨⟨j + 1, L, T, v, _, F6, by omega, by go_num, HS6.out, HB6.out⟩, by simp [intOf]; omega⟩
      by_cases k2 : kd = 2
      · as_aux_lemma =>
        subst k2
        go_wp2_with (fail)
        generalize wo.alloc (.cells #[.int .i64 2, .int .i64 nn, .int .i64 kp, .slice A5 bd.length c5] 29) = w5 at *
        clear c0 c1 c2 c3 e0 e1 e2 e3 ex
        have HQ := Lib.hid (wal_fail HS5.out.ok HS5.out.fs HS5.out.op (by have := HNJ.out; omega) (max 1 nn) (by have := HFIT.out.n; simp only at this; omega))
        have hop : opFail d (fsOf F) (max 1 nn) = (.inl 0, { d with failIn := max 1 nn }, fsOf F) := if_neg (by omega)
        refine (mFail HS5.out.dk (max 1 nn)).mono ?_
        rw [hop]
        rintro e w6 ⟨F6, rfl, h6, hc6, hf6⟩
        dsimp only at h6 hf6
        have HS6 := Lib.hid (HS5.out.dkch (k' := j + 1) hc6 h6 (by rw [hf6]; exact HQ.out.1) (by rw [hf6]; exact HQ.out.2.1) (by show d.ops ≤ _; have := HS5.out.op; push_cast; omega))
        have HB6 : Hid (Below w1.heap.size w1 w6) := Lib.hid (HB5.out.trans (DkCh.below HS5.out.dk hc6 HB5.out.size))
        clear h6 hc6 hf6 hop
        dsimp only [endM]
        go_wp2_with (fail)
        exact ⟨⟨j + 1, L, T, v, _, F6, by omega, by go_num, HS6.out, HB6.out⟩, by simp [intOf]; omega⟩
      by_cases k3 : kd = 3
      · as_aux_lemma =>
        subst k3
        go_wp2_with (fail)
        generalize wo.alloc (.cells #[.int .i64 3, .int .i64 nn, .int .i64 kp, .slice A5 bd.length c5] 29) = w5 at *
        clear c0 c1 c2 c3 e0 e1 e2 e3 ex
        have HQ := Lib.hid (wal_arm HS5.out.ok HS5.out.fs HS5.out.op (by have := HNJ.out; omega) (max 1 nn) kp (by have := HFIT.out.n; simp only at this; omega) (by have := HFIT.out.k; simpa using this))
        have hop : opArm d (fsOf F) (max 1 nn) kp = (.inl 0, { d with armedIn := max 1 nn, armKeep := kp }, fsOf F) := if_neg (by omega)
        refine (mArm HS5.out.dk (max 1 nn) kp).mono ?_
        rw [hop]
        rintro e w6 ⟨F6, rfl, h6, hc6, hf6⟩
        dsimp only at h6 hf6
        have HS6 := Lib.hid (HS5.out.dkch (k' := j + 1) hc6 h6 (by rw [hf6]; exact HQ.out.1) (by rw [hf6]; exact HQ.out.2.1) (by show d.ops ≤ _; have := HS5.out.op; push_cast; omega))
        have HB6 : Hid (Below w1.heap.size w1 w6) := Lib.hid (HB5.out.trans (DkCh.below HS5.out.dk hc6 HB5.out.size))
        clear h6 hc6 hf6 hop
        dsimp only [endM]
        go_wp2_with (fail)
        exact ⟨⟨j + 1, L, T, v, _, F6, by omega, by go_num, HS6.out, HB6.out⟩, by simp [intOf]; omega⟩
      have n0 : (kd == 0) = false := by simpa using k0
      have n1 : (kd == 1) = false := by simpa using k1
      have n2 : (kd == 2) = false := by simpa using k2
      have n3 : (kd == 3) = false := by simpa using k3
      clear k0 k1 k2 k3
      by_cases k4 : kd = 4
      · as_aux_lemma =>
        subst k4
        go_wp2_with (fail)
        generalize wo.alloc (.cells #[.int .i64 4, .int .i64 nn, .int .i64 kp, .slice A5 bd.length c5] 29) = w5 at *
        clear c0 c1 c2 c3 e0 e1 e2 e3 ex
        have HD9 := Lib.hid HS5.out.gone
        have HOP := Lib.hid (opened_whole (d := d) (T := T) kp HS5.out.fs)
        have HB9 := HB5
        refine (mPower HD9.out.dk HD9.out.ok kp).mono ?_
        rintro e w10 ⟨F10, rfl, h10, hc10, hf10⟩
        obtain ⟨T', hT, hs1, hs2, ho1, hw1⟩ := HOP.out
        have HT0 := Lib.hid hT
        have hT : T' = T ∨ T' = T ++ [([] : List UInt8)] := .inl hT
        have hp10 := power_ok HD9.out.ok kp
        have hd10 : (opPower d (fsOf F) kp).2.1.ops = d.ops := rfl
        rw [← hf10] at hs1 hs2 ho1 hw1 hp10
        dsimp only [endM]
        rw [show (opPower d (fsOf F) kp).1 = .inl 0 from rfl]
        generalize (opPower d (fsOf F) kp).2.1 = d10 at *
        have HD10 := Lib.hid (HD9.out.dkch (k' := 6 * (j : Int)) hc10 h10 hp10 (by have := HD9.out.op; omega))
        have HB10 : Hid (Below w1.heap.size w1 w10) := Lib.hid (HB9.out.trans (DkCh.below HD9.out.dk hc10 HB9.out.size))
        have HT := Lib.hid hT
        have HOQ := Lib.hid (openD_ok HD10.out.ok (by have := HD10.out.op; have := HNJ.out; omega) nmL)
        have H1 := Lib.hid (And.intro hs1 (And.intro hs2 (And.intro ho1 hw1)))
        clear h10 hc10 hf10 hp10 hd10 hT hs1 hs2 ho1 hw1 HD9 HB9 HOP
        go_wp2_with (fail)
        refine (walOpen (E := fun j => vo.ownBlock = some j ∨ j = P) HD10.out.dk HD10.out.ok (by have := HD10.out.op; have := HNJ.out; omega) nmL (by decide) nameL HB10.out.size HD10.out.lt).mono ?_
        rintro e w11 ⟨F11, h11, hf11, hc11, hm⟩
        obtain ⟨hs1, hs2, ho1, hw1⟩ := H1.out
        rw [ho1] at hm
        dsimp only at hm
        rw [if_pos rfl] at hm
        obtain ⟨L', v', rfl, hl11, hL11, hv11⟩ := hm
        rw [hs1, hs2] at hl11
        have hok11 := HOQ.out.1
        have hop11 := HOQ.out.2
        rw [← hf11] at hok11 hw1
        generalize (openD d10 (fsOf F10) nmL).2.1 = d11 at *
        have HSQ := Lib.hid (HD10.out.opened (k' := j + 1) hc11 h11 hok11 (by have := HD10.out.op; push_cast; omega) hl11 hw1 hL11 hv11)
        have HS12 := Lib.hid HSQ.out.1
        have HB12 : Hid (Below w1.heap.size w1 (w11.setCell ⟨P, 0, none⟩ (pL L'))) := Lib.hid ((HB10.out.trans (DkCh.below HD10.out.dk hc11 HB10.out.size)).trans HSQ.out.2)
        obtain ⟨u0, hu0⟩ := HD10.out.own.bx
        have hu1 := hc11.ch.row hu0 HD10.out.own.off
        have fP : w11.frozen? ⟨P, 0, none⟩ = false := by simp [World.frozen?, hu1]
        have cP0 : w11.cell? ⟨P, 0, none⟩ = some u0 := cell_of_row _ _ 0 _ _ _ hu1
        clear hu0 hu1
        have cP : (w11.setCell ⟨P, 0, none⟩ (pL L')).cell? ⟨P, 0, none⟩ = some (pL L') := cell_of_row _ _ 0 _ _ _ HS12.out.bx
        have HWF : Hid (∀ x ∈ T', okLen x.length = true) := Lib.hid hw1.1
        clear h11 hf11 hc11 hs1 hs2 ho1 hw1 hl11 hL11 hv11 hok11 hop11 HSQ H1 HOQ HD10 HB10
        obtain ⟨Av, cv, hvf⟩ := HS12.out.own.own.form
        have HVF := Lib.hid hvf
        obtain ⟨N, hN⟩ : ∃ N, N = T.length := ⟨_, rfl⟩
        rw [← hN] at hvf
        have HNT := Lib.hid hN
        obtain ⟨N', hN'⟩ : ∃ N', N' = T'.length := ⟨_, rfl⟩
        have HNT' := Lib.hid hN'
        have hNN : N' = N ∨ N' = N + 1 := by
          rcases HT.out with h | h
          · left; rw [hN, hN', h]
          · right; rw [hN, hN', h]; simp
        have HNM : Hid (N' ≤ 1073741824) := Lib.hid (by have := HS12.out.len; omega)
        have g1 : wrap64 ((N : Int) + 1) = (N : Int) + 1 := IntWalk.wrap64_in _ (by have := HNM.out; omega)
        have l1 : decide (N' < N) = false := by simp; omega
        have l2 : decide ((N : Int) + 1 < (N' : Int)) = false := by simp; omega
        have l3 : decide (N + 1 < N') = false := by simp; omega
        have HNN := Lib.hid hNN
        clear hN hN' hNN
        rw [hvf] at HS12 ⊢
        subst hvf
        go_wp2_with (fail)
        clear fP cP0 u0
        generalize w11.setCell ⟨P, 0, none⟩ (pL L') = w12 at *
        refine (walLen HS12.out.lg).mono ?_
        rintro e w13 ⟨rfl, rfl⟩
        rw [← HNT'.out]
        go_wp2_with (fail)
        refine (walLen HS12.out.lg).mono ?_
        rintro e w13 ⟨rfl, rfl⟩
        rw [← HNT'.out]
        go_wp2_with (fail)
        refine (walLen HS12.out.lg).mono ?_
        rintro e w13 ⟨rfl, rfl⟩
        rw [← HNT'.out]
        go_wp2_with (fail)
        clear cP g1 l1 l2 l3
        go_loopw [139, 8] (fun i vq wr => ∃ (q : Nat) (Sq : List (List UInt8)), q ≤ N' ∧ i = .int .i64 q ∧ ((q ≤ N ∧ Sq = T) ∨ (N < q ∧ Sq = T')) ∧ KpSt w1.heap.size L' D M P (j + 1) vq Sq T' v' d11 F11 wr ∧ Below w1.heap.size w1 wr) (fun i _ _ => N' - (intOf i).toNat)
        case atStart => exact ⟨0, T, Nat.zero_le _, rfl, .inl ⟨Nat.zero_le _, rfl⟩, HS12.out, HB12.out⟩
        case round =>
          clear HS12 HB12
          obtain ⟨wi, rfl⟩ : ∃ wi : World, wi = wr := ⟨_, rfl⟩
          obtain ⟨q, Sq, hq, rfl, hsq, hst, hb⟩ := hrel
          have HSI := Lib.hid hst
          have HBI := Lib.hid hb
          have HSQ := Lib.hid hsq
          clear hst hb hsq
          obtain ⟨vq, hvq⟩ : ∃ vq, vq = u8 := ⟨_, rfl⟩
          subst hvq
          by_cases hqn : q < N'
          · as_aux_lemma =>
            have e1 : (q : Int) < (N' : Int) := by omega
            have e2 : (0 : Int) ≤ (q : Int) := by omega
            have HQ := Lib.hid hqn
            have HQT : Hid (q < T'.length) := Lib.hid (by rw [← HNT'.out]; exact hqn)
            have HW1 : Hid (wrap64 ((q : Int) + 1) = (q : Int) + 1) := Lib.hid (IntWalk.wrap64_in _ (by have := HNM.out; omega))
            have cP := cell_of_row _ _ 0 _ _ _ HSI.out.bx
            obtain ⟨Y, hY⟩ : ∃ Y, Y = T'.getD q [] := ⟨_, rfl⟩
            have HY := Lib.hid hY
            have HYL : Hid (Y.length ≤ 65536) := Lib.hid (by
              have := okLen_yes (HWF.out Y (by rw [hY, List.getD_eq_getElem?_getD, List.getElem?_eq_getElem HQT.out]; exact List.getElem_mem _))
              omega)
            clear hY hq
            go_wp2_with (fail)
            refine (walGet HSI.out.lg q HQT.out (by rw [← HY.out]; exact HYL.out)).mono ?_
            rw [← HY.out]
            rintro e w7 ⟨A7, c7, rfl, hB7, hfr, hb7⟩
            have HS7 := Lib.hid (HSI.out.below hb7)
            have HB7 : Hid (Below w1.heap.size w1 w7) := Lib.hid (HBI.out.trans (hb7.mono HBI.out.size))
            have HX7 := Lib.hid hB7
            have HFR : Hid (0 < Y.length → ∀ b, A7 = some b → wi.heap.size ≤ b.block) := Lib.hid (fun h0 b hb => (hfr h0 b hb).1)
            have HFI : Hid (∀ i, (vq.ownBlock = some i ∨ i = P) ∨ WFoot L' D M F11 v' i → i < wi.heap.size) := Lib.hid (fun i hi => by
              rcases hi with hi | hi
              · exact HSI.out.lt i hi
              · exact (HSI.out.lg.foot_lt HSI.out.dk hi).2)
            have HSZ : Hid (wi.heap.size ≤ w7.heap.size) := Lib.hid hb7.size
            clear hfr hb7 HSI HBI cP
            have hsx := fun m => (hB7.drewN m).str (P := Try.prog) 27 5 9 Try.underlying27 Try.underlying5 Try.underlying9
            have sq : ((txt Y).toList != (txt Y).toList) = false := by simp
            have sq2 : (Y != Y) = false := by simp
            obtain ⟨Av2, cv2, hvf2⟩ := HS7.out.own.own.form
            have hqN : q ≤ N := by have := HNN.out; omega
            have hST : Sq = T := by
              rcases HSQ.out with ⟨_, h⟩ | ⟨h, _⟩
              · exact h
              · omega
            subst hST
            rw [← HNT.out] at hvf2
            subst hvf2
            clear hB7
            by_cases hqt : q < N
            · as_aux_lemma =>
              obtain ⟨Ar, cr, hre, hrd⟩ := HS7.out.own.own.rd
              have HYT : Hid (Y = Sq.getD q []) := Lib.hid (by
                rw [HY.out]
                rcases HT.out with h | h
                · rw [h]
                · rw [h, List.getD_eq_getElem?_getD, List.getD_eq_getElem?_getD, List.getElem?_append_left (by rw [← HNT.out]; exact hqt)])
              obtain ⟨b2, o2, A2, k2, rfl, _, hc2, hB2⟩ := hrd.read (i := q) (by rw [← HNT.out]; exact hqt)
              rw [← HYT.out] at hc2 hB2
              injection hre with hre1 hre2 hre3
              subst hre1
              clear hrd hre2 hre3
              have hsy := fun m => (hB2.drewN m).str (P := Try.prog) 27 5 9 Try.underlying27 Try.underlying5 Try.underlying9
              have e3 : (q : Int) < (N : Int) := by omega
              have e4 : ((q : Int) == (N : Int)) = false := by rw [beq_eq_false_iff_ne]; omega
              have e5 : (q == N) = false := by rw [beq_eq_false_iff_ne]; omega
              have e6 : decide (q < N) = true := by simp; omega
              clear hB2
              go_wp2_with (fail)
              go_quiet (fail)
              have HS8 := Lib.hid (HS7.out.below (drawN_below (Below.refl _ _) nq))
              have HB8 := Lib.hid (drawN_below HB7.out nq)
              have w1' := HW1.out
              go_wp2_with (fail)
              exact ⟨⟨q + 1, Sq, HQ.out, by go_num, .inl ⟨hqt, rfl⟩, HS8.out, HB8.out⟩, by have := HQ.out; (try rw [w1']); clear w1'; simp [intOf]; omega⟩
            · exfalso
              have h1 := HNT.out
              have h2 := HNT'.out
              rw [HT0.out] at h2
              omega
          · as_aux_lemma =>
            obtain rfl : q = N' := by omega
            have hST : Sq = T' := by
              rcases HSQ.out with ⟨h1, h2⟩ | ⟨_, h2⟩
              · rcases HT.out with h3 | h3
                · rw [h2, h3]
                · have h4 := HNT.out; have h5 := HNT'.out; rw [h3, List.length_append] at h5; simp only [List.length_singleton] at h5; omega
              · exact h2
            subst hST
            clear hqn hq
            go_wp2_with (fail)
            exact ⟨⟨j + 1, L', Sq, v', d11, F11, by omega, by go_num, HSI.out, HBI.out⟩, by simp [intOf]; omega⟩
      · as_aux_lemma =>
        have n4 : (kd == 4) = false := by simpa using k4
        clear k4
        go_wp2_with (fail)
        generalize wo.alloc (.cells #[.int .i64 kd, .int .i64 nn, .int .i64 kp, .slice A5 bd.length c5] 29) = w5 at *
        clear c0 c1 c2 c3 e0 e1 e2 e3 ex
        have HS6 := Lib.hid (HS5.out.later (Nat.le_succ j))
        exact ⟨⟨j + 1, L, T, v, d, F, by omega, by go_num, HS6.out, HB5.out⟩, by simp [intOf]; omega⟩
    · as_aux_lemma =>
      obtain rfl : j = k := by omega
      obtain ⟨Av, cv, rfl⟩ := HST.out.own.own.form
      have HB' := HB
      have cP := cell_of_row _ _ 0 _ _ _ HST.out.bx
      clear hlt
      go_wp2_with (fail)
      refine (walLen HST.out.lg).mono ?_
      rintro e w2 ⟨rfl, rfl⟩
      go_wp2_with (fail)
      go_ret
      exact ⟨by simp, HB1.out.trans (HB'.out.mono HB1.out.size)⟩
end Go.Proofs.Ythblbmbefhlbjaa
