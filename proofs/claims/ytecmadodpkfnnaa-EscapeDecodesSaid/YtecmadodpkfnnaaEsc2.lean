/- Layer 7: all escapes, walked. -/
import Derived.Test.YtecmadodpkfnnaaEsc1
import Derived.Test.YtecmadodpkfnnaaHeldMore
namespace Go.Proofs.Ytecmadodpkfnnaa
open Go.RowKit Go.MapKept

/-- what escapesOf holds -/
structure EscSt (s : Sgn) (B G M2 : Nat) (E : List (UInt8 × Value)) (w wr : World) : Prop where
  box : Box5 s G wr
  map : MapIs u8 wr M2 E
  low : Below B w wr
  bG : B ≤ G
  bM : B ≤ M2
  bw : B = w.heap.size
theorem EscSt.below {s : Sgn} {B G M2 : Nat} {E : List (UInt8 × Value)} {w wr w' : World} (h : EscSt s B G M2 E w wr) (hb : Below wr.heap.size wr w') : EscSt s B G M2 E w w' :=
  ⟨h.box.below hb, h.map.below hb, h.low.trans (hb.mono (by have := h.low.size; have := h.bw; omega)), h.bG, h.bM, h.bw⟩
theorem EscSt.ch {s : Sgn} {B G M2 : Nat} {E : List (UInt8 × Value)} {S : Nat → Prop} {w wr w' : World} (h : EscSt s B G M2 E w wr) (c : Ch S wr w') (h1 : ¬ S G) (h2 : ¬ S M2) (h3 : ∀ k, S k → B ≤ k) (h4 : B ≤ wr.heap.size) : EscSt s B G M2 E w w' :=
  ⟨h.box.ch c h1, h.map.ch c h2, h.low.trans (c.below h3 h4), h.bG, h.bM, h.bw⟩
theorem EscSt.put {s : Sgn} {B G M2 : Nat} {E E' : List (UInt8 × Value)} {w wr w' : World} (h : EscSt s B G M2 E w wr) (c : Ch (fun j => j = M2) wr w') (hm : MapIs u8 w' M2 E') (h4 : B ≤ wr.heap.size) : EscSt s B G M2 E' w w' :=
  ⟨h.box.ch c (fun e => (h.map.ne h.box) e.symm), hm, h.low.trans (c.below (fun k hk => by rw [hk]; exact h.bM) h4), h.bG, h.bM, h.bw⟩

set_option maxHeartbeats 4000000 in
set_option maxRecDepth 100000 in
theorem escEscapes (s : Sgn) (hg : s.good = true) (w : World) : Calls Try.prog 27 #[s.v] w fun e w' => ∃ M E, e = .returned (.map (some M)) ∧ MapIs u8 w' M E ∧ EscFr s 3 E ∧ w.heap.size ≤ M ∧ Below w.heap.size w w' := by
  have hmm := @run_makeMap Try.prog
  have hb0 : Below w.heap.size w (w.alloc (.cells #[u8 s.a, u8 s.b, u8 s.c, u8 s.d, u8 s.e] 23)) := (Below.refl _ _).alloc (Nat.le_refl _) _
  have hb1 : Below w.heap.size w ((w.alloc (.cells #[u8 s.a, u8 s.b, u8 s.c, u8 s.d, u8 s.e] 23)).alloc (.map #[] 0)) := hb0.alloc (by simp) _
  have HST : Hid (EscSt s w.heap.size w.heap.size (w.heap.size + 1) [] w ((w.alloc (.cells #[u8 s.a, u8 s.b, u8 s.c, u8 s.d, u8 s.e] 23)).alloc (.map #[] 0))) := Lib.hid ⟨(Box5.new s w).below ((Below.refl _ _).alloc (Nat.le_refl _) _), by have := MapIs.new u8 (w.alloc (.cells #[u8 s.a, u8 s.b, u8 s.c, u8 s.d, u8 s.e] 23)); simpa using this, hb1, Nat.le_refl _, by omega, rfl⟩
  have HG := Lib.hid hg
  clear hb0 hb1 hg
  go_enter Try.func27, Try.ntmps27
  go_wp2_with (fail)
  generalize ((w.alloc (.cells #[u8 s.a, u8 s.b, u8 s.c, u8 s.d, u8 s.e] 23)).alloc (.map #[] 0)) = w0 at *
  refine (escSigns s w0).mono ?_
  rintro e w1 ⟨M1, rfl, hm1, hlo1, hb1⟩
  have HS1 := Lib.hid (HST.out.below hb1)
  have HM1 := Lib.hid hm1
  have HLO : Hid (w.heap.size ≤ M1) := Lib.hid (Nat.le_trans HST.out.low.size hlo1)
  have HNE : Hid (M1 ≠ w.heap.size + 1) := Lib.hid (by have := HST.out.map.lt; omega)
  clear hm1 hlo1 hb1 HST
  have tok1 : Hid True := Lib.hid trivial
  go_wp2_with (at_range; have _t := tok1; refine wpList_rangeL rfl (.tmp 10) 74 rfl Try.underlying74 M1 (sgnL s) rfl HM1.out ?_; intro w2 hr2 hb2 hz2; have HR2 := Lib.hid hr2; have HS2 := Lib.hid (HS1.out.below hb2); have HI : Hid (w.heap.size ≤ w1.heap.size ∧ w1.heap.size ≠ w.heap.size + 1) := Lib.hid (by have := HS1.out.low.size; have := HS1.out.map.lt; omega); clear tok1 hr2 hb2 hz2 _t)
  go_frame
  generalize w1.heap.size = I at *
  rw [sgnL_eq] at HR2
  go_loopw [4, 5] (fun _ _ wr => ∃ lb E, Rng u8 wr M1 I ((sgB s).map toV) (lb.map toV) ∧ EscSt s w.heap.size w.heap.size (w.heap.size + 1) E w wr ∧ EscInv s lb E) (fun _ _ wr => rngLeft M1 I wr)
  case atStart => exact ⟨sgB s, [], HR2.out, HS2.out, EscInv.start HG.out⟩
  case round =>
    clear HR2 HS2 HS1 HM1
    obtain ⟨wo, rfl⟩ : ∃ wo : World, wo = wr := ⟨_, rfl⟩
    obtain ⟨lb, E, hr, hs, hi⟩ := hrel
    have HR := Lib.hid hr
    have HS := Lib.hid hs
    have HV := Lib.hid hi
    have HLE := Lib.hid hr.left_eq
    clear hr hs hi
    by_cases h0 : lb = []
    · subst h0
      have HR0 : Hid (Rng u8 wo M1 I ((sgB s).map toV) []) := Lib.hid HR.out
      have HF := Lib.hid (EscInv.fin HV.out)
      go_wp2_with (at_next; refine wpList_nextL0 rfl (.tmp 11) rfl M1 I _ rfl HR0.out ?_)
      clear HR0 HR HV HLE
      go_loopw [26, 6, 7] (fun i _ _ wr => ∃ (j : Nat) (E : List (UInt8 × Value)), j ≤ 3 ∧ i = .int .i64 j ∧ EscSt s w.heap.size w.heap.size (w.heap.size + 1) E w wr ∧ EscFr s j E) (fun i _ _ _ => 3 - (intOf i).toNat)
      case atStart => exact ⟨0, E, by omega, rfl, HS.out, HF.out⟩
      case round =>
        clear HS HF
        obtain ⟨wi, rfl⟩ : ∃ wi : World, wi = wr := ⟨_, rfl⟩
        obtain ⟨j, E2, hj, rfl, hs, hf⟩ := hrel
        have HS := Lib.hid hs
        have HF := Lib.hid hf
        clear hs hf
        by_cases hlt : j < 3
        · have hj3 : j = 0 ∨ j = 1 ∨ j = 2 := by omega
          obtain ⟨x0, x1, x2, x3, x4⟩ := HS.out.box.cells
          rcases hj3 with rfl | rfl | rfl
          · clear hlt
            have ix1 : ∀ W, (Instr.index 9 (.string ⟨#[48, 49, 50, 51, 52, 53, 54, 55, 56, 57, 65, 66, 67, 68, 69, 70]⟩) (.int .u8 0)).run Try.prog W = .ok (.int .u8 48) W := fun _ => by kernel_rfl
            have ba : bits BinOp.and IntKind.u8 11 15 = 11 := by kernel_rfl
            have ix2 : ∀ W, (Instr.index 9 (.string ⟨#[48, 49, 50, 51, 52, 53, 54, 55, 56, 57, 65, 66, 67, 68, 69, 70]⟩) (.int .u8 11)).run Try.prog W = .ok (.int .u8 66) W := fun _ => by kernel_rfl
            go_wp2_with (fail)
            rw [show (((⟨#[11, 13, 28]⟩ : ByteArray)[0]).toNat : Int) = 11 from rfl]
            refine wp_region_held_drew (S := fun w' => w'.cell? ⟨w.heap.size, 3, none⟩ = some (u8 s.d)) (by kernel_rfl) ?_ (fun hHeld => ?_)
            · exact x3
            refine wpAnyH_take (i := 0) (oi := ⟨some 31, _, _, _, _, _⟩) (v := ?v1) rfl (by kernel_rfl) (by kernel_rfl) (by kernel_rfl) (fun _ _ _ h => h) (Or.inl ⟨by kernel_rfl, ?hy1⟩) hHeld ?rest1
            case hy1 =>
              intro w hSw
              (try dsimp only at hSw)
              go_simp
              (try with_reducible rfl)
            (try simp only [Act.put])
            refine wpAnyH_take (i := 1) (oi := ⟨some 32, _, _, _, _, _⟩) (v := ?v2) rfl (by kernel_rfl) (by kernel_rfl) (by kernel_rfl) (fun _ _ _ h => h) (Or.inl ⟨by kernel_rfl, ?hy2⟩) hHeld ?rest2
            case hy2 =>
              intro w hSw
              (try dsimp only at hSw)
              go_simp
              (try with_reducible rfl)
            (try simp only [Act.put])
            refine wpAnyH_take (i := 2) (oi := ⟨some 33, _, _, _, _, _⟩) (v := ?v3) rfl (by kernel_rfl) (by kernel_rfl) (by kernel_rfl) (fun _ _ _ h => h) (Or.inl ⟨by kernel_rfl, ?hy3⟩) hHeld ?rest3
            case hy3 =>
              intro w hSw
              (try dsimp only at hSw)
              go_simp
              (try with_reducible rfl)
            (try simp only [Act.put])
            refine wpAnyH_take (i := 3) (oi := ⟨some 34, _, _, _, _, _⟩) (v := ?v4) rfl (by kernel_rfl) (by kernel_rfl) (by kernel_rfl) (fun _ _ _ h => h) (Or.inl ⟨by kernel_rfl, ?hy4⟩) hHeld ?rest4
            case hy4 =>
              intro w hSw
              (try dsimp only at hSw)
              go_simp
              (try with_reducible rfl)
            (try simp only [Act.put])
            refine wpAnyH_take (i := 4) (oi := ⟨some 35, _, _, _, _, _⟩) (v := ?v5) rfl (by kernel_rfl) (by kernel_rfl) (by kernel_rfl) (fun _ _ _ h => h) (Or.inl ⟨by kernel_rfl, ?hy5⟩) hHeld ?rest5
            case hy5 =>
              intro w hSw
              (try dsimp only at hSw)
              go_simp
              (try with_reducible rfl)
            (try simp only [Act.put])
            refine wpAnyH_take (i := 5) (oi := ⟨some 36, _, _, _, _, _⟩) (v := ?v6) rfl (by kernel_rfl) (by kernel_rfl) (by kernel_rfl) (fun _ _ _ h => h) (Or.inl ⟨by kernel_rfl, ?hy6⟩) hHeld ?rest6
            case hy6 =>
              intro w hSw
              (try dsimp only at hSw)
              go_simp
              (try with_reducible rfl)
            (try simp only [Act.put])
            refine wpAnyH_take (i := 6) (oi := ⟨some 37, _, _, _, _, _⟩) (v := ?v7) rfl (by kernel_rfl) (by kernel_rfl) (by kernel_rfl) (fun _ _ _ h => h) (Or.inl ⟨by kernel_rfl, ?hy7⟩) hHeld ?rest7
            case hy7 =>
              intro w hSw
              (try dsimp only at hSw)
              go_simp
              (try with_reducible rfl)
            (try simp only [Act.put])
            refine wpAnyH_take (i := 7) (oi := ⟨some 38, _, _, _, _, _⟩) (v := ?v8) rfl (by kernel_rfl) (by kernel_rfl) (by kernel_rfl) (fun _ _ _ h => h) (Or.inl ⟨by kernel_rfl, ?hy8⟩) hHeld ?rest8
            case hy8 =>
              intro w hSw
              (try dsimp only at hSw)
              go_simp
              (try with_reducible rfl)
            (try simp only [Act.put])
            refine wpAnyH_take (i := 8) (oi := ⟨some 39, _, _, _, _, _⟩) (v := ?v9) rfl (by kernel_rfl) (by kernel_rfl) (by kernel_rfl) (fun _ _ _ h => h) (Or.inl ⟨by kernel_rfl, ?hy9⟩) hHeld ?rest9
            case hy9 =>
              intro w hSw
              (try dsimp only at hSw)
              go_simp
              (try with_reducible rfl)
            (try simp only [Act.put])
            refine wpAnyH_take (i := 9) (oi := ⟨some 40, _, _, _, _, _⟩) (v := ?v10) rfl (by kernel_rfl) (by kernel_rfl) (by kernel_rfl) (fun _ _ _ h => h) (Or.inl ⟨by kernel_rfl, ?hy10⟩) hHeld ?rest10
            case hy10 =>
              intro w hSw
              (try dsimp only at hSw)
              go_simp
              (try with_reducible rfl)
            (try simp only [Act.put])
            refine wpAnyH_take (i := 10) (oi := ⟨some 41, _, _, _, _, _⟩) (v := ?v11) rfl (by kernel_rfl) (by kernel_rfl) (by kernel_rfl) (fun _ _ _ h => h) (Or.inl ⟨by kernel_rfl, ?hy11⟩) hHeld ?rest11
            case hy11 =>
              intro w hSw
              (try dsimp only at hSw)
              go_simp
              (try with_reducible rfl)
            (try simp only [Act.put])
            refine wpAnyH_take (i := 11) (oi := ⟨some 42, _, _, _, _, _⟩) (v := ?v12) rfl (by kernel_rfl) (by kernel_rfl) (by kernel_rfl) (fun _ _ _ h => h) (Or.inl ⟨by kernel_rfl, ?hy12⟩) hHeld ?rest12
            case hy12 =>
              intro w hSw
              (try dsimp only at hSw)
              go_simp
              (try with_reducible rfl)
            (try simp only [Act.put])
            refine wpAnyH_ready (rs := [12]) (by kernel_rfl) (by simp) (AllReadyH.cons (o := ⟨some 43, _, _, _, _, _⟩) rfl (fun K hK => ?_) AllReadyH.nil)
            go_simp
            have HA := Lib.hid (HS.out.below ((Below.refl wi.heap.size wi).drew.alloc (Nat.le_refl _) (.cells #[.int .u8 (s.d.toNat : Int), .int .u8 88, .int .u8 48, .int .u8 66, .int .u8 (s.d.toNat : Int)] 5)))
            have HBS := Lib.hid (Bs.lit wi.drew [s.d, 88, 48, 66, s.d] 5 #[.int .u8 (s.d.toNat : Int), .int .u8 88, .int .u8 48, .int .u8 66, .int .u8 (s.d.toNat : Int)] wi.heap.size rfl rfl rfl (by simp [maxLen]))
            refine hK.out _ _ HA.out.box.cells.2.2.2.1 (fun hHeld => ?_)
            clear hK K
            have hHeld : (wi.drew.alloc (.cells #[.int .u8 (s.d.toNat : Int), .int .u8 88, .int .u8 48, .int .u8 66, .int .u8 (s.d.toNat : Int)] 5)).cell? ⟨w.heap.size, 3, none⟩ = some (u8 s.d) ∧ (convert 35 9 (.slice (some ⟨wi.heap.size, 0, none⟩) 5 5)).run Try.prog (wi.drew.alloc (.cells #[.int .u8 (s.d.toNat : Int), .int .u8 88, .int .u8 48, .int .u8 66, .int .u8 (s.d.toNat : Int)] 5)) = .ok (strV [s.d, 88, 48, 66, s.d]) (wi.drew.alloc (.cells #[.int .u8 (s.d.toNat : Int), .int .u8 88, .int .u8 48, .int .u8 66, .int .u8 (s.d.toNat : Int)] 5)) := ⟨hHeld, HBS.out.str (P := Try.prog) 35 5 9 Try.underlying35 Try.underlying5 Try.underlying9⟩
            refine wpAnyH_imp (S' := fun w' => w'.cell? ⟨w.heap.size, 3, none⟩ = some (u8 s.d) ∧ (convert 35 9 (.slice (some ⟨wi.heap.size, 0, none⟩) 5 5)).run Try.prog w' = .ok (strV [s.d, 88, 48, 66, s.d]) w') (fun _ h => h.1) _ _ _ _ ?_
            refine wpAnyH_take (i := 13) (oi := ⟨some 44, _, _, _, _, _⟩) (v := ?v13) rfl (by kernel_rfl) (by kernel_rfl) (by kernel_rfl) (fun _ _ _ h => h) (Or.inl ⟨by kernel_rfl, ?hy13⟩) hHeld ?rest13
            case hy13 =>
              intro w hSw
              (try dsimp only at hSw)
              go_simp
              (try with_reducible rfl)
            (try simp only [Act.put])
            refine wpAnyH_ready (rs := [14]) (by kernel_rfl) (by simp) (AllReadyH.cons (o := ⟨none, _, _, _, _, _⟩) rfl (fun K hK => ?_) AllReadyH.nil)
            refine step_updateL rfl keyU8 (.tmp 31) (.tmp 32) (.tmp 44) 59 9 rfl Try.underlying59 (w.heap.size + 1) E2 rfl HA.out.map 11 rfl (strV [s.d, 88, 48, 66, s.d]) rfl (fun w5 hm5 hc5 hz5 => ?_)
            have HS5 := Lib.hid (HA.out.put hc5 hm5 HA.out.low.size)
            have hne : ¬ (fun j => j = w.heap.size + 1) wi.heap.size := fun e => by have := HS.out.map.lt; simp only at e; omega
            refine hK.out _ _ ⟨HS5.out.box.cells.2.2.2.1, (HBS.out.ch hc5 (fun _ b hb hs => by injection hb with hb; subst hb; exact hne hs)).str (P := Try.prog) 35 5 9 Try.underlying35 Try.underlying5 Try.underlying9⟩ (fun hHeld => ?_)
            clear hK K
            refine wpAnyH_done (by kernel_rfl) ?_ _
            go_wp2_with (fail)
            exact ⟨⟨1, _, by omega, rfl, HS5.out, HF.out.step (by omega)⟩, by simp [intOf]⟩
          · clear hlt
            have ix1 : ∀ W, (Instr.index 9 (.string ⟨#[48, 49, 50, 51, 52, 53, 54, 55, 56, 57, 65, 66, 67, 68, 69, 70]⟩) (.int .u8 0)).run Try.prog W = .ok (.int .u8 48) W := fun _ => by kernel_rfl
            have ba : bits BinOp.and IntKind.u8 13 15 = 13 := by kernel_rfl
            have ix2 : ∀ W, (Instr.index 9 (.string ⟨#[48, 49, 50, 51, 52, 53, 54, 55, 56, 57, 65, 66, 67, 68, 69, 70]⟩) (.int .u8 13)).run Try.prog W = .ok (.int .u8 68) W := fun _ => by kernel_rfl
            go_wp2_with (fail)
            rw [show (((⟨#[11, 13, 28]⟩ : ByteArray)[1]).toNat : Int) = 13 from rfl]
            refine wp_region_held_drew (S := fun w' => w'.cell? ⟨w.heap.size, 3, none⟩ = some (u8 s.d)) (by kernel_rfl) ?_ (fun hHeld => ?_)
            · exact x3
            refine wpAnyH_take (i := 0) (oi := ⟨some 31, _, _, _, _, _⟩) (v := ?v14) rfl (by kernel_rfl) (by kernel_rfl) (by kernel_rfl) (fun _ _ _ h => h) (Or.inl ⟨by kernel_rfl, ?hy14⟩) hHeld ?rest14
            case hy14 =>
              intro w hSw
              (try dsimp only at hSw)
              go_simp
              (try with_reducible rfl)
            (try simp only [Act.put])
            refine wpAnyH_take (i := 1) (oi := ⟨some 32, _, _, _, _, _⟩) (v := ?v15) rfl (by kernel_rfl) (by kernel_rfl) (by kernel_rfl) (fun _ _ _ h => h) (Or.inl ⟨by kernel_rfl, ?hy15⟩) hHeld ?rest15
            case hy15 =>
              intro w hSw
              (try dsimp only at hSw)
              go_simp
              (try with_reducible rfl)
            (try simp only [Act.put])
            refine wpAnyH_take (i := 2) (oi := ⟨some 33, _, _, _, _, _⟩) (v := ?v16) rfl (by kernel_rfl) (by kernel_rfl) (by kernel_rfl) (fun _ _ _ h => h) (Or.inl ⟨by kernel_rfl, ?hy16⟩) hHeld ?rest16
            case hy16 =>
              intro w hSw
              (try dsimp only at hSw)
              go_simp
              (try with_reducible rfl)
            (try simp only [Act.put])
            refine wpAnyH_take (i := 3) (oi := ⟨some 34, _, _, _, _, _⟩) (v := ?v17) rfl (by kernel_rfl) (by kernel_rfl) (by kernel_rfl) (fun _ _ _ h => h) (Or.inl ⟨by kernel_rfl, ?hy17⟩) hHeld ?rest17
            case hy17 =>
              intro w hSw
              (try dsimp only at hSw)
              go_simp
              (try with_reducible rfl)
            (try simp only [Act.put])
            refine wpAnyH_take (i := 4) (oi := ⟨some 35, _, _, _, _, _⟩) (v := ?v18) rfl (by kernel_rfl) (by kernel_rfl) (by kernel_rfl) (fun _ _ _ h => h) (Or.inl ⟨by kernel_rfl, ?hy18⟩) hHeld ?rest18
            case hy18 =>
              intro w hSw
              (try dsimp only at hSw)
              go_simp
              (try with_reducible rfl)
            (try simp only [Act.put])
            refine wpAnyH_take (i := 5) (oi := ⟨some 36, _, _, _, _, _⟩) (v := ?v19) rfl (by kernel_rfl) (by kernel_rfl) (by kernel_rfl) (fun _ _ _ h => h) (Or.inl ⟨by kernel_rfl, ?hy19⟩) hHeld ?rest19
            case hy19 =>
              intro w hSw
              (try dsimp only at hSw)
              go_simp
              (try with_reducible rfl)
            (try simp only [Act.put])
            refine wpAnyH_take (i := 6) (oi := ⟨some 37, _, _, _, _, _⟩) (v := ?v20) rfl (by kernel_rfl) (by kernel_rfl) (by kernel_rfl) (fun _ _ _ h => h) (Or.inl ⟨by kernel_rfl, ?hy20⟩) hHeld ?rest20
            case hy20 =>
              intro w hSw
              (try dsimp only at hSw)
              go_simp
              (try with_reducible rfl)
            (try simp only [Act.put])
            refine wpAnyH_take (i := 7) (oi := ⟨some 38, _, _, _, _, _⟩) (v := ?v21) rfl (by kernel_rfl) (by kernel_rfl) (by kernel_rfl) (fun _ _ _ h => h) (Or.inl ⟨by kernel_rfl, ?hy21⟩) hHeld ?rest21
            case hy21 =>
              intro w hSw
              (try dsimp only at hSw)
              go_simp
              (try with_reducible rfl)
            (try simp only [Act.put])
            refine wpAnyH_take (i := 8) (oi := ⟨some 39, _, _, _, _, _⟩) (v := ?v22) rfl (by kernel_rfl) (by kernel_rfl) (by kernel_rfl) (fun _ _ _ h => h) (Or.inl ⟨by kernel_rfl, ?hy22⟩) hHeld ?rest22
            case hy22 =>
              intro w hSw
              (try dsimp only at hSw)
              go_simp
              (try with_reducible rfl)
            (try simp only [Act.put])
            refine wpAnyH_take (i := 9) (oi := ⟨some 40, _, _, _, _, _⟩) (v := ?v23) rfl (by kernel_rfl) (by kernel_rfl) (by kernel_rfl) (fun _ _ _ h => h) (Or.inl ⟨by kernel_rfl, ?hy23⟩) hHeld ?rest23
            case hy23 =>
              intro w hSw
              (try dsimp only at hSw)
              go_simp
              (try with_reducible rfl)
            (try simp only [Act.put])
            refine wpAnyH_take (i := 10) (oi := ⟨some 41, _, _, _, _, _⟩) (v := ?v24) rfl (by kernel_rfl) (by kernel_rfl) (by kernel_rfl) (fun _ _ _ h => h) (Or.inl ⟨by kernel_rfl, ?hy24⟩) hHeld ?rest24
            case hy24 =>
              intro w hSw
              (try dsimp only at hSw)
              go_simp
              (try with_reducible rfl)
            (try simp only [Act.put])
            refine wpAnyH_take (i := 11) (oi := ⟨some 42, _, _, _, _, _⟩) (v := ?v25) rfl (by kernel_rfl) (by kernel_rfl) (by kernel_rfl) (fun _ _ _ h => h) (Or.inl ⟨by kernel_rfl, ?hy25⟩) hHeld ?rest25
            case hy25 =>
              intro w hSw
              (try dsimp only at hSw)
              go_simp
              (try with_reducible rfl)
            (try simp only [Act.put])
            refine wpAnyH_ready (rs := [12]) (by kernel_rfl) (by simp) (AllReadyH.cons (o := ⟨some 43, _, _, _, _, _⟩) rfl (fun K hK => ?_) AllReadyH.nil)
            go_simp
            have HA := Lib.hid (HS.out.below ((Below.refl wi.heap.size wi).drew.alloc (Nat.le_refl _) (.cells #[.int .u8 (s.d.toNat : Int), .int .u8 88, .int .u8 48, .int .u8 68, .int .u8 (s.d.toNat : Int)] 5)))
            have HBS := Lib.hid (Bs.lit wi.drew [s.d, 88, 48, 68, s.d] 5 #[.int .u8 (s.d.toNat : Int), .int .u8 88, .int .u8 48, .int .u8 68, .int .u8 (s.d.toNat : Int)] wi.heap.size rfl rfl rfl (by simp [maxLen]))
            refine hK.out _ _ HA.out.box.cells.2.2.2.1 (fun hHeld => ?_)
            clear hK K
            have hHeld : (wi.drew.alloc (.cells #[.int .u8 (s.d.toNat : Int), .int .u8 88, .int .u8 48, .int .u8 68, .int .u8 (s.d.toNat : Int)] 5)).cell? ⟨w.heap.size, 3, none⟩ = some (u8 s.d) ∧ (convert 35 9 (.slice (some ⟨wi.heap.size, 0, none⟩) 5 5)).run Try.prog (wi.drew.alloc (.cells #[.int .u8 (s.d.toNat : Int), .int .u8 88, .int .u8 48, .int .u8 68, .int .u8 (s.d.toNat : Int)] 5)) = .ok (strV [s.d, 88, 48, 68, s.d]) (wi.drew.alloc (.cells #[.int .u8 (s.d.toNat : Int), .int .u8 88, .int .u8 48, .int .u8 68, .int .u8 (s.d.toNat : Int)] 5)) := ⟨hHeld, HBS.out.str (P := Try.prog) 35 5 9 Try.underlying35 Try.underlying5 Try.underlying9⟩
            refine wpAnyH_imp (S' := fun w' => w'.cell? ⟨w.heap.size, 3, none⟩ = some (u8 s.d) ∧ (convert 35 9 (.slice (some ⟨wi.heap.size, 0, none⟩) 5 5)).run Try.prog w' = .ok (strV [s.d, 88, 48, 68, s.d]) w') (fun _ h => h.1) _ _ _ _ ?_
            refine wpAnyH_take (i := 13) (oi := ⟨some 44, _, _, _, _, _⟩) (v := ?v26) rfl (by kernel_rfl) (by kernel_rfl) (by kernel_rfl) (fun _ _ _ h => h) (Or.inl ⟨by kernel_rfl, ?hy26⟩) hHeld ?rest26
            case hy26 =>
              intro w hSw
              (try dsimp only at hSw)
              go_simp
              (try with_reducible rfl)
            (try simp only [Act.put])
            refine wpAnyH_ready (rs := [14]) (by kernel_rfl) (by simp) (AllReadyH.cons (o := ⟨none, _, _, _, _, _⟩) rfl (fun K hK => ?_) AllReadyH.nil)
            refine step_updateL rfl keyU8 (.tmp 31) (.tmp 32) (.tmp 44) 59 9 rfl Try.underlying59 (w.heap.size + 1) E2 rfl HA.out.map 13 rfl (strV [s.d, 88, 48, 68, s.d]) rfl (fun w5 hm5 hc5 hz5 => ?_)
            have HS5 := Lib.hid (HA.out.put hc5 hm5 HA.out.low.size)
            have hne : ¬ (fun j => j = w.heap.size + 1) wi.heap.size := fun e => by have := HS.out.map.lt; simp only at e; omega
            refine hK.out _ _ ⟨HS5.out.box.cells.2.2.2.1, (HBS.out.ch hc5 (fun _ b hb hs => by injection hb with hb; subst hb; exact hne hs)).str (P := Try.prog) 35 5 9 Try.underlying35 Try.underlying5 Try.underlying9⟩ (fun hHeld => ?_)
            clear hK K
            refine wpAnyH_done (by kernel_rfl) ?_ _
            go_wp2_with (fail)
            exact ⟨⟨2, _, by omega, rfl, HS5.out, HF.out.step (by omega)⟩, by simp [intOf]⟩
          · clear hlt
            have ix1 : ∀ W, (Instr.index 9 (.string ⟨#[48, 49, 50, 51, 52, 53, 54, 55, 56, 57, 65, 66, 67, 68, 69, 70]⟩) (.int .u8 1)).run Try.prog W = .ok (.int .u8 49) W := fun _ => by kernel_rfl
            have ba : bits BinOp.and IntKind.u8 28 15 = 12 := by kernel_rfl
            have ix2 : ∀ W, (Instr.index 9 (.string ⟨#[48, 49, 50, 51, 52, 53, 54, 55, 56, 57, 65, 66, 67, 68, 69, 70]⟩) (.int .u8 12)).run Try.prog W = .ok (.int .u8 67) W := fun _ => by kernel_rfl
            go_wp2_with (fail)
            rw [show (((⟨#[11, 13, 28]⟩ : ByteArray)[2]).toNat : Int) = 28 from rfl]
            refine wp_region_held_drew (S := fun w' => w'.cell? ⟨w.heap.size, 3, none⟩ = some (u8 s.d)) (by kernel_rfl) ?_ (fun hHeld => ?_)
            · exact x3
            refine wpAnyH_take (i := 0) (oi := ⟨some 31, _, _, _, _, _⟩) (v := ?v27) rfl (by kernel_rfl) (by kernel_rfl) (by kernel_rfl) (fun _ _ _ h => h) (Or.inl ⟨by kernel_rfl, ?hy27⟩) hHeld ?rest27
            case hy27 =>
              intro w hSw
              (try dsimp only at hSw)
              go_simp
              (try with_reducible rfl)
            (try simp only [Act.put])
            refine wpAnyH_take (i := 1) (oi := ⟨some 32, _, _, _, _, _⟩) (v := ?v28) rfl (by kernel_rfl) (by kernel_rfl) (by kernel_rfl) (fun _ _ _ h => h) (Or.inl ⟨by kernel_rfl, ?hy28⟩) hHeld ?rest28
            case hy28 =>
              intro w hSw
              (try dsimp only at hSw)
              go_simp
              (try with_reducible rfl)
            (try simp only [Act.put])
            refine wpAnyH_take (i := 2) (oi := ⟨some 33, _, _, _, _, _⟩) (v := ?v29) rfl (by kernel_rfl) (by kernel_rfl) (by kernel_rfl) (fun _ _ _ h => h) (Or.inl ⟨by kernel_rfl, ?hy29⟩) hHeld ?rest29
            case hy29 =>
              intro w hSw
              (try dsimp only at hSw)
              go_simp
              (try with_reducible rfl)
            (try simp only [Act.put])
            refine wpAnyH_take (i := 3) (oi := ⟨some 34, _, _, _, _, _⟩) (v := ?v30) rfl (by kernel_rfl) (by kernel_rfl) (by kernel_rfl) (fun _ _ _ h => h) (Or.inl ⟨by kernel_rfl, ?hy30⟩) hHeld ?rest30
            case hy30 =>
              intro w hSw
              (try dsimp only at hSw)
              go_simp
              (try with_reducible rfl)
            (try simp only [Act.put])
            refine wpAnyH_take (i := 4) (oi := ⟨some 35, _, _, _, _, _⟩) (v := ?v31) rfl (by kernel_rfl) (by kernel_rfl) (by kernel_rfl) (fun _ _ _ h => h) (Or.inl ⟨by kernel_rfl, ?hy31⟩) hHeld ?rest31
            case hy31 =>
              intro w hSw
              (try dsimp only at hSw)
              go_simp
              (try with_reducible rfl)
            (try simp only [Act.put])
            refine wpAnyH_take (i := 5) (oi := ⟨some 36, _, _, _, _, _⟩) (v := ?v32) rfl (by kernel_rfl) (by kernel_rfl) (by kernel_rfl) (fun _ _ _ h => h) (Or.inl ⟨by kernel_rfl, ?hy32⟩) hHeld ?rest32
            case hy32 =>
              intro w hSw
              (try dsimp only at hSw)
              go_simp
              (try with_reducible rfl)
            (try simp only [Act.put])
            refine wpAnyH_take (i := 6) (oi := ⟨some 37, _, _, _, _, _⟩) (v := ?v33) rfl (by kernel_rfl) (by kernel_rfl) (by kernel_rfl) (fun _ _ _ h => h) (Or.inl ⟨by kernel_rfl, ?hy33⟩) hHeld ?rest33
            case hy33 =>
              intro w hSw
              (try dsimp only at hSw)
              go_simp
              (try with_reducible rfl)
            (try simp only [Act.put])
            refine wpAnyH_take (i := 7) (oi := ⟨some 38, _, _, _, _, _⟩) (v := ?v34) rfl (by kernel_rfl) (by kernel_rfl) (by kernel_rfl) (fun _ _ _ h => h) (Or.inl ⟨by kernel_rfl, ?hy34⟩) hHeld ?rest34
            case hy34 =>
              intro w hSw
              (try dsimp only at hSw)
              go_simp
              (try with_reducible rfl)
            (try simp only [Act.put])
            refine wpAnyH_take (i := 8) (oi := ⟨some 39, _, _, _, _, _⟩) (v := ?v35) rfl (by kernel_rfl) (by kernel_rfl) (by kernel_rfl) (fun _ _ _ h => h) (Or.inl ⟨by kernel_rfl, ?hy35⟩) hHeld ?rest35
            case hy35 =>
              intro w hSw
              (try dsimp only at hSw)
              go_simp
              (try with_reducible rfl)
            (try simp only [Act.put])
            refine wpAnyH_take (i := 9) (oi := ⟨some 40, _, _, _, _, _⟩) (v := ?v36) rfl (by kernel_rfl) (by kernel_rfl) (by kernel_rfl) (fun _ _ _ h => h) (Or.inl ⟨by kernel_rfl, ?hy36⟩) hHeld ?rest36
            case hy36 =>
              intro w hSw
              (try dsimp only at hSw)
              go_simp
              (try with_reducible rfl)
            (try simp only [Act.put])
            refine wpAnyH_take (i := 10) (oi := ⟨some 41, _, _, _, _, _⟩) (v := ?v37) rfl (by kernel_rfl) (by kernel_rfl) (by kernel_rfl) (fun _ _ _ h => h) (Or.inl ⟨by kernel_rfl, ?hy37⟩) hHeld ?rest37
            case hy37 =>
              intro w hSw
              (try dsimp only at hSw)
              go_simp
              (try with_reducible rfl)
            (try simp only [Act.put])
            refine wpAnyH_take (i := 11) (oi := ⟨some 42, _, _, _, _, _⟩) (v := ?v38) rfl (by kernel_rfl) (by kernel_rfl) (by kernel_rfl) (fun _ _ _ h => h) (Or.inl ⟨by kernel_rfl, ?hy38⟩) hHeld ?rest38
            case hy38 =>
              intro w hSw
              (try dsimp only at hSw)
              go_simp
              (try with_reducible rfl)
            (try simp only [Act.put])
            refine wpAnyH_ready (rs := [12]) (by kernel_rfl) (by simp) (AllReadyH.cons (o := ⟨some 43, _, _, _, _, _⟩) rfl (fun K hK => ?_) AllReadyH.nil)
            go_simp
            have HA := Lib.hid (HS.out.below ((Below.refl wi.heap.size wi).drew.alloc (Nat.le_refl _) (.cells #[.int .u8 (s.d.toNat : Int), .int .u8 88, .int .u8 49, .int .u8 67, .int .u8 (s.d.toNat : Int)] 5)))
            have HBS := Lib.hid (Bs.lit wi.drew [s.d, 88, 49, 67, s.d] 5 #[.int .u8 (s.d.toNat : Int), .int .u8 88, .int .u8 49, .int .u8 67, .int .u8 (s.d.toNat : Int)] wi.heap.size rfl rfl rfl (by simp [maxLen]))
            refine hK.out _ _ HA.out.box.cells.2.2.2.1 (fun hHeld => ?_)
            clear hK K
            have hHeld : (wi.drew.alloc (.cells #[.int .u8 (s.d.toNat : Int), .int .u8 88, .int .u8 49, .int .u8 67, .int .u8 (s.d.toNat : Int)] 5)).cell? ⟨w.heap.size, 3, none⟩ = some (u8 s.d) ∧ (convert 35 9 (.slice (some ⟨wi.heap.size, 0, none⟩) 5 5)).run Try.prog (wi.drew.alloc (.cells #[.int .u8 (s.d.toNat : Int), .int .u8 88, .int .u8 49, .int .u8 67, .int .u8 (s.d.toNat : Int)] 5)) = .ok (strV [s.d, 88, 49, 67, s.d]) (wi.drew.alloc (.cells #[.int .u8 (s.d.toNat : Int), .int .u8 88, .int .u8 49, .int .u8 67, .int .u8 (s.d.toNat : Int)] 5)) := ⟨hHeld, HBS.out.str (P := Try.prog) 35 5 9 Try.underlying35 Try.underlying5 Try.underlying9⟩
            refine wpAnyH_imp (S' := fun w' => w'.cell? ⟨w.heap.size, 3, none⟩ = some (u8 s.d) ∧ (convert 35 9 (.slice (some ⟨wi.heap.size, 0, none⟩) 5 5)).run Try.prog w' = .ok (strV [s.d, 88, 49, 67, s.d]) w') (fun _ h => h.1) _ _ _ _ ?_
            refine wpAnyH_take (i := 13) (oi := ⟨some 44, _, _, _, _, _⟩) (v := ?v39) rfl (by kernel_rfl) (by kernel_rfl) (by kernel_rfl) (fun _ _ _ h => h) (Or.inl ⟨by kernel_rfl, ?hy39⟩) hHeld ?rest39
            case hy39 =>
              intro w hSw
              (try dsimp only at hSw)
              go_simp
              (try with_reducible rfl)
            (try simp only [Act.put])
            refine wpAnyH_ready (rs := [14]) (by kernel_rfl) (by simp) (AllReadyH.cons (o := ⟨none, _, _, _, _, _⟩) rfl (fun K hK => ?_) AllReadyH.nil)
            refine step_updateL rfl keyU8 (.tmp 31) (.tmp 32) (.tmp 44) 59 9 rfl Try.underlying59 (w.heap.size + 1) E2 rfl HA.out.map 28 rfl (strV [s.d, 88, 49, 67, s.d]) rfl (fun w5 hm5 hc5 hz5 => ?_)
            have HS5 := Lib.hid (HA.out.put hc5 hm5 HA.out.low.size)
            have hne : ¬ (fun j => j = w.heap.size + 1) wi.heap.size := fun e => by have := HS.out.map.lt; simp only at e; omega
            refine hK.out _ _ ⟨HS5.out.box.cells.2.2.2.1, (HBS.out.ch hc5 (fun _ b hb hs => by injection hb with hb; subst hb; exact hne hs)).str (P := Try.prog) 35 5 9 Try.underlying35 Try.underlying5 Try.underlying9⟩ (fun hHeld => ?_)
            clear hK K
            refine wpAnyH_done (by kernel_rfl) ?_ _
            go_wp2_with (fail)
            exact ⟨⟨3, _, by omega, rfl, HS5.out, HF.out.step (by omega)⟩, by simp [intOf]⟩
        · obtain rfl : j = 3 := by omega
          clear hlt
          go_wp2_with (fail)
          go_ret
          exact ⟨w.heap.size + 1, E2, rfl, HS.out.map, HF.out, by omega, HS.out.low⟩
    · have HNL : Hid (lb.map toV ≠ []) := Lib.hid (by simpa using h0)
      clear h0
      have tok2 : Hid True := Lib.hid trivial
      have tok3 : Hid True := Lib.hid trivial
      go_wp2_with (first
        | (at_next; have _t := tok2; refine wpList_nextL1 rfl (.tmp 11) rfl M1 I _ _ rfl HR.out HNL.out ?_; intro lp key v lq w3 hl hr3 hc3 hz3 hen; obtain ⟨bp, ⟨kb, x⟩, bq, hlb, hbp, hkx, hbq⟩ := map_split toV lp (key, v) lq lb hl; obtain ⟨rfl, rfl⟩ : kb = key ∧ u8 x = v := (by simpa using hkx); subst hbp hbq; have HL := Lib.hid hlb; have HR3 : Hid (Rng u8 w3 M1 I ((sgB s).map toV) ((bp ++ bq).map toV)) := Lib.hid (by rw [List.map_append]; exact hr3); have HS3 := Lib.hid (HS.out.ch hc3 (fun e => HR.out.ne HS.out.box e.symm) (fun e => HR.out.neM HS.out.map e.symm) (fun k hk => by have := HI.out.1; omega) HS.out.low.size); have HA3 := Lib.hid (HS3.out.below ((Below.refl w3.heap.size w3).alloc (Nat.le_refl _) (.cells #[u8 s.d, u8 kb, u8 s.d] 5))); have hcv := (Bs.lit w3 [s.d, kb, s.d] 5 #[u8 s.d, u8 kb, u8 s.d] w3.heap.size rfl rfl rfl (by simp [maxLen])).str (P := Try.prog) 35 5 9 Try.underlying35 Try.underlying5 Try.underlying9; simp only [List.length_cons, List.length_nil] at hcv; obtain ⟨x0, x1, x2, x3, x4⟩ := HS3.out.box.cells; clear tok2 hl hr3 hc3 hz3 _t hlb hkx)
        | (at_mapUpdate; have _t := tok3; refine wpList_updateL rfl keyU8 (.tmp 17) (.tmp 18) (.tmp 25) 59 9 (.inl rfl) Try.underlying59 (w.heap.size + 1) E rfl HA3.out.map x rfl (strV (escStr s kb)) rfl ?_; intro w5 hm5 hc5 hz5; have HS5 := Lib.hid (HA3.out.put hc5 hm5 HA3.out.low.size); have HR5 : Hid (Rng u8 w5 M1 I ((sgB s).map toV) ((bp ++ bq).map toV)) := Lib.hid ((HR3.out.below ((Below.refl w3.heap.size w3).alloc (Nat.le_refl _) (.cells #[u8 s.d, u8 kb, u8 s.d] 5))).ch hc5 (fun e => HNE.out e) (fun e => HI.out.2 e)); clear tok3 hm5 hc5 hz5 _t))
      go_frame
      go_roundw
      case rel =>
        refine ⟨bp ++ bq, _, HR5.out, HS5.out, ?_⟩
        have := HV.out
        rw [HL.out] at this
        exact this.step HG.out
      case measure =>
        rw [HR5.out.left_eq, HLE.out, HL.out]
        simp
end Go.Proofs.Ytecmadodpkfnnaa
