/- Laid together: DkLen, Rk12, Rk13, CurKeepsM, CurKeepsG, CurOrderW, CurKeepsI, CurActsG. -/
import Derived.Test.YtolomfdommnklaaDk16
import Derived.Test.YtolomfdommnklaaRk9
import Derived.Test.YtolomfdommnklaaCurC1
import Derived.Test.YtolomfdommnklaaGuardC
import Derived.Sort.Walk0

/- Layer 2: a call makes one file more at most. -/
namespace Go.Proofs.Ytolomfdommnklaa
open Go.RowKit Go.MapKept

theorem fput_lenL : ∀ (fs : Fs) (n : ByteArray) (v : Fl), (fput fs n v).length ≤ fs.length + 1
  | [], n, v => by simp [fput]
  | (a, u) :: r, n, v => by
    unfold fput
    split
    · simp
    · have := fput_lenL r n v
      simp only [List.length_cons]; omega
theorem opChange_lenL {d d1 d2 : Dk} {fs done : Fs} {x : Int} (h : done.length ≤ fs.length + 1) : (opChange d fs x d1 d2 done).2.2.length ≤ fs.length + 1 := by
  unfold opChange
  split
  · split
    · exact h
    · simp
  · exact h
theorem callD_lenL (d : Dk) (fs : Fs) (kd n k : Int) (a b : ByteArray) (l : List UInt8) : (callD d fs kd n k a b l).2.2.length ≤ fs.length + 1 := by
  unfold callD
  split
  · unfold appO
    split
    · simp
    · split
      · exact fput_lenL _ _ _
      · exact fput_lenL _ _ _
  split
  · show (opTrunc d fs a n).2.2.length ≤ _
    unfold opTrunc
    cases fget fs a with
    | none => simp
    | some f => simp only; split
                · simp
                · exact opChange_lenL (fput_lenL _ _ _)
  split
  · show (opSync d fs a).2.2.length ≤ _
    unfold opSync
    cases fget fs a with
    | none => simp
    | some f => exact opChange_lenL (fput_lenL _ _ _)
  split
  · show (opRename d fs a b).2.2.length ≤ _
    unfold opRename
    cases fget fs a with
    | none => simp
    | some f =>
      simp only
      split
      · simp
      · split
        · exact opChange_lenL (by simp)
        · refine opChange_lenL ?_
          have h1 := (fdel_sub fs b).length_le
          have h2 := (fdel_sub (fdel fs b) a).length_le
          rw [List.length_append]; simp only [List.length_singleton]; omega
  split
  · show (opRemove d fs a).2.2.length ≤ _
    unfold opRemove
    cases fget fs a with
    | none => simp
    | some f => exact opChange_lenL (Nat.le_trans (fdel_sub fs a).length_le (by simp))
  split
  · show (opSetRoom d fs n).2.2.length ≤ _
    unfold opSetRoom; split <;> simp
  split
  · show (opFail d fs n).2.2.length ≤ _
    unfold opFail; split <;> simp
  split
  · show (opArm d fs n k).2.2.length ≤ _
    unfold opArm; split <;> simp
  split
  · show (powFs k fs).length ≤ _
    unfold powFs; simp
  · simp
end Go.Proofs.Ytolomfdommnklaa

/- The document's Load and Save, over its disk. -/
namespace Go.Proofs.Ytolomfdommnklaa
open Go.RowKit Go.MapKept

/-- one state of the document's disk out of another -/
structure Step (w : World) (B G : Nat) (E : Nat → Prop) (v : Value) (w' : World) (r' : Rk) (L' : Fs) (v' : Value) (P' : List Value) : Prop where
  at_ : RkAt w' B G E r' L' v' P'
  ch : Ch (RF G v) w w'
  own : ∀ k, v'.ownBlock = some k → v.ownBlock = some k ∨ w.heap.size ≤ k
section
variable {w w1 w2 : World} {B G : Nat} {E : Nat → Prop} {r r1 r2 : Rk} {L L1 L2 : Fs} {v v1 v2 : Value} {P P1 P2 : List Value} {d : Dk} {fs : Fs}
theorem Step.trans (h : Step w B G E v w1 r1 L1 v1 P1) (k : Step w1 B G E v1 w2 r2 L2 v2 P2) : Step w B G E v w2 r2 L2 v2 P2 :=
  ⟨k.at_, h.ch.trans k.ch (fun j hj hs => hs.elim .inl (fun hs => (h.own j hs).elim .inr (fun h' => absurd hj (Nat.not_lt.2 h')))), fun j hj => (k.own j hj).elim (fun h' => h.own j h') (fun h' => .inr (Nat.le_trans h.ch.size h'))⟩
theorem Step.below (h : Step w B G E v w1 r1 L1 v1 P1) (hb : Below w1.heap.size w1 w2) : Step w B G E v w2 r1 L1 v1 P1 :=
  ⟨h.at_.below hb, h.ch.trans (Ch.of_below (S := fun _ => False) hb) (fun _ _ h => h.elim), h.own⟩
theorem Step.refl (h : RkAt w B G E r L v P) : Step w B G E v w r L v P := ⟨h, Ch.refl _ _, fun _ hk => .inl hk⟩
theorem RM.step {o : Out} {x : Ending} {w' : World} (h : RM w B G E v o x w') : ∃ e g r' L' v' P', x = ret2 e g ∧ Agree o.1 r' e g ∧ Sim o.2.1 o.2.2 r' L' ∧ Step w B G E v w' r' L' v' P' := by
  obtain ⟨e, g, r', L', v', P', h0, h1, h2, h3, h4, h5⟩ := h
  exact ⟨e, g, r', L', v', P', h0, h1, h2, h3, h4, h5⟩
theorem RA.step {o : OutN} {x : Ending} {w' : World} (h : RA w B G E v o x w') : ∃ n e g r' L' v' P', x = ret3 n e g ∧ Agree o.1.2 r' e g ∧ (g = false → n = o.1.1) ∧ Sim o.2.1 o.2.2 r' L' ∧ Step w B G E v w' r' L' v' P' := by
  obtain ⟨n, e, g, r', L', v', P', h0, h1, h1', h2, h3, h4, h5⟩ := h
  exact ⟨n, e, g, r', L', v', P', h0, h1, h1', h2, h3, h4, h5⟩
theorem RM.mk {o : Out} {e : Int} {g : Bool} {w' : World} (ha : Agree o.1 r1 e g) (hs : Sim o.2.1 o.2.2 r1 L1) (h : Step w B G E v w' r1 L1 v1 P1) : RM w B G E v o (ret2 e g) w' :=
  ⟨e, g, r1, L1, v1, P1, rfl, ha, hs, h.at_, h.ch, h.own⟩
theorem Agree.gone {o : Int ⊕ Int} {e : Int} (h : Agree o r e true) : ∃ op, o = .inr op ∧ op = r.count := by
  rcases h with ⟨_, _, _, h⟩ | ⟨op, h1, h2, _⟩
  · cases h
  · exact ⟨op, h1, h2⟩
theorem Agree.kept {o : Int ⊕ Int} {e : Int} (h : Agree o r e false) : o = .inl e := by
  rcases h with ⟨x, h1, h2, _⟩ | ⟨_, _, _, h⟩
  · rw [h1, h2]
  · cases h
theorem trunc_len (d : Dk) (fs : Fs) (a : ByteArray) (n : Int) : (opTrunc d fs a n).2.2.length ≤ fs.length + 1 := callD_lenL d fs 1 n 0 a a []
theorem app_len (d : Dk) (fs : Fs) (a : ByteArray) (l : List UInt8) : (appO d fs a l).2.2.length ≤ fs.length + 1 := callD_lenL d fs 0 0 0 a a l
theorem sync_len (d : Dk) (fs : Fs) (a : ByteArray) : (opSync d fs a).2.2.length ≤ fs.length + 1 := callD_lenL d fs 2 0 0 a a []
theorem fget_fput (fs : Fs) (n : ByteArray) (f : Fl) : fget (fput fs n f) n = some f := by
  rcases fs_split fs n with ⟨h, _, _⟩ | ⟨A, f', Q, rfl, hno, _, _⟩
  · rw [fput_new _ h]
    exact fgetL_mid (Q := []) (fget_not h)
  · rw [fput_mid hno]; exact fgetL_mid hno
theorem app_there {d : Dk} {fs : Fs} {t : ByteArray} (ht : nameD t = true) (l : List UInt8) : fget (appO d fs t l).2.2 t ≠ none := by
  unfold appO layF
  rw [if_neg (by rw [ht]; decide)]
  split <;> (show fget (fput _ _ _) _ ≠ none; rw [fget_fput]; simp)
theorem sync_there {d : Dk} {fs : Fs} {t : ByteArray} (h : fget fs t ≠ none) : fget (opSync d fs t).2.2 t ≠ none := by
  unfold opSync
  cases hg : fget fs t with
  | none => exact absurd hg h
  | some f =>
    show fget (opChange _ _ _ _ _ _).2.2 t ≠ none
    unfold opChange
    split
    · split
      · show fget (fput _ _ _) _ ≠ none; rw [fget_fput]; simp
      · exact h
    · show fget (fput _ _ _) _ ≠ none; rw [fget_fput]; simp
theorem rename_zero {d : Dk} {fs : Fs} {t nm : ByteArray} (h : fget fs t ≠ none) (hn : nameD nm = true) {x : Int} (hx : (opRename d fs t nm).1 = .inl x) : x = 0 := by
  unfold opRename at hx
  cases hg : fget fs t with
  | none => exact absurd hg h
  | some f =>
    rw [hg] at hx
    simp only at hx
    rw [if_neg (by rw [hn]; decide)] at hx
    unfold opChange at hx
    split at hx <;> split at hx <;> first | (injection hx with hx; exact hx.symm) | cases hx
set_option maxHeartbeats 4000000 in
set_option maxRecDepth 100000 in
theorem rkBytes (h : RkAt w B G E r L v P) (nm : ByteArray) (hL : L.length ≤ 100000) :
    Calls Try.prog 45 #[pR G, .string nm] w fun e w' => w = w' ∧ ((fget L nm = none ∧ e = .returned (.tuple #[.slice none 0 0, .bool false])) ∨ ∃ f A m c, fget L nm = some f ∧ e = .returned (.tuple #[.slice A m c, .bool true]) ∧ Bs w A m c f.bs) := by
  have HL := Lib.hid hL
  have H := Lib.hid h
  rcases fs_split L nm with ⟨hg, _, hi⟩ | ⟨A0, f, Q0, rfl, hno, hg, hi⟩
  · have HI := Lib.hid hi
    have HG := Lib.hid hg
    clear h hL hi hg
    go_enter Try.func45, Try.ntmps45
    go_wp2_with (fail)
    refine (rkFind H.out nm (by have := HL.out; omega)).mono ?_
    rw [HI.out]
    rintro e w1 ⟨rfl, rfl⟩
    go_wp2_with (fail)
    refine bodyPost_ret (v := .tuple #[.slice none 0 0, .bool false]) (results_two Try.results45 _ _ _) rfl ?_
    exact ⟨rfl, .inl ⟨HG.out, rfl⟩⟩
  · obtain ⟨g, n1, cv, Pa, A7, m7, c7, Pb, rfl, hn1, hnc, hcm, rfl, hpa, hB7, hdv, c0, x1, x2, fz⟩ := h.mid
    have hin : (A0.length : Int) < (n1 : Int) := by rw [hn1]; simp only [List.length_append, List.length_cons]; omega
    have hnc' : (n1 : Int) ≤ (cv : Int) := by omega
    obtain ⟨i, hii⟩ : ∃ i, i = A0.length := ⟨_, rfl⟩
    rw [← hii] at hi x1 hin
    have hge : ¬ ((i : Int) < 0) := by omega
    have HI := Lib.hid hi
    have HG := Lib.hid hg
    have HB7 := Lib.hid hB7
    clear h hL hi hg hdv hB7 hpa hn1 fz x2 hii hno
    go_enter Try.func45, Try.ntmps45
    go_wp2_with (fail)
    refine (rkFind H.out nm (by have := HL.out; omega)).mono ?_
    rw [HI.out]
    rintro e w1 ⟨rfl, rfl⟩
    go_wp2_with (fail)
    refine bodyPost_ret (v := .tuple #[.slice A7 m7 c7, .bool true]) (results_two Try.results45 _ _ _) rfl ?_
    exact ⟨rfl, .inr ⟨f, A7, m7, c7, HG.out, rfl, HB7.out⟩⟩
set_option maxHeartbeats 4000000 in
set_option maxRecDepth 100000 in
theorem rkLoad (h : RkAt w B G E r L v P) (nm : ByteArray) (hL : L.length ≤ 100000) :
    Calls Try.prog 30 #[pR G, .string nm] w fun e w' => e = .returned (.tuple #[.int .i64 (loadD L nm).1, .int .i64 (loadD L nm).2]) ∧ Below w.heap.size w w' := by
  have HL := Lib.hid hL
  have H := Lib.hid h
  clear h hL
  go_enter Try.func30, Try.ntmps30
  go_wp2_with (fail)
  refine (rkBytes H.out nm HL.out).mono ?_
  rintro e w1 ⟨rfl, ⟨hg, rfl⟩ | ⟨f, A, m, c, hg, rfl, hB⟩⟩
  · have HLD : Hid (loadD L nm = (0, 0)) := Lib.hid (by unfold loadD; rw [hg])
    clear hg
    go_wp2_with (fail)
    refine bodyPost_ret (v := .tuple #[.int .i64 0, .int .i64 0]) (results_two Try.results30 _ _ _) rfl ?_
    exact ⟨by rw [HLD.out], Below.refl _ _⟩
  · have HLD : Hid (loadD L nm = numD f.bs) := Lib.hid (by unfold loadD; rw [hg])
    have HB := Lib.hid hB
    clear hg hB
    go_wp2_with (fail)
    refine (refNumber15 A m c f.bs w HB.out).mono ?_
    rintro e w2 ⟨rfl, hb2⟩
    have HB2 := Lib.hid hb2
    clear hb2
    go_wp2_with (fail)
    refine bodyPost_ret (v := .tuple #[.int .i64 (numD f.bs).1, .int .i64 (numD f.bs).2]) (results_two Try.results30 _ _ _) rfl ?_
    exact ⟨by rw [HLD.out], HB2.out⟩
end
end Go.Proofs.Ytolomfdommnklaa

/- The document's Save, over its disk. -/
namespace Go.Proofs.Ytolomfdommnklaa
open Go.RowKit Go.MapKept

/-- bytes of the call's own -/
def RetSF (l : List UInt8) (w : World) (e : Ending) (w' : World) : Prop := ∃ A c, e = .returned (.slice A l.length c) ∧ Bs w' A l.length c l ∧ Below w.heap.size w w' ∧ ∀ a, A = some a → w.heap.size ≤ a.block
set_option maxRecDepth 100000 in
set_option maxHeartbeats 1000000 in
theorem refSealF (A : Option Addr) (n c : Nat) (l : List UInt8) (w : World) (hB : Bs w A n c l) (hn : n ≤ 140737488351232) :
    Calls Try.prog 38 #[.slice A n c] w (RetSF (l ++ be4 (Crc.sum 0 l)) w) := by
  have HB := Lib.hid hB
  have HL : l.length ≤ n := by have := hB.len; omega
  have hs := Crc.sum_lt (s := 0) l (by omega)
  have tok1 : True := trivial
  have tok2 : True := trivial
  clear hB
  go_enter Try.func38, Try.ntmps38
  go_wp2_with (first
    | (at_builtin; have _t := tok1; go_loud ((refine wpList_app rfl (.tmp 3) (.tmp 4) 22 rfl w.heap.size 5 Try.underlying22 byteInfo _ [] rfl (Own.lit 5 w [] (Nat.le_refl _) (by simp [maxLen])) _ n c l rfl (HB.out.alloc _) (by simp; omega) (by simp) ?_; intro v1 w1 hown1 hb1 hg1; have b1 : Below w.heap.size w w1 := ((Below.refl _ _).alloc (Nat.le_refl _) _).trans hb1; clear tok1 hb1 hg1 _t))))
  refine (refSum A n c l w1 (HB.out.below b1)).mono ?_
  rintro e w2 ⟨rfl, rfl⟩
  go_wp2_with (fail)
  refine (refFour _ w1 hs).mono ?_
  rintro e w2 ⟨p, q, r, s, hbe, rfl, rfl⟩
  have HBE := Lib.hid hbe
  have HB1 := Lib.hid b1
  have HO := Lib.hid (hown1.alloc (.cells #[.int .u8 (p.toNat : Int), .int .u8 (q.toNat : Int), .int .u8 (r.toNat : Int), .int .u8 (s.toNat : Int)] 5))
  have hz := b1.size
  clear hbe b1 hown1
  go_wp2_with (first
    | (at_builtin; have _t := tok2; go_loud ((refine wpList_app rfl (.tmp 5) (.tmp 8) 22 rfl w.heap.size 5 Try.underlying22 byteInfo _ ([] ++ l) rfl HO.out _ 4 4 [p, q, r, s] rfl (Bs.lit w1 [p, q, r, s] _ _ _ rfl rfl rfl (by simp [maxLen])) (by simp; omega) (by simp; omega) ?_; intro v2 w2 hown2 hb2 hg2; have b2 := (HB1.out.alloc hz (.cells #[.int .u8 (p.toNat : Int), .int .u8 (q.toNat : Int), .int .u8 (r.toNat : Int), .int .u8 (s.toNat : Int)] 5)).trans hb2; clear tok2 hb2 hg2 _t))))
  go_ret
  have e : [] ++ l ++ [p, q, r, s] = l ++ be4 (Crc.sum 0 l) := by rw [HBE.out]; rfl
  rw [e] at hown2
  obtain ⟨A4, c4, rfl, hB4, hf4⟩ := hown2.bs
  exact ⟨A4, c4, rfl, hB4, b2, hf4⟩
set_option maxHeartbeats 4000000 in
set_option maxRecDepth 100000 in
theorem refBytes15F (N : Nat) (hN : N ≤ 1099511627776) (w : World) : Calls Try.prog 14 #[.int .i64 (N : Int)] w (RetSF (bytesD N) w) := by
  have HN := Lib.hid hN
  clear hN
  go_enter Try.func14, Try.ntmps14
  go_wp2_with (fail)
  go_loopw [4, 3, 0] (fun i o n wr => ∃ (k : Nat) (A : Option Addr) (c : Nat), k ≤ 8 ∧ i = .int .i64 k ∧ o = .slice A k c ∧ n = .int .i64 ((N / 256 ^ k : Nat) : Int) ∧ Bs wr A k c ((be8 N).drop (8 - k)) ∧ Below w.heap.size w wr) (fun i _ _ _ => 8 - (intOf i).toNat)
  case atStart => exact ⟨0, none, 0, by omega, rfl, rfl, by simp, Bs.none_ _, Below.refl _ _⟩
  case round =>
    obtain ⟨wo, rfl⟩ : ∃ wo : World, wo = wr := ⟨_, rfl⟩
    obtain ⟨k, A, c, hk, rfl, rfl, rfl, hbs, hb⟩ := hrel
    have HBS := Lib.hid hbs
    have HB := Lib.hid hb
    clear hbs hb
    by_cases h8 : k < 8
    · have HX := Lib.hid (be8_next N k h8)
      obtain ⟨n, hn⟩ : ∃ n, n = N / 256 ^ k := ⟨_, rfl⟩
      have HQ : Hid (N / 256 ^ (k + 1) = n / 256) := Lib.hid (by rw [hn, Nat.pow_succ, Nat.div_div_eq_div_mul])
      have hn2 : n ≤ 1099511627776 := by rw [hn]; exact Nat.le_trans (Nat.div_le_self _ _) HN.out
      rw [← hn] at HX ⊢
      have HL : Hid (IntKind.u8.wrap ((n : Int).tmod 256) = ((UInt8.ofNat n).toNat : Int)) := Lib.hid (by
        rw [Int.tmod_eq_emod_of_nonneg (by omega), IntKind.wrap_u8', u8_cast]; omega)
      have HT : Hid ((n : Int).tdiv 256 = ((n / 256 : Nat) : Int)) := Lib.hid (by rw [Int.tdiv_eq_ediv_of_nonneg (by omega)]; omega)
      have HN2 : Hid (n ≤ 1099511627776) := Lib.hid hn2
      have t1 := HL.out
      have t2 := HT.out
      have t3 : wrap64 ((n / 256 : Nat) : Int) = ((n / 256 : Nat) : Int) := IntWalk.wrap64_in _ (by omega)
      have tok1 : Hid True := Lib.hid trivial
      clear hn hn2
      go_wp2_with (at_builtin; have _t := tok1; go_loud ((refine wpList_app rfl (.tmp 12) (.tmp 13) 22 rfl w.heap.size 5 Try.underlying22 byteInfo _ [UInt8.ofNat n] rfl (by first | exact Own.lit 5 wo [UInt8.ofNat n] HB.out.size (by simp [maxLen]) | exact (t1 ▸ Own.lit 5 wo [UInt8.ofNat n] HB.out.size (by simp [maxLen]))) A k c ((be8 N).drop (8 - k)) rfl (HBS.out.alloc _) (by simp; omega) (by have := HB.out.size; simp; omega) ?_; intro v2 w2 hown2 hb2 hg2; have HO2 := Lib.hid hown2; have HB2 : Hid (Below w.heap.size w w2) := Lib.hid ((HB.out.alloc HB.out.size _).trans hb2); clear tok1 hown2 hb2 hg2 _t)))
      obtain ⟨A3, c3, e3, hb3, _⟩ := HO2.out.bs
      have hl : ([UInt8.ofNat n] ++ (be8 N).drop (8 - k)).length = k + 1 := by simp [be8]; omega
      rw [hl] at e3 hb3
      rw [show [UInt8.ofNat n] ++ (be8 N).drop (8 - k) = (be8 N).drop (8 - (k + 1)) from by rw [show 8 - (k + 1) = 7 - k by omega]; exact HX.out.symm] at hb3
      refine ⟨⟨k + 1, A3, c3, by omega, by go_num, e3, ?_, hb3, HB2.out⟩, by simp [intOf]; omega⟩
      have hn3 := HN2.out
      rw [HQ.out, show (n : Int) / 256 = ((n / 256 : Nat) : Int) from by omega, IntWalk.wrap64_in _ (by omega)]
    · obtain rfl : k = 8 := by omega
      clear h8
      go_wp2_with (fail)
      refine (refSealF A 8 c (be8 N) wo HBS.out (by decide)).mono ?_
      rintro e w2 ⟨A2, c2, rfl, hB2, hb2, hf2⟩
      have HP : Hid (RetSF (bytesD N) w (.returned (.slice A2 (be8 N ++ be4 (Crc.sum 0 (be8 N))).length c2)) w2) := Lib.hid ⟨A2, c2, rfl, hB2, HB.out.trans (hb2.mono HB.out.size), fun a ha => Nat.le_trans HB.out.size (hf2 a ha)⟩
      clear hB2 hb2 hf2
      go_wp2_with (fail)
      go_ret
      exact HP.out
theorem layF_agree {o : Out} {r : Rk} {L : Fs} {e : Int} {g : Bool} (x : Int) (h : Agree o.1 r e g) (hs : Sim o.2.1 o.2.2 r L) : Agree (layF_ x o).1 r x g ∧ Sim (layF_ x o).2.1 (layF_ x o).2.2 r L := by
  obtain ⟨y | op, s⟩ := o
  · rcases h with ⟨z, _, _, hg⟩ | ⟨op, h1, _⟩
    · exact ⟨.inl ⟨x, rfl, rfl, hg⟩, hs⟩
    · cases h1
  · rcases h with ⟨z, h1, _⟩ | ⟨op', h1, h2, h3⟩
    · cases h1
    · exact ⟨.inr ⟨op', h1, h2, h3⟩, hs⟩
theorem saveL_layF {o : Out} {x : Int} (hx : x ≠ 0) (nm : ByteArray) : saveL (layF_ x o) nm = layF_ x o := by
  obtain ⟨y | op, s⟩ := o
  · show (if x = 0 then _ else _) = _
    rw [if_neg hx]; rfl
  · rfl
section
variable {w : World} {B G : Nat} {E : Nat → Prop} {r : Rk} {L : Fs} {v : Value} {P : List Value} {d : Dk} {fs : Fs}
set_option maxHeartbeats 16000000 in
set_option maxRecDepth 100000 in
theorem rkSave (h : RkAt w B G E r L v P) (hs : Sim d fs r L) (ok : FsOk d fs) (ho : d.ops + 8 ≤ 1152921504606846976) (nm : ByteArray) (hz : nm.size ≤ 140737488355000) (n : Int) (hL : fs.length ≤ 10000) (hB : B ≤ w.heap.size) (hE : ∀ k, E k → k < w.heap.size) :
    Calls Try.prog 20 #[pR G, .string nm, .int .i64 n] w (RM w B G E v (saveD d fs nm n)) := by
  have H := Lib.hid h
  have HS := Lib.hid hs
  have HOK := Lib.hid ok
  have HO := Lib.hid ho
  have HL := Lib.hid hL
  have HB := Lib.hid hB
  have HE := Lib.hid hE
  have HLL : Hid (L.length ≤ 100000) := Lib.hid (by rw [hs.perm.length_eq]; omega)
  have HZ := Lib.hid hz
  have HSV : Hid (saveD d fs nm n = if nameD nm = false ∨ nameD (tmpN nm) = false then (.inl 16, d, fs) else if 0 ≤ n ∧ n ≤ 1099511627776 then saveL (layD d fs (tmpN nm) (bytesD n.toNat)) nm else (.inl 3, d, fs)) := Lib.hid rfl
  have HTM : Hid (nm ++ ⟨#[46, 116, 109, 112]⟩ = tmpN nm) := Lib.hid rfl
  have HTZ : Hid ((tmpN nm).size ≤ 140737488355328) := Lib.hid (by rw [tmpN_size]; omega)
  have hbig : ¬ 9223372036854775807 < nm.size + 4 := by omega
  clear h hs ok ho hL hB hE hz
  go_enter Try.func20, Try.ntmps20
  go_wp2_with (fail)
  have HST : Hid (RM w B G E v (.inl 16, d, fs) (ret2 16 false) w) := Lib.hid (RM.mk (.inl ⟨16, rfl, rfl, rfl⟩) HS.out (Step.refl H.out))
  have HS3 : Hid (RM w B G E v (.inl 3, d, fs) (ret2 3 false) w) := Lib.hid (RM.mk (.inl ⟨3, rfl, rfl, rfl⟩) HS.out (Step.refl H.out))
  clear hbig
  refine (refName nm w (by have := HZ.out; omega)).mono ?_
  rintro e w1 ⟨rfl, rfl⟩
  cases hn : nameD nm
  · have HE2 : Hid (saveD d fs nm n = (.inl 16, d, fs)) := Lib.hid (by rw [HSV.out, if_pos (.inl hn)])
    clear hn
    go_wp2_with (fail)
    refine bodyPost_ret (v := .tuple #[.int .i64 16, .bool false]) (results_two Try.results20 _ _ _) rfl ?_
    rw [HE2.out]
    exact HST.out
  · have HNN := Lib.hid hn
    clear hn
    go_wp2_with (fail)
    try rw [HTM.out]
    obtain ⟨t, ht⟩ : ∃ t, t = tmpN nm := ⟨_, rfl⟩
    rw [← ht] at HTM HTZ HSV ⊢
    have HT := Lib.hid ht
    clear ht
    refine (refName t w HTZ.out).mono ?_
    rintro e w1 ⟨rfl, rfl⟩
    cases hn : nameD t
    · have HE2 : Hid (saveD d fs nm n = (.inl 16, d, fs)) := Lib.hid (by rw [HSV.out, if_pos (.inr hn)])
      clear hn
      go_wp2_with (fail)
      refine bodyPost_ret (v := .tuple #[.int .i64 16, .bool false]) (results_two Try.results20 _ _ _) rfl ?_
      rw [HE2.out]
      exact HST.out
    · have HNT := Lib.hid hn
      clear hn
      have HSV2 : Hid (saveD d fs nm n = if 0 ≤ n ∧ n ≤ 1099511627776 then saveL (layD d fs t (bytesD n.toNat)) nm else (.inl 3, d, fs)) := Lib.hid (by rw [HSV.out, if_neg (by rw [HNN.out, HNT.out]; simp)])
      by_cases h0 : n < 0
      · have d0 : decide (n < 0) = true := decide_eq_true h0
        have HE2 : Hid (saveD d fs nm n = (.inl 3, d, fs)) := Lib.hid (by rw [HSV2.out, if_neg (by omega)])
        go_wp2_with (fail)
        refine bodyPost_ret (v := .tuple #[.int .i64 3, .bool false]) (results_two Try.results20 _ _ _) rfl ?_
        rw [HE2.out]
        exact HS3.out
      have d0 : decide (n < 0) = false := decide_eq_false h0
      by_cases h1 : 1099511627776 < n
      · have d1 : decide (1099511627776 < n) = true := decide_eq_true h1
        have HE2 : Hid (saveD d fs nm n = (.inl 3, d, fs)) := Lib.hid (by rw [HSV2.out, if_neg (by omega)])
        go_wp2_with (fail)
        refine bodyPost_ret (v := .tuple #[.int .i64 3, .bool false]) (results_two Try.results20 _ _ _) rfl ?_
        rw [HE2.out]
        exact HS3.out
      have d1 : decide (1099511627776 < n) = false := decide_eq_false h1
      obtain ⟨N, rfl⟩ : ∃ N : Nat, n = (N : Int) := ⟨n.toNat, by omega⟩
      have HN : Hid (N ≤ 1099511627776) := Lib.hid (by omega)
      obtain ⟨l, hl⟩ : ∃ l, l = bytesD N := ⟨_, rfl⟩
      have HLB := Lib.hid hl
      have HL12 : Hid (l.length = 12) := Lib.hid (by rw [hl]; rfl)
      have HSV3 : Hid (saveD d fs nm (N : Int) = saveL (layT (opTrunc d fs t 0) t l) nm) := Lib.hid (by rw [HSV2.out, if_pos (by have := HN.out; omega), hl]; rfl)
      have d2 : ¬ 1099511627776 < N := by have := HN.out; omega
      have d3 : decide (1099511627776 < N) = false := decide_eq_false d2
      clear HSV HSV2 hl h0 h1 HST HS3
      go_wp2_with (fail)
      refine (rkBytes H.out t HLL.out).mono ?_
      rintro e w1 ⟨rfl, hby⟩
      have HBY := Lib.hid hby
      clear hby d0 d1 d2 d3
      rcases HBY.out with ⟨hg, rfl⟩ | ⟨f, A, m, c, hg, rfl, _⟩
      · have HT0 : Hid (∃ d2 fs2, saveD d fs nm (N : Int) = saveL (layAr (appO d2 fs2 t l) t l) nm ∧ FsOk d2 fs2 ∧ d2.ops ≤ d.ops + 1 ∧ fs2.length ≤ fs.length + 1 ∧ Sim d2 fs2 r L) := Lib.hid (by
          refine ⟨d, fs, ?_, HOK.out, by omega, by omega, HS.out⟩
          rw [HSV3.out]
          have : opTrunc d fs t 0 = (.inl 6, d, fs) := by unfold opTrunc; rw [← HS.out.get HOK.out, hg]
          rw [this]
          rfl)
        clear hg
        have HGEN : Hid (∃ d2 fs2 r2 L2 v2 P2, saveD d fs nm (N : Int) = saveL (layAr (appO d2 fs2 t l) t l) nm ∧ FsOk d2 fs2 ∧ d2.ops ≤ d.ops + 1 ∧ fs2.length ≤ fs.length + 1 ∧ Sim d2 fs2 r2 L2 ∧ Step w B G E v w r2 L2 v2 P2) := Lib.hid (by
          obtain ⟨d2, fs2, h1, h2, h3, h4, h5⟩ := HT0.out
          exact ⟨d2, fs2, r, L, v, P, h1, h2, h3, h4, h5, Step.refl H.out⟩)
        clear HT0
        obtain ⟨d2, fs2, r2, L2, v2, P2, hv, hk2, ho2, hn2, hs2, hst⟩ := HGEN.out
        have HV := Lib.hid hv
        have HK2 := Lib.hid hk2
        have HO2 := Lib.hid ho2
        have HN2 := Lib.hid hn2
        have HS2 := Lib.hid hs2
        have HST := Lib.hid hst
        clear hv hk2 ho2 hn2 hs2 hst HGEN
        go_wp2_with (fail)
        refine (refBytes15F N HN.out _).mono ?_
        rintro e w3 ⟨A3, c3, rfl, hB3, hb3, hf3⟩
        rw [← HLB.out] at hB3 ⊢
        have HST3 := Lib.hid (HST.out.below hb3)
        have HDV3 : Hid (DvX (RF G v2) w3 (.slice A3 l.length c3) l) := Lib.hid ⟨A3, _, c3, rfl, hB3, fun a ha => .inr (fun hr => absurd (hf3 a ha) (Nat.not_le.2 (HST.out.at_.foot_lt hr).2))⟩
        have HB3 : Hid (B ≤ w3.heap.size) := Lib.hid (Nat.le_trans HB.out HST3.out.ch.size)
        have HE3 : Hid (∀ k, E k → k < w3.heap.size) := Lib.hid (fun k hk => Nat.lt_of_lt_of_le (HE.out k hk) HST3.out.ch.size)
        clear hB3 hb3 hf3
        rw [HL12.out] at HDV3 ⊢
        go_wp2_with (fail)
        refine (rkApp HST3.out.at_ HS2.out HK2.out t HTZ.out A3 12 c3 l HDV3.out (by decide) (by rw [HS2.out.perm.length_eq]; have := HN2.out; have := HL.out; omega) HB3.out HE3.out).mono ?_
        rintro x w4 hx
        obtain ⟨n4, e4, g4, r4, L4, v4, P4, rfl, hag4, hn4, hs4, hst4⟩ := hx.step
        have HST4 := Lib.hid (HST3.out.trans hst4)
        have HS4 := Lib.hid hs4
        have HAG4 := Lib.hid hag4
        have HN4 := Lib.hid hn4
        have HK4 := Lib.hid (app_ok HK2.out (by have := HO2.out; have := HO.out; omega) t l)
        have HO4 := Lib.hid (app_ops d2 fs2 t l)
        have HLN4 := Lib.hid (app_len d2 fs2 t l)
        have HTH4 := Lib.hid (app_there (d := d2) (fs := fs2) HNT.out l)
        clear hx hag4 hn4 hs4 hst4
        obtain ⟨o4, ho4⟩ : ∃ o, o = appO d2 fs2 t l := ⟨_, rfl⟩
        have HX4 := Lib.hid (app_num d2 fs2 t l)
        rw [← ho4] at HS4 HAG4 HN4 HK4 HO4 HLN4 HTH4 HX4 HV
        clear ho4
        obtain ⟨⟨m4, q4⟩, d4, fs4⟩ := o4
        cases g4
        · obtain rfl : q4 = .inl e4 := HAG4.out.kept
          obtain rfl : n4 = m4 := HN4.out rfl
          obtain ⟨k4, hk4⟩ := HX4.out
          obtain rfl : n4 = (k4 : Int) := hk4
          have HV4 : Hid (saveD d fs nm (N : Int) = saveL (if (k4 : Int) < 12 then layF_ 4 (opRemove d4 fs4 t) else laySr (opSync d4 fs4 t) t) nm) := Lib.hid (by
            rw [HV.out]
            show saveL (if (k4 : Int) < (l.length : Int) then _ else _) nm = _
            rw [HL12.out]
            rfl)
          have HLB4 : Hid (L4.length ≤ 100000) := Lib.hid (by have h1 := HS4.out.perm.length_eq; have h2 := HLN4.out; have h3 := HN2.out; have h4 := HL.out; simp only at h1 h2; omega)
          have HB4 : Hid (B ≤ w4.heap.size) := Lib.hid (Nat.le_trans HB.out HST4.out.ch.size)
          have HE4 : Hid (∀ k, E k → k < w4.heap.size) := Lib.hid (fun k hk => Nat.lt_of_lt_of_le (HE.out k hk) HST4.out.ch.size)
          have HO4' : Hid (d4.ops ≤ d.ops + 2) := Lib.hid (by have h1 := HO4.out; have h2 := HO2.out; simp only at h1; omega)
          by_cases hlt : k4 < 12
          · have c1 : decide ((k4 : Int) < 12) = true := by simp; omega
            have c2 : decide (k4 < 12) = true := by simp; omega
            have HV5 : Hid (saveD d fs nm (N : Int) = layF_ 4 (opRemove d4 fs4 t)) := Lib.hid (by rw [HV4.out, if_pos (by omega)]; exact saveL_layF (by decide) nm)
            go_wp2_with (fail)
            refine (rkRem HST4.out.at_ HS4.out HK4.out t HLB4.out HB4.out HE4.out).mono ?_
            rintro x w5 hx
            obtain ⟨e5, g5, r5, L5, v5, P5, rfl, hag5, hs5, hst5⟩ := hx.step
            have HF : Hid (RM w B G E v (layF_ 4 (opRemove d4 fs4 t)) (ret2 4 g5) w5) := Lib.hid (RM.mk (layF_agree 4 hag5 hs5).1 (layF_agree 4 hag5 hs5).2 (HST4.out.trans hst5))
            clear hx hag5 hs5 hst5
            go_wp2_with (fail)
            refine bodyPost_ret (v := .tuple #[.int .i64 4, .bool g5]) (results_two Try.results20 _ _ _) rfl ?_
            rw [HV5.out]
            exact HF.out
          · have c1 : decide ((k4 : Int) < 12) = false := by simp; omega
            have c2 : decide (k4 < 12) = false := by simp; omega
            have HV5 : Hid (saveD d fs nm (N : Int) = saveL (laySr (opSync d4 fs4 t) t) nm) := Lib.hid (by rw [HV4.out, if_neg (by omega)])
            go_wp2_with (fail)
            refine (rkSync HST4.out.at_ HS4.out HK4.out t HLB4.out).mono ?_
            rintro x w5 hx
            obtain ⟨e5, g5, r5, L5, v5, P5, rfl, hag5, hs5, hst5⟩ := hx.step
            have HST5 := Lib.hid (HST4.out.trans hst5)
            have HS5 := Lib.hid hs5
            have HAG5 := Lib.hid hag5
            have HK5 := Lib.hid (sync_ok HK4.out (by have := HO4'.out; have := HO.out; show d4.ops + 1 ≤ _; omega) t)
            have HLN5 := Lib.hid (sync_len d4 fs4 t)
            have HTH5 := Lib.hid (sync_there (d := d4) HTH4.out)
            clear hx hag5 hs5 hst5 c1 c2 hlt
            obtain ⟨o5, ho5⟩ : ∃ o, o = opSync d4 fs4 t := ⟨_, rfl⟩
            rw [← ho5] at HS5 HAG5 HK5 HLN5 HTH5 HV5
            clear ho5
            obtain ⟨q5, d5, fs5⟩ := o5
            have HB5 : Hid (B ≤ w5.heap.size) := Lib.hid (Nat.le_trans HB.out HST5.out.ch.size)
            have HE5 : Hid (∀ k, E k → k < w5.heap.size) := Lib.hid (fun k hk => Nat.lt_of_lt_of_le (HE.out k hk) HST5.out.ch.size)
            have HLB5 : Hid (L5.length ≤ 100000) := Lib.hid (by have h1 := HS5.out.perm.length_eq; have h2 := HLN5.out; have h2' := HLN4.out; have h3 := HN2.out; have h4 := HL.out; simp only at h1 h2 h2'; omega)
            cases g5
            · obtain rfl : q5 = .inl e5 := HAG5.out.kept
              by_cases he5 : e5 = 0
              · subst he5
                have HV6 : Hid (saveD d fs nm (N : Int) = opRename d5 fs5 t nm) := Lib.hid (by rw [HV5.out, HT.out]; rfl)
                go_wp2_with (fail)
                refine (rkRen HST5.out.at_ HS5.out HK5.out t nm (by have := HZ.out; omega) HLB5.out HB5.out HE5.out).mono ?_
                rintro x w6 hx
                obtain ⟨e6, g6, r6, L6, v6, P6, rfl, hag6, hs6, hst6⟩ := hx.step
                have HF : Hid (RM w B G E v (opRename d5 fs5 t nm) (ret2 0 g6) w6) := Lib.hid (RM.mk (by
                  rcases hag6 with ⟨y, h1, h2, h3⟩ | ⟨op, h1, h2, h3⟩
                  · exact .inl ⟨y, h1, (rename_zero HTH5.out HNN.out h1).symm, h3⟩
                  · exact .inr ⟨op, h1, h2, h3⟩) hs6 (HST5.out.trans hst6))
                clear hx hag6 hs6 hst6
                go_wp2_with (fail)
                refine bodyPost_ret (v := .tuple #[.int .i64 0, .bool g6]) (results_two Try.results20 _ _ _) rfl ?_
                rw [HV6.out]
                exact HF.out
              · have c3 : (e5 != 0) = true := by simp [he5]
                have HV6 : Hid (saveD d fs nm (N : Int) = layF_ 5 (opRemove d5 fs5 t)) := Lib.hid (by
                  rw [HV5.out]
                  show saveL (if e5 = 0 then _ else _) nm = _
                  rw [if_neg he5]
                  exact saveL_layF (by decide) nm)
                go_wp2_with (fail)
                refine (rkRem HST5.out.at_ HS5.out HK5.out t HLB5.out HB5.out HE5.out).mono ?_
                rintro x w6 hx
                obtain ⟨e6, g6, r6, L6, v6, P6, rfl, hag6, hs6, hst6⟩ := hx.step
                have HF : Hid (RM w B G E v (layF_ 5 (opRemove d5 fs5 t)) (ret2 5 g6) w6) := Lib.hid (RM.mk (layF_agree 5 hag6 hs6).1 (layF_agree 5 hag6 hs6).2 (HST5.out.trans hst6))
                clear hx hag6 hs6 hst6
                go_wp2_with (fail)
                refine bodyPost_ret (v := .tuple #[.int .i64 5, .bool g6]) (results_two Try.results20 _ _ _) rfl ?_
                rw [HV6.out]
                exact HF.out
            · obtain ⟨op, hq, hop⟩ := HAG5.out.gone
              obtain rfl : q5 = .inr op := hq
              have HV6 : Hid (saveD d fs nm (N : Int) = (.inr op, d5, fs5)) := Lib.hid (by rw [HV5.out]; rfl)
              have HF : Hid (RM w B G E v (.inr op, d5, fs5) (ret2 0 true) w5) := Lib.hid (RM.mk (.inr ⟨op, rfl, hop, rfl⟩) HS5.out HST5.out)
              clear hop
              go_wp2_with (fail)
              refine bodyPost_ret (v := .tuple #[.int .i64 0, .bool true]) (results_two Try.results20 _ _ _) rfl ?_
              rw [HV6.out]
              exact HF.out
        · obtain ⟨op, hq, hop⟩ := HAG4.out.gone
          obtain rfl : q4 = .inr op := hq
          have HV6 : Hid (saveD d fs nm (N : Int) = (.inr op, d4, fs4)) := Lib.hid (by rw [HV.out]; rfl)
          have HF : Hid (RM w B G E v (.inr op, d4, fs4) (ret2 0 true) w4) := Lib.hid (RM.mk (.inr ⟨op, rfl, hop, rfl⟩) HS4.out HST4.out)
          clear hop
          go_wp2_with (fail)
          refine bodyPost_ret (v := .tuple #[.int .i64 0, .bool true]) (results_two Try.results20 _ _ _) rfl ?_
          rw [HV6.out]
          exact HF.out
      · clear hg
        go_wp2_with (fail)
        refine (rkTrunc H.out HS.out HOK.out t 0 HLL.out HE.out).mono ?_
        rintro x w2 hx
        obtain ⟨e, g, r2, L2, v2, P2, rfl, hag, hs2, hst⟩ := hx.step
        have HST := Lib.hid hst
        have HS2 := Lib.hid hs2
        have HAG := Lib.hid hag
        clear hx hag hs2 hst
        cases g
        · have HGEN : Hid (∃ d2 fs2 r2 L2 v2 P2, saveD d fs nm (N : Int) = saveL (layAr (appO d2 fs2 t l) t l) nm ∧ FsOk d2 fs2 ∧ d2.ops ≤ d.ops + 1 ∧ fs2.length ≤ fs.length + 1 ∧ Sim d2 fs2 r2 L2 ∧ Step w B G E v w2 r2 L2 v2 P2) := Lib.hid (by
            refine ⟨(opTrunc d fs t 0).2.1, (opTrunc d fs t 0).2.2, r2, L2, v2, P2, ?_, trunc_ok HOK.out (by have := HO.out; omega) t 0, trunc_ops d fs t 0, trunc_len d fs t 0, HS2.out, HST.out⟩
            rw [HSV3.out]
            have h1 := HAG.out.kept
            generalize opTrunc d fs t 0 = o at h1
            obtain ⟨o1, o2⟩ := o
            simp only at h1
            subst h1
            rfl)
          clear HS2 HST HAG
          obtain ⟨d2, fs2, r2, L2, v2, P2, hv, hk2, ho2, hn2, hs2, hst⟩ := HGEN.out
          have HV := Lib.hid hv
          have HK2 := Lib.hid hk2
          have HO2 := Lib.hid ho2
          have HN2 := Lib.hid hn2
          have HS2 := Lib.hid hs2
          have HST := Lib.hid hst
          clear hv hk2 ho2 hn2 hs2 hst HGEN
          go_wp2_with (fail)
          refine (refBytes15F N HN.out _).mono ?_
          rintro e w3 ⟨A3, c3, rfl, hB3, hb3, hf3⟩
          rw [← HLB.out] at hB3 ⊢
          have HST3 := Lib.hid (HST.out.below hb3)
          have HDV3 : Hid (DvX (RF G v2) w3 (.slice A3 l.length c3) l) := Lib.hid ⟨A3, _, c3, rfl, hB3, fun a ha => .inr (fun hr => absurd (hf3 a ha) (Nat.not_le.2 (HST.out.at_.foot_lt hr).2))⟩
          have HB3 : Hid (B ≤ w3.heap.size) := Lib.hid (Nat.le_trans HB.out HST3.out.ch.size)
          have HE3 : Hid (∀ k, E k → k < w3.heap.size) := Lib.hid (fun k hk => Nat.lt_of_lt_of_le (HE.out k hk) HST3.out.ch.size)
          clear hB3 hb3 hf3
          rw [HL12.out] at HDV3 ⊢
          go_wp2_with (fail)
          refine (rkApp HST3.out.at_ HS2.out HK2.out t HTZ.out A3 12 c3 l HDV3.out (by decide) (by rw [HS2.out.perm.length_eq]; have := HN2.out; have := HL.out; omega) HB3.out HE3.out).mono ?_
          rintro x w4 hx
          obtain ⟨n4, e4, g4, r4, L4, v4, P4, rfl, hag4, hn4, hs4, hst4⟩ := hx.step
          have HST4 := Lib.hid (HST3.out.trans hst4)
          have HS4 := Lib.hid hs4
          have HAG4 := Lib.hid hag4
          have HN4 := Lib.hid hn4
          have HK4 := Lib.hid (app_ok HK2.out (by have := HO2.out; have := HO.out; omega) t l)
          have HO4 := Lib.hid (app_ops d2 fs2 t l)
          have HLN4 := Lib.hid (app_len d2 fs2 t l)
          have HTH4 := Lib.hid (app_there (d := d2) (fs := fs2) HNT.out l)
          clear hx hag4 hn4 hs4 hst4
          obtain ⟨o4, ho4⟩ : ∃ o, o = appO d2 fs2 t l := ⟨_, rfl⟩
          have HX4 := Lib.hid (app_num d2 fs2 t l)
          rw [← ho4] at HS4 HAG4 HN4 HK4 HO4 HLN4 HTH4 HX4 HV
          clear ho4
          obtain ⟨⟨m4, q4⟩, d4, fs4⟩ := o4
          cases g4
          · obtain rfl : q4 = .inl e4 := HAG4.out.kept
            obtain rfl : n4 = m4 := HN4.out rfl
            obtain ⟨k4, hk4⟩ := HX4.out
            obtain rfl : n4 = (k4 : Int) := hk4
            have HV4 : Hid (saveD d fs nm (N : Int) = saveL (if (k4 : Int) < 12 then layF_ 4 (opRemove d4 fs4 t) else laySr (opSync d4 fs4 t) t) nm) := Lib.hid (by
              rw [HV.out]
              show saveL (if (k4 : Int) < (l.length : Int) then _ else _) nm = _
              rw [HL12.out]
              rfl)
            have HLB4 : Hid (L4.length ≤ 100000) := Lib.hid (by have h1 := HS4.out.perm.length_eq; have h2 := HLN4.out; have h3 := HN2.out; have h4 := HL.out; simp only at h1 h2; omega)
            have HB4 : Hid (B ≤ w4.heap.size) := Lib.hid (Nat.le_trans HB.out HST4.out.ch.size)
            have HE4 : Hid (∀ k, E k → k < w4.heap.size) := Lib.hid (fun k hk => Nat.lt_of_lt_of_le (HE.out k hk) HST4.out.ch.size)
            have HO4' : Hid (d4.ops ≤ d.ops + 2) := Lib.hid (by have h1 := HO4.out; have h2 := HO2.out; simp only at h1; omega)
            by_cases hlt : k4 < 12
            · have c1 : decide ((k4 : Int) < 12) = true := by simp; omega
              have c2 : decide (k4 < 12) = true := by simp; omega
              have HV5 : Hid (saveD d fs nm (N : Int) = layF_ 4 (opRemove d4 fs4 t)) := Lib.hid (by rw [HV4.out, if_pos (by omega)]; exact saveL_layF (by decide) nm)
              go_wp2_with (fail)
              refine (rkRem HST4.out.at_ HS4.out HK4.out t HLB4.out HB4.out HE4.out).mono ?_
              rintro x w5 hx
              obtain ⟨e5, g5, r5, L5, v5, P5, rfl, hag5, hs5, hst5⟩ := hx.step
              have HF : Hid (RM w B G E v (layF_ 4 (opRemove d4 fs4 t)) (ret2 4 g5) w5) := Lib.hid (RM.mk (layF_agree 4 hag5 hs5).1 (layF_agree 4 hag5 hs5).2 (HST4.out.trans hst5))
              clear hx hag5 hs5 hst5
              go_wp2_with (fail)
              refine bodyPost_ret (v := .tuple #[.int .i64 4, .bool g5]) (results_two Try.results20 _ _ _) rfl ?_
              rw [HV5.out]
              exact HF.out
            · have c1 : decide ((k4 : Int) < 12) = false := by simp; omega
              have c2 : decide (k4 < 12) = false := by simp; omega
              have HV5 : Hid (saveD d fs nm (N : Int) = saveL (laySr (opSync d4 fs4 t) t) nm) := Lib.hid (by rw [HV4.out, if_neg (by omega)])
              go_wp2_with (fail)
              refine (rkSync HST4.out.at_ HS4.out HK4.out t HLB4.out).mono ?_
              rintro x w5 hx
              obtain ⟨e5, g5, r5, L5, v5, P5, rfl, hag5, hs5, hst5⟩ := hx.step
              have HST5 := Lib.hid (HST4.out.trans hst5)
              have HS5 := Lib.hid hs5
              have HAG5 := Lib.hid hag5
              have HK5 := Lib.hid (sync_ok HK4.out (by have := HO4'.out; have := HO.out; show d4.ops + 1 ≤ _; omega) t)
              have HLN5 := Lib.hid (sync_len d4 fs4 t)
              have HTH5 := Lib.hid (sync_there (d := d4) HTH4.out)
              clear hx hag5 hs5 hst5 c1 c2 hlt
              obtain ⟨o5, ho5⟩ : ∃ o, o = opSync d4 fs4 t := ⟨_, rfl⟩
              rw [← ho5] at HS5 HAG5 HK5 HLN5 HTH5 HV5
              clear ho5
              obtain ⟨q5, d5, fs5⟩ := o5
              have HB5 : Hid (B ≤ w5.heap.size) := Lib.hid (Nat.le_trans HB.out HST5.out.ch.size)
              have HE5 : Hid (∀ k, E k → k < w5.heap.size) := Lib.hid (fun k hk => Nat.lt_of_lt_of_le (HE.out k hk) HST5.out.ch.size)
              have HLB5 : Hid (L5.length ≤ 100000) := Lib.hid (by have h1 := HS5.out.perm.length_eq; have h2 := HLN5.out; have h2' := HLN4.out; have h3 := HN2.out; have h4 := HL.out; simp only at h1 h2 h2'; omega)
              cases g5
              · obtain rfl : q5 = .inl e5 := HAG5.out.kept
                by_cases he5 : e5 = 0
                · subst he5
                  have HV6 : Hid (saveD d fs nm (N : Int) = opRename d5 fs5 t nm) := Lib.hid (by rw [HV5.out, HT.out]; rfl)
                  go_wp2_with (fail)
                  refine (rkRen HST5.out.at_ HS5.out HK5.out t nm (by have := HZ.out; omega) HLB5.out HB5.out HE5.out).mono ?_
                  rintro x w6 hx
                  obtain ⟨e6, g6, r6, L6, v6, P6, rfl, hag6, hs6, hst6⟩ := hx.step
                  have HF : Hid (RM w B G E v (opRename d5 fs5 t nm) (ret2 0 g6) w6) := Lib.hid (RM.mk (by
                    rcases hag6 with ⟨y, h1, h2, h3⟩ | ⟨op, h1, h2, h3⟩
                    · exact .inl ⟨y, h1, (rename_zero HTH5.out HNN.out h1).symm, h3⟩
                    · exact .inr ⟨op, h1, h2, h3⟩) hs6 (HST5.out.trans hst6))
                  clear hx hag6 hs6 hst6
                  go_wp2_with (fail)
                  refine bodyPost_ret (v := .tuple #[.int .i64 0, .bool g6]) (results_two Try.results20 _ _ _) rfl ?_
                  rw [HV6.out]
                  exact HF.out
                · have c3 : (e5 != 0) = true := by simp [he5]
                  have HV6 : Hid (saveD d fs nm (N : Int) = layF_ 5 (opRemove d5 fs5 t)) := Lib.hid (by
                    rw [HV5.out]
                    show saveL (if e5 = 0 then _ else _) nm = _
                    rw [if_neg he5]
                    exact saveL_layF (by decide) nm)
                  go_wp2_with (fail)
                  refine (rkRem HST5.out.at_ HS5.out HK5.out t HLB5.out HB5.out HE5.out).mono ?_
                  rintro x w6 hx
                  obtain ⟨e6, g6, r6, L6, v6, P6, rfl, hag6, hs6, hst6⟩ := hx.step
                  have HF : Hid (RM w B G E v (layF_ 5 (opRemove d5 fs5 t)) (ret2 5 g6) w6) := Lib.hid (RM.mk (layF_agree 5 hag6 hs6).1 (layF_agree 5 hag6 hs6).2 (HST5.out.trans hst6))
                  clear hx hag6 hs6 hst6
                  go_wp2_with (fail)
                  refine bodyPost_ret (v := .tuple #[.int .i64 5, .bool g6]) (results_two Try.results20 _ _ _) rfl ?_
                  rw [HV6.out]
                  exact HF.out
              · obtain ⟨op, hq, hop⟩ := HAG5.out.gone
                obtain rfl : q5 = .inr op := hq
                have HV6 : Hid (saveD d fs nm (N : Int) = (.inr op, d5, fs5)) := Lib.hid (by rw [HV5.out]; rfl)
                have HF : Hid (RM w B G E v (.inr op, d5, fs5) (ret2 0 true) w5) := Lib.hid (RM.mk (.inr ⟨op, rfl, hop, rfl⟩) HS5.out HST5.out)
                clear hop
                go_wp2_with (fail)
                refine bodyPost_ret (v := .tuple #[.int .i64 0, .bool true]) (results_two Try.results20 _ _ _) rfl ?_
                rw [HV6.out]
                exact HF.out
          · obtain ⟨op, hq, hop⟩ := HAG4.out.gone
            obtain rfl : q4 = .inr op := hq
            have HV6 : Hid (saveD d fs nm (N : Int) = (.inr op, d4, fs4)) := Lib.hid (by rw [HV.out]; rfl)
            have HF : Hid (RM w B G E v (.inr op, d4, fs4) (ret2 0 true) w4) := Lib.hid (RM.mk (.inr ⟨op, rfl, hop, rfl⟩) HS4.out HST4.out)
            clear hop
            go_wp2_with (fail)
            refine bodyPost_ret (v := .tuple #[.int .i64 0, .bool true]) (results_two Try.results20 _ _ _) rfl ?_
            rw [HV6.out]
            exact HF.out
        · have HE2 : Hid (saveD d fs nm (N : Int) = opTrunc d fs t 0) := Lib.hid (by
            rw [HSV3.out]
            obtain ⟨op, h1, _⟩ := HAG.out.gone
            generalize opTrunc d fs t 0 = o at h1
            obtain ⟨o1, o2⟩ := o
            simp only at h1
            subst h1
            rfl)
          go_wp2_with (fail)
          refine bodyPost_ret (v := .tuple #[.int .i64 0, .bool true]) (results_two Try.results20 _ _ _) rfl ?_
          rw [HE2.out]
          exact RM.mk (by rcases HAG.out.gone with ⟨op, h1, h2⟩; exact .inr ⟨op, h1, h2, rfl⟩) HS2.out HST.out
end
end Go.Proofs.Ytolomfdommnklaa

/- Layer 15: what a save leaves in its file. -/
namespace Go.Proofs.Ytolomfdommnklaa
open Go.RowKit Go.MapKept

theorem fget_fput_same : ∀ (fs : Fs) (k : ByteArray) (v : Fl), fget (fput fs k v) k = some v
  | [], k, v => by simp [fput, fget]
  | (a, u) :: r, k, v => by
    unfold fput
    split
    · simp [fget]
    · rename_i h
      unfold fget
      rw [if_neg h]
      exact fget_fput_same r k v
theorem fget_fput_other : ∀ (fs : Fs) {k n : ByteArray} (v : Fl), n ≠ k → fget (fput fs k v) n = fget fs n
  | [], k, n, v, h => by simp [fput, fget, h]
  | (a, u) :: r, k, n, v, h => by
    unfold fput
    split
    · rename_i hk
      subst hk
      unfold fget
      rw [if_neg h, if_neg h]
    · unfold fget
      split
      · rfl
      · exact fget_fput_other r v h
theorem fget_app_last : ∀ (fs : Fs) (k : ByteArray) (v : Fl), fget fs k = none → fget (fs ++ [(k, v)]) k = some v := fun _ _ v h => fget_app_new v h
/-- a change of another file -/
theorem change_other {d d1 d2 : Dk} {fs fs' : Fs} {x : Int} {n : ByteArray} (h : fget fs' n = fget fs n) : fget (opChange d fs x d1 d2 fs').2.2 n = fget fs n := by
  unfold opChange
  split
  · split
    · exact h
    · rfl
  · exact h
theorem trunc_other {d : Dk} {fs : Fs} {t n : ByteArray} (k : Int) (h : n ≠ t) : fget (opTrunc d fs t k).2.2 n = fget fs n := by
  unfold opTrunc
  split
  · rfl
  · split
    · rfl
    · exact change_other (fget_fput_other _ _ h)
theorem sync_other {d : Dk} {fs : Fs} {t n : ByteArray} (h : n ≠ t) : fget (opSync d fs t).2.2 n = fget fs n := by
  unfold opSync
  split
  · rfl
  · exact change_other (fget_fput_other _ _ h)
theorem remove_other {d : Dk} {fs : Fs} {t n : ByteArray} (h : n ≠ t) : fget (opRemove d fs t).2.2 n = fget fs n := by
  unfold opRemove
  split
  · rfl
  · exact change_other (fget_fdel_ne (fun e => h e.symm))
theorem app_other {d : Dk} {fs : Fs} {t n : ByteArray} (l : List UInt8) (h : n ≠ t) : fget (appO d fs t l).2.2 n = fget fs n := by
  unfold appO
  split
  · rfl
  · split
    · exact fget_fput_other _ _ h
    · exact fget_fput_other _ _ h
theorem lay__other {x : Int} {r : Out} {n : ByteArray} : fget (layF_ x r).2.2 n = fget r.2.2 n := by
  obtain ⟨y | op, s⟩ := r <;> rfl
theorem laySr_other {r : Out} {t n : ByteArray} (h : n ≠ t) : fget (laySr r t).2.2 n = fget r.2.2 n := by
  obtain ⟨y | op, s⟩ := r
  · show fget (if y = 0 then ((.inl 0, s) : Out) else layF_ 5 (opRemove s.1 s.2 t)).2.2 n = _
    split
    · rfl
    · rw [lay__other, remove_other h]
  · rfl
theorem layAr_other {r : OutN} {t n : ByteArray} (l : List UInt8) (h : n ≠ t) : fget (layAr r t l).2.2 n = fget r.2.2 n := by
  obtain ⟨⟨m, y | op⟩, s⟩ := r
  · show fget (if m < (l.length : Int) then layF_ 4 (opRemove s.1 s.2 t) else laySr (opSync s.1 s.2 t) t).2.2 n = _
    split
    · rw [lay__other, remove_other h]
    · rw [laySr_other h, sync_other h]
  · rfl
theorem layT_other {r : Out} {t n : ByteArray} (l : List UInt8) (h : n ≠ t) : fget (layT r t l).2.2 n = fget r.2.2 n := by
  obtain ⟨y | op, s⟩ := r
  · show fget (layAr (appO s.1 s.2 t l) t l).2.2 n = _
    rw [layAr_other l h, app_other l h]
  · rfl
theorem layD_other (d : Dk) (fs : Fs) {t n : ByteArray} (l : List UInt8) (h : n ≠ t) : fget (layD d fs t l).2.2 n = fget fs n := by
  unfold layD
  rw [layT_other l h, trunc_other 0 h]
/-- behind the cut there is no file, or an empty one -/
theorem trunc_zero {d : Dk} {fs : Fs} {t : ByteArray} {y : Int} (h : (opTrunc d fs t 0).1 = .inl y) : fget (opTrunc d fs t 0).2.2 t = none ∨ ∃ sf, fget (opTrunc d fs t 0).2.2 t = some ⟨[], sf⟩ := by
  unfold opTrunc at h ⊢
  split
  · rename_i hn; exact .inl hn
  · rename_i f hf
    rw [hf] at h
    simp only at h
    rw [if_neg (by omega)] at h ⊢
    unfold opChange at h ⊢
    split
    · rename_i ha; rw [if_pos ha] at h; cases h
    · refine .inr ⟨(trFl (0 : Int).toNat f).safe, ?_⟩
      show fget (fput fs t (trFl (0 : Int).toNat f)) t = _
      rw [fget_fput_same]
      rfl
theorem layF_empty {fs : Fs} {t : ByteArray} (l : List UInt8) (h : fget fs t = none ∨ ∃ sf, fget fs t = some ⟨[], sf⟩) : ∃ sf, fget (layF fs t l) t = some ⟨l, sf⟩ := by
  unfold layF
  rw [fget_fput_same]
  rcases h with h | ⟨sf, h⟩
  · rw [h]; exact ⟨0, rfl⟩
  · rw [h]; exact ⟨sf, rfl⟩
theorem layD_good {d : Dk} {fs : Fs} {t : ByteArray} {l : List UInt8} (hl : 0 < l.length) (h : (layD d fs t l).1 = .inl 0) : fget (layD d fs t l).2.2 t = some ⟨l, l.length⟩ := by
  unfold layD at h ⊢
  have h0 := fun y => trunc_zero (d := d) (fs := fs) (t := t) (y := y)
  generalize opTrunc d fs t 0 = r at h h0 ⊢
  obtain ⟨y | op, d1, fs1⟩ := r
  · have h1 : fget fs1 t = none ∨ ∃ sf, fget fs1 t = some ⟨[], sf⟩ := h0 y rfl
    clear h0
    replace h : (layAr (appO d1 fs1 t l) t l).1 = .inl 0 := h
    show fget (layAr (appO d1 fs1 t l) t l).2.2 t = _
    by_cases hn : nameD t = false
    · have e : appO d1 fs1 t l = ((0, .inl 16), d1, fs1) := by unfold appO; rw [if_pos hn]
      rw [e] at h
      replace h : (if (0 : Int) < (l.length : Int) then layF_ 4 (opRemove d1 fs1 t) else laySr (opSync d1 fs1 t) t).1 = .inl 0 := h
      rw [if_pos (by omega)] at h
      generalize opRemove d1 fs1 t = q at h
      obtain ⟨z | op, s⟩ := q <;> cases h
    · by_cases ha : d1.armedIn = 1
      · have e : appO d1 fs1 t l = ((0, .inr (d1.ops + 1)), { d1.begin with used := d1.used + (appK d1 l.length : Int) }, layF fs1 t (l.take (appK d1 l.length))) := by unfold appO; rw [if_neg hn, if_pos ha]
        rw [e] at h; cases h
      · have e : appO d1 fs1 t l = (((appN d1 l.length : Int), .inl (appE d1 l.length)), { d1.begin with used := d1.used + (appN d1 l.length : Int) }, layF fs1 t (l.take (appN d1 l.length))) := by unfold appO; rw [if_neg hn, if_neg ha]
        rw [e] at h ⊢
        generalize ({ d1.begin with used := d1.used + (appN d1 l.length : Int) } : Dk) = d2 at h ⊢
        by_cases hlt : appN d1 l.length < l.length
        · replace h : (if (appN d1 l.length : Int) < (l.length : Int) then layF_ 4 (opRemove d2 (layF fs1 t (l.take (appN d1 l.length))) t) else laySr (opSync d2 (layF fs1 t (l.take (appN d1 l.length))) t) t).1 = .inl 0 := h
          rw [if_pos (by omega)] at h
          generalize opRemove d2 (layF fs1 t (l.take (appN d1 l.length))) t = q at h
          obtain ⟨z | op, s⟩ := q <;> cases h
        · have hk : l.take (appN d1 l.length) = l := List.take_of_length_le (by omega)
          rw [hk] at h ⊢
          obtain ⟨sf, hf⟩ := layF_empty (t := t) l h1
          generalize layF fs1 t l = fs2 at h hf ⊢
          replace h : (if (appN d1 l.length : Int) < (l.length : Int) then layF_ 4 (opRemove d2 fs2 t) else laySr (opSync d2 fs2 t) t).1 = .inl 0 := h
          show fget (if (appN d1 l.length : Int) < (l.length : Int) then layF_ 4 (opRemove d2 fs2 t) else laySr (opSync d2 fs2 t) t).2.2 t = _
          rw [if_neg (by omega)] at h ⊢
          have hs : opSync d2 fs2 t = opChange d2 fs2 (syncErr (d2.failIn == 1)) d2.syncs.begin d2.syncs.begin (fput fs2 t (syncFl (d2.failIn == 1) ⟨l, sf⟩)) := by unfold opSync; rw [hf]
          rw [hs] at h ⊢
          unfold opChange at h ⊢
          split
          · rename_i ha2; rw [if_pos ha2] at h; cases h
          · rename_i ha2
            rw [if_neg ha2] at h
            cases hfl : (d2.failIn == 1)
            · rw [hfl] at h
              show fget (if syncErr false = 0 then ((.inl 0, d2.syncs.begin, fput fs2 t (syncFl false ⟨l, sf⟩)) : Out) else layF_ 5 (opRemove d2.syncs.begin (fput fs2 t (syncFl false ⟨l, sf⟩)) t)).2.2 t = _
              rw [if_pos (show syncErr false = 0 from rfl)]
              show fget (fput fs2 t (syncFl false ⟨l, sf⟩)) t = _
              rw [fget_fput_same]; rfl
            · rw [hfl] at h
              replace h : (if syncErr true = 0 then ((.inl 0, d2.syncs.begin, fput fs2 t (syncFl true ⟨l, sf⟩)) : Out) else layF_ 5 (opRemove d2.syncs.begin (fput fs2 t (syncFl true ⟨l, sf⟩)) t)).1 = .inl 0 := h
              rw [if_neg (by decide)] at h
              generalize opRemove d2.syncs.begin (fput fs2 t (syncFl true ⟨l, sf⟩)) t = q at h
              obtain ⟨z | op, s⟩ := q <;> cases h
  · cases h
/-- what a save leaves in its file: as it was, or the number -/
def KeepO (fs : Fs) (nm : ByteArray) (v : Fl) (r : Out) : Prop :=
  match r.1 with
  | .inl x => (x = 0 → fget r.2.2 nm = some v) ∧ (x ≠ 0 → fget r.2.2 nm = fget fs nm)
  | .inr _ => fget r.2.2 nm = fget fs nm ∨ fget r.2.2 nm = some v
theorem fdel_miss {fs : Fs} {n : ByteArray} (hd : (fs.map (·.1)).Nodup) : fget (fdel fs n) n = none := by
  induction fs with
  | nil => rfl
  | cons a r ih =>
    obtain ⟨a, u⟩ := a
    simp only [List.map_cons, List.nodup_cons] at hd
    unfold fdel
    split
    · rename_i h
      subst h
      have : ∀ q : Fs, n ∉ q.map (·.1) → fget q n = none := by
        intro q
        induction q with
        | nil => intro _; rfl
        | cons b q ihq =>
          obtain ⟨b, v⟩ := b
          intro hq
          simp only [List.map_cons, List.mem_cons, not_or] at hq
          unfold fget
          rw [if_neg hq.1]
          exact ihq hq.2
      exact this r hd.1
    · rename_i h
      unfold fget
      rw [if_neg h]
      exact ih hd.2
theorem saveD_keeps {d : Dk} {fs : Fs} {nm : ByteArray} {n : Nat} (hn : n ≤ 1099511627776) (h1 : nameD nm = true) (h2 : nameD (tmpN nm) = true)
    (hd : ((layD d fs (tmpN nm) (bytesD n)).2.2.map (·.1)).Nodup) : KeepO fs nm ⟨bytesD n, 12⟩ (saveD d fs nm (n : Int)) := by
  have hne := tmpN_ne nm
  unfold saveD
  rw [if_neg (by rw [h1, h2]; decide), if_pos ⟨by omega, by omega⟩, Int.toNat_natCast]
  have ho := layD_other d fs (bytesD n) hne
  have hg := layD_good (d := d) (fs := fs) (t := tmpN nm) (l := bytesD n) (by show 0 < 12; decide)
  rw [show (bytesD n).length = 12 from rfl] at hg
  generalize layD d fs (tmpN nm) (bytesD n) = r at ho hg hd ⊢
  obtain ⟨x | op, d1, fs1⟩ := r
  · show KeepO fs nm ⟨bytesD n, 12⟩ (if x = 0 then opRename d1 fs1 (tmpN nm) nm else ((.inl x, d1, fs1) : Out))
    have ho' : fget fs1 nm = fget fs nm := ho
    by_cases hx : x = 0
    · subst hx
      rw [if_pos rfl]
      have hg' : fget fs1 (tmpN nm) = some ⟨bytesD n, 12⟩ := hg rfl
      have hdone : fget (fdel (fdel fs1 nm) (tmpN nm) ++ [(nm, (⟨bytesD n, 12⟩ : Fl))]) nm = some ⟨bytesD n, 12⟩ :=
        fget_app_new _ (by rw [fget_fdel_ne (fun e => hne e.symm)]; exact fdel_miss hd)
      unfold opRename
      rw [hg']
      simp only
      rw [if_neg (by rw [h1]; decide), if_neg (fun e => hne e.symm)]
      unfold opChange
      split
      · unfold KeepO
        simp only
        split
        · exact .inr hdone
        · exact .inl ho'
      · exact ⟨fun _ => hdone, fun h => absurd rfl h⟩
    · rw [if_neg hx]
      exact ⟨fun h => absurd h hx, fun _ => ho'⟩
  · exact .inl ho
end Go.Proofs.Ytolomfdommnklaa

/- Layer 15: a save that guard's Do calls. -/
namespace Go.Proofs.Ytolomfdommnklaa
open Go.RowKit Go.MapKept

section
variable {w : World} {B D M : Nat} {d : Dk} {F : List Ent}
set_option maxHeartbeats 2000000 in
set_option maxRecDepth 100000 in
theorem saveFn (h : DkAt w B D M d F) (ok : FsOk d (fsOf F)) (ho : d.ops + 8 ≤ 1152921504606846976) (n : Int) (X Y : Nat) (hX : w.cell? ⟨X, 0, none⟩ = some (pD D)) (hY : w.cell? ⟨Y, 0, none⟩ = some (.int .i64 n)) (hBw : B ≤ w.heap.size) :
    Calls Try.prog 33 #[.pointer (some ⟨X, 0, none⟩), .pointer (some ⟨Y, 0, none⟩)] w (MEnds B D M F w (saveD d (fsOf F) nmC n)) := by
  have HS := Lib.hid (curSave h ok ho nmC (by decide) n hBw)
  clear h ok ho hBw
  go_enter Try.func33, Try.ntmps33
  go_wp2_with (fail)
  refine HS.out.mono ?_
  rintro e w2 ⟨F2, rfl, h2, c2, f2⟩
  have H2 := Lib.hid h2
  have HC2 := Lib.hid c2
  have HF2 := Lib.hid f2
  clear h2 c2 f2 HS hX hY
  generalize saveD d (fsOf F) nmC n = r at *
  obtain ⟨x | op, s⟩ := r
  · dsimp only [endM]
    go_wp2_with (fail)
    go_ret
    exact ⟨F2, rfl, H2.out, HC2.out, HF2.out⟩
  · exact ⟨rfl, F2, rfl, H2.out, HC2.out, HF2.out⟩
theorem okKeep : FnOkG 33 := fun args w => Go.MuLone.run_callFunc_enter Try.func33 (by kernel_rfl) rfl args w
/-- how Do ends -/
def endDo : Int ⊕ Int → Ending
  | .inl x => .returned (.tuple #[.int .i64 x, crash 0, .bool false])
  | .inr op => .returned (.tuple #[.int .i64 0, crash op, .bool true])
/-- a save that Do calls -/
theorem saveDo (h : DkAt w B D M d F) (ok : FsOk d (fsOf F)) (ho : d.ops + 8 ≤ 1152921504606846976) (n : Int) (X Y : Nat) (hX : w.cell? ⟨X, 0, none⟩ = some (pD D)) (hY : w.cell? ⟨Y, 0, none⟩ = some (.int .i64 n)) (hBw : B ≤ w.heap.size) :
    Calls Try.prog 17 #[.func (.func 33) #[] #[.pointer (some ⟨X, 0, none⟩), .pointer (some ⟨Y, 0, none⟩)]] w fun e w' =>
      ∃ F', e = endDo (saveD d (fsOf F) nmC n).1 ∧ DkAt w' B D M (saveD d (fsOf F) nmC n).2.1 F' ∧ DkCh D M F F' w w' ∧ fsOf F' = (saveD d (fsOf F) nmC n).2.2 := by
  have hX' := World.block_lt_of_cell? w _ hX
  have hY' := World.block_lt_of_cell? w _ hY
  refine (guardDoS _ w (fun x w1 w' => MEnds B D M F w1 (saveD d (fsOf F) nmC n) (.returned (.int .i64 x)) w') (fun op w1 w' => MEnds B D M F w1 (saveD d (fsOf F) nmC n) (.panicked [{ v := crashI op, recovered := false }]) w') ?_).mono ?_
  · intro w1 hb1
    refine ⟨_, _, rfl, okKeep, ?_⟩
    refine (saveFn (h.below hb1) ok ho n X Y ((hb1.cell (p := ⟨X, 0, none⟩) hX').trans hX) ((hb1.cell (p := ⟨Y, 0, none⟩) hY').trans hY) (Nat.le_trans hBw hb1.size)).mono ?_
    rintro e w2 hm
    have hm' := hm
    obtain ⟨F2, he, h2, c2, f2⟩ := hm
    refine ⟨fun b hb hlt => c2.ch.block b hlt (fun hf => by have := (h.foot_lt hf).2; omega), c2.ch.size, ?_⟩
    rw [he] at hm' ⊢
    generalize saveD d (fsOf F) nmC n = r at *
    obtain ⟨x | op, s⟩ := r
    · exact .inl ⟨x, rfl, hm'⟩
    · exact .inr ⟨op, rfl, hm'⟩
  · rintro e w'' ⟨w1, w', hb1, hz, hc, hcase⟩
    have hboth : ∃ F', e = endDo (saveD d (fsOf F) nmC n).1 ∧ DkAt w' B D M (saveD d (fsOf F) nmC n).2.1 F' ∧ DkCh D M F F' w1 w' ∧ fsOf F' = (saveD d (fsOf F) nmC n).2.2 := by
      generalize saveD d (fsOf F) nmC n = r at *
      obtain ⟨x | op, s⟩ := r
      · rcases hcase with ⟨y, rfl, F2, he, h2⟩ | ⟨op, rfl, F2, he, h2⟩
        · simp only [endM, Ending.returned.injEq, Value.int.injEq, true_and] at he
          exact ⟨F2, by rw [he]; rfl, h2⟩
        · simp [endM] at he
      · rcases hcase with ⟨y, rfl, F2, he, h2⟩ | ⟨op, rfl, F2, he, h2⟩
        · simp [endM] at he
        · simp [endM] at he
          exact ⟨F2, by rw [he]; rfl, h2⟩
    obtain ⟨F2, he, h2, c2, f2⟩ := hboth
    have hfoot : ∀ k, DFoot D M F2 k → k < w.heap.size ∨ w1.heap.size ≤ k := fun k hk => by
      rcases hk with hk | hk | hk
      · exact .inl (h.foot_lt (.inl hk)).2
      · exact .inl (h.foot_lt (.inr (.inl hk))).2
      · rcases c2.foot k hk with h5 | h5
        · exact .inl (h.foot_lt (.inr (.inr h5))).2
        · exact .inr h5
    refine ⟨F2, he, h2.ch hc (fun k hk hs => by rcases hfoot k hk with h5 | h5 <;> omega), ?_, f2⟩
    have c1 : DkCh D M F F2 w w' := (DkCh.of_below hb1).trans c2
    exact c1.later hc (fun k hk => hk.1)
end
end Go.Proofs.Ytolomfdommnklaa

/- CursorOrder, walked. -/
namespace Go.Proofs.Ytolomfdommnklaa
open Go.RowKit Go.MapKept

/-- a number that may be -/
def numF (n : Int) : Nat := (IntKind.u64.wrap n % 1099511627777).toNat
theorem numF_le (n : Int) : numF n ≤ 1099511627776 := by
  have h0 : 0 ≤ IntKind.u64.wrap n := by simp [IntKind.wrap, IntKind.bits, IntKind.signed]; omega
  unfold numF; omega
theorem curNum (n : Int) (w : World) : Calls Try.prog 32 #[.int .i64 n] w fun e w' => e = .returned (.int .i64 (numF n : Int)) ∧ w = w' := by
  have h0 : 0 ≤ IntKind.u64.wrap n := by simp [IntKind.wrap, IntKind.bits, IntKind.signed]; omega
  have h3 : (IntKind.u64.wrap n).tmod 1099511627777 = (numF n : Int) := by rw [Int.tmod_eq_emod_of_nonneg h0]; unfold numF; omega
  have h4 : wrap64 (numF n : Int) = (numF n : Int) := IntWalk.wrap64_in _ (by have := numF_le n; omega)
  have H := Lib.hid (And.intro h3 h4)
  clear h0 h3 h4
  go_enter Try.func32, Try.ntmps32
  go_wp2_with (fail)
  go_ret
  rw [H.out.1, H.out.2]
  exact ⟨rfl, rfl⟩
theorem be8_inj {m n : Nat} (hm : m ≤ 1099511627776) (hn : n ≤ 1099511627776) (h : be8 m = be8 n) : m = n := by
  have := congrArg valD h
  rwa [valD_be8 hm, valD_be8 hn] at this
theorem bytesD_inj {m n : Nat} (hm : m ≤ 1099511627776) (hn : n ≤ 1099511627776) (h : bytesD m = bytesD n) : m = n := by
  have := congrArg (List.take 8) h
  exact be8_inj hm hn this
theorem lt8 (a0 a1 a2 a3 a4 a5 a6 a7 b0 b1 b2 b3 b4 b5 b6 b7 : UInt8) :
    ([a0, a1, a2, a3, a4, a5, a6, a7] < [b0, b1, b2, b3, b4, b5, b6, b7]) ↔ valD [a0, a1, a2, a3, a4, a5, a6, a7] < valD [b0, b1, b2, b3, b4, b5, b6, b7] := by
  have k0 := a0.toNat_lt; have k1 := a1.toNat_lt; have k2 := a2.toNat_lt; have k3 := a3.toNat_lt
  have k4 := a4.toNat_lt; have k5 := a5.toNat_lt; have k6 := a6.toNat_lt; have k7 := a7.toNat_lt
  have j0 := b0.toNat_lt; have j1 := b1.toNat_lt; have j2 := b2.toNat_lt; have j3 := b3.toNat_lt
  have j4 := b4.toNat_lt; have j5 := b5.toNat_lt; have j6 := b6.toNat_lt; have j7 := b7.toNat_lt
  simp only [valD, List.foldl_cons, List.foldl_nil, List.cons_lt_cons_iff, UInt8.lt_iff_toNat_lt, ← UInt8.toNat_inj, List.lt_irrefl, and_false, or_false]
  omega
theorem be8_lt {m n : Nat} (hm : m ≤ 1099511627776) (hn : n ≤ 1099511627776) : (be8 m < be8 n) ↔ m < n := by
  have h := lt8 (UInt8.ofNat (m / 72057594037927936)) (UInt8.ofNat (m / 281474976710656)) (UInt8.ofNat (m / 1099511627776)) (UInt8.ofNat (m / 4294967296)) (UInt8.ofNat (m / 16777216)) (UInt8.ofNat (m / 65536)) (UInt8.ofNat (m / 256)) (UInt8.ofNat m)
    (UInt8.ofNat (n / 72057594037927936)) (UInt8.ofNat (n / 281474976710656)) (UInt8.ofNat (n / 1099511627776)) (UInt8.ofNat (n / 4294967296)) (UInt8.ofNat (n / 16777216)) (UInt8.ofNat (n / 65536)) (UInt8.ofNat (n / 256)) (UInt8.ofNat n)
  have h1 : (be8 m < be8 n) ↔ valD (be8 m) < valD (be8 n) := h
  rw [h1, valD_be8 hm, valD_be8 hn]
set_option maxHeartbeats 4000000 in
set_option maxRecDepth 100000 in
theorem cursorOrder_walk (a b : Int) (w : World) (_wa : (Lit.int .i64 a).wf = true) (_wb : (Lit.int .i64 b).wf = true) : Calls Try.prog 7 #[.int .i64 a, .int .i64 b] w (True_ w) := by
  go_enter Try.func7, Try.ntmps7
  go_wp2_with (fail)
  refine (curNum a w).mono ?_
  rintro e w1 ⟨rfl, rfl⟩
  go_wp2_with (fail)
  refine (curNum b w).mono ?_
  rintro e w1 ⟨rfl, rfl⟩
  have HA := Lib.hid (numF_le a)
  have HB := Lib.hid (numF_le b)
  generalize numF a = m at *
  generalize numF b = n at *
  go_wp2_with (fail)
  refine (curBytes m HA.out w).mono ?_
  rintro e w1 ⟨g, rfl, hg, hrow, hb1⟩
  have HR1 := Lib.hid hrow
  have HB1 := Lib.hid hb1
  clear hg hrow hb1
  go_wp2_with (fail)
  refine (curBytes n HB.out w1).mono ?_
  rintro e w2 ⟨g2, rfl, hg2, hrow2, hb2⟩
  have HR2 := Lib.hid hrow2
  have HR12 : Hid (w2.heap[g]? = some (.cells (u8s (bytesD m)).toArray 5)) := Lib.hid ((hb2.block g (Array.getElem?_eq_some_iff.1 HR1.out).1).trans HR1.out)
  have HB2 : Hid (Below w.heap.size w w2) := Lib.hid (HB1.out.trans (hb2.mono HB1.out.size))
  clear hg2 hrow2 hb2 HR1 HB1
  go_wp2_with (fail)
  refine (curAlive w2).mono ?_
  rintro e w3 ⟨rfl, hb3⟩
  have hr1 := (hb3.block g (Array.getElem?_eq_some_iff.1 HR12.out).1).trans HR12.out
  have hr2 := (hb3.block g2 (Array.getElem?_eq_some_iff.1 HR2.out).1).trans HR2.out
  have HB3 : Hid (Below w.heap.size w w3) := Lib.hid (HB2.out.trans (hb3.mono HB2.out.size))
  have c1 := fun q => ((Bs.of_block (n := 8) (c := 12) (cur := u8s (bytesD m)) (l := be8 m) hr1 rfl rfl (by decide) (by decide)).drewN q).str (P := Try.prog) 22 5 9 Try.underlying22 Try.underlying5 Try.underlying9
  have c2 := fun q => ((Bs.of_block (n := 8) (c := 12) (cur := u8s (bytesD n)) (l := be8 n) hr2 rfl rfl (by decide) (by decide)).drewN q).str (P := Try.prog) 22 5 9 Try.underlying22 Try.underlying5 Try.underlying9
  have c3 := fun q => ((Bs.block hr1 (n := 12) rfl (by decide)).drewN q).str (P := Try.prog) 22 5 9 Try.underlying22 Try.underlying5 Try.underlying9
  have c4 := fun q => ((Bs.block hr2 (n := 12) rfl (by decide)).drewN q).str (P := Try.prog) 22 5 9 Try.underlying22 Try.underlying5 Try.underlying9
  have hlt : Op.bytesLess (txt (be8 m)).toList (txt (be8 n)).toList = decide ((m : Int) < (n : Int)) := by
    rw [bytesLess_eq, Go.ByteArray.toList_eq, Go.ByteArray.toList_eq, decide_eq_decide]
    rw [show (txt (be8 m)).data.toList = be8 m from by simp, show (txt (be8 n)).data.toList = be8 n from by simp, be8_lt HA.out HB.out]
    omega
  have heq : ((txt (bytesD m)).toList == (txt (bytesD n)).toList) = ((m : Int) == (n : Int)) := by
    rw [Go.ByteArray.toList_eq, Go.ByteArray.toList_eq]
    rw [show (txt (bytesD m)).data.toList = bytesD m from by simp, show (txt (bytesD n)).data.toList = bytesD n from by simp]
    by_cases h : m = n
    · subst h; simp
    · have h1 : (bytesD m == bytesD n) = false := by rw [beq_eq_false_iff_ne]; exact fun e => h (bytesD_inj HA.out HB.out e)
      have h2 : ((m : Int) == (n : Int)) = false := by rw [beq_eq_false_iff_ne]; omega
      rw [h1, h2]
  clear hb3 hr1 hr2 HR12 HR2 HB2 HA HB
  generalize txt (be8 m) = x1 at *
  generalize txt (be8 n) = x2 at *
  generalize txt (bytesD m) = x3 at *
  generalize txt (bytesD n) = x4 at *
  have h3 : (m < n ∧ m ≠ n) ∨ m = n ∨ (¬ m < n ∧ m ≠ n) := by omega
  rcases h3 with ⟨h1, h2⟩ | h2 | ⟨h1, h2⟩
  · have e1 : decide ((m : Int) < (n : Int)) = true := by simp; omega
    have e2 : ((m : Int) == (n : Int)) = false := by rw [beq_eq_false_iff_ne]; omega
    have e3 : (m : Int) < (n : Int) := by omega
    rw [e1] at hlt
    rw [e2] at heq
    clear h1 h2
    go_wp2_with (fail)
    go_quiet (fail)
    go_wp2_with (fail)
    go_ret
    exact ⟨rfl, drawN_below HB3.out _⟩
  · subst h2
    have e1 : decide ((m : Int) < (m : Int)) = false := by simp
    have e2 : ((m : Int) == (m : Int)) = true := by simp
    rw [e1] at hlt
    rw [e2] at heq
    go_wp2_with (fail)
    go_quiet (fail)
    go_wp2_with (fail)
    go_ret
    exact ⟨rfl, drawN_below HB3.out _⟩
  · have e1 : decide ((m : Int) < (n : Int)) = false := by simp; omega
    have e2 : ((m : Int) == (n : Int)) = false := by rw [beq_eq_false_iff_ne]; omega
    have e3 : decide (m < n) = false := by simpa using h1
    rw [e1] at hlt
    rw [e2] at heq
    clear h2
    go_wp2_with (fail)
    go_quiet (fail)
    go_wp2_with (fail)
    go_ret
    exact ⟨rfl, drawN_below HB3.out _⟩
end Go.Proofs.Ytolomfdommnklaa

/- Layer 15: where the disk stands between the saves. -/
namespace Go.Proofs.Ytolomfdommnklaa
open Go.RowKit Go.MapKept

/-- the number that is told, and its file -/
structure KInv (d : Dk) (fs : Fs) (last : Nat) (k : Nat) : Prop where
  ok : FsOk d fs
  ops : d.ops ≤ 6 * (k : Int)
  le : last ≤ 1099511627776
  at_ : (fget fs nmC = none ∧ last = 0) ∨ fget fs nmC = some ⟨bytesD last, 12⟩
theorem KInv.load {d : Dk} {fs : Fs} {last k : Nat} (h : KInv d fs last k) : loadD fs nmC = ((last : Int), 0) := by
  unfold loadD
  rcases h.at_ with ⟨h1, h2⟩ | h1
  · rw [h1, h2]; rfl
  · rw [h1]; exact numD_bytes h.le
theorem KInv.later {d : Dk} {fs : Fs} {last k j : Nat} (h : KInv d fs last k) (hj : k ≤ j) : KInv d fs last j := ⟨h.ok, by have := h.ops; omega, h.le, h.at_⟩
theorem fget_pow (keep : Int) : ∀ (fs : Fs) (n : ByteArray), fget (powFs keep fs) n = (fget fs n).map (powFl keep)
  | [], _ => rfl
  | (a, v) :: r, n => by
    show fget ((a, powFl keep v) :: powFs keep r) n = _
    unfold fget
    split
    · rfl
    · exact fget_pow keep r n
theorem powFl_whole (keep : Int) (v : Nat) : powFl keep ⟨bytesD v, 12⟩ = ⟨bytesD v, 12⟩ := by
  have h : powN keep ⟨bytesD v, 12⟩ = 12 := by
    show 12 + min ((bytesD v).length - 12) keep.toNat = 12
    rw [show (bytesD v).length = 12 from rfl]; omega
  unfold powFl
  rw [h]; rfl
theorem KInv.power {d : Dk} {fs : Fs} {last k : Nat} (h : KInv d fs last k) (keep : Int) : KInv (opPower d fs keep).2.1 (opPower d fs keep).2.2 last k :=
  ⟨power_ok h.ok keep, h.ops, h.le, by
    show (fget (powFs keep fs) nmC = none ∧ _) ∨ fget (powFs keep fs) nmC = _
    rw [fget_pow]
    rcases h.at_ with ⟨h1, h2⟩ | h1
    · rw [h1]; exact .inl ⟨rfl, h2⟩
    · rw [h1]; exact .inr (by rw [Option.map_some, powFl_whole])⟩
theorem KInv.room {d : Dk} {fs : Fs} {last k : Nat} (h : KInv d fs last k) (hk : k ≤ 200) (n : Int) (hn : -9223372036854775808 ≤ n ∧ n ≤ 9223372036854775807) : KInv (opSetRoom d fs n).2.1 (opSetRoom d fs n).2.2 last k :=
  ⟨callD_ok h.ok (by have := h.ops; omega) 5 n 0 hn (by omega) ⟨#[]⟩ ⟨#[]⟩ [], by unfold opSetRoom; split <;> exact h.ops, h.le, by unfold opSetRoom; split <;> exact h.at_⟩
theorem KInv.fail {d : Dk} {fs : Fs} {last k : Nat} (h : KInv d fs last k) (hk : k ≤ 200) (n : Int) (hn : -9223372036854775808 ≤ n ∧ n ≤ 9223372036854775807) : KInv (opFail d fs n).2.1 (opFail d fs n).2.2 last k :=
  ⟨callD_ok h.ok (by have := h.ops; omega) 6 n 0 hn (by omega) ⟨#[]⟩ ⟨#[]⟩ [], by unfold opFail; split <;> exact h.ops, h.le, by unfold opFail; split <;> exact h.at_⟩
theorem KInv.arm {d : Dk} {fs : Fs} {last k : Nat} (h : KInv d fs last k) (hk : k ≤ 200) (n j : Int) (hn : -9223372036854775808 ≤ n ∧ n ≤ 9223372036854775807) (hj : -9223372036854775808 ≤ j ∧ j ≤ 9223372036854775807) : KInv (opArm d fs n j).2.1 (opArm d fs n j).2.2 last k :=
  ⟨callD_ok h.ok (by have := h.ops; omega) 7 n j hn hj ⟨#[]⟩ ⟨#[]⟩ [], by unfold opArm; split <;> exact h.ops, h.le, by unfold opArm; split <;> exact h.at_⟩
/-- behind a save: the number is the last one's or this one's -/
theorem KInv.save {d : Dk} {fs : Fs} {last k v : Nat} (h : KInv d fs last k) (hk : k ≤ 200) (hv : v ≤ 1099511627776) :
    (∀ x, (saveD d fs nmC (v : Int)).1 = .inl x → KInv (saveD d fs nmC (v : Int)).2.1 (saveD d fs nmC (v : Int)).2.2 (if x = 0 then v else last) (k + 1)) ∧
    (∀ op, (saveD d fs nmC (v : Int)).1 = .inr op → ∃ u, (u = last ∨ u = v) ∧ KInv (saveD d fs nmC (v : Int)).2.1 (saveD d fs nmC (v : Int)).2.2 u (k + 1)) := by
  have ho := h.ops
  have hs := saveD_ok h.ok (by omega) nmC (v : Int)
  have hl := layD_ok h.ok (by omega) (tmpN nmC) (bytesD v)
  have hkeep := saveD_keeps (d := d) (fs := fs) (nm := nmC) hv nameC.1 nameC.2 hl.1.names
  clear hl
  generalize saveD d fs nmC (v : Int) = r at *
  obtain ⟨x | op, d2, fs2⟩ := r
  · refine ⟨fun y hy => ?_, fun op hop => (by cases hop)⟩
    obtain rfl : x = y := by injection hy
    obtain ⟨k1, k2⟩ : (x = 0 → fget fs2 nmC = some ⟨bytesD v, 12⟩) ∧ (x ≠ 0 → fget fs2 nmC = fget fs nmC) := hkeep
    by_cases hx : x = 0
    · rw [if_pos hx]
      exact ⟨hs.1, by have h2 := hs.2; simp only at h2 ⊢; omega, hv, .inr (k1 hx)⟩
    · rw [if_neg hx]
      exact ⟨hs.1, by have h2 := hs.2; simp only at h2 ⊢; omega, h.le, by rw [show fget fs2 nmC = fget fs nmC from k2 hx]; exact h.at_⟩
  · refine ⟨fun y hy => (by cases hy), fun o ho' => ?_⟩
    have hk' : fget fs2 nmC = fget fs nmC ∨ fget fs2 nmC = some ⟨bytesD v, 12⟩ := hkeep
    have h2 : d2.ops ≤ d.ops + 5 := hs.2
    rcases hk' with h1 | h1
    · exact ⟨last, .inl rfl, hs.1, by show d2.ops ≤ _; omega, h.le, by show (fget fs2 nmC = none ∧ _) ∨ fget fs2 nmC = _; rw [h1]; exact h.at_⟩
    · exact ⟨v, .inr rfl, hs.1, by show d2.ops ≤ _; omega, hv, .inr h1⟩
theorem KInv.new (r : Int) (h : 0 ≤ r ∧ r ≤ 1073741824) : KInv ⟨r, 0, 0, 0, 0, 0⟩ (fsOf []) 0 0 := ⟨newDk_ok r h, by simp, by omega, .inl ⟨rfl, rfl⟩⟩
/-- a room that may be -/
def roomF (n : Int) : Nat := (IntKind.u64.wrap n % 60).toNat
theorem roomF_le (n : Int) : roomF n ≤ 60 := by
  have h0 : 0 ≤ IntKind.u64.wrap n := by simp [IntKind.wrap, IntKind.bits, IntKind.signed]; omega
  unfold roomF; omega
theorem curRoom (n : Int) (w : World) : Calls Try.prog 16 #[.int .i64 n] w fun e w' => e = .returned (.int .i64 (roomF n : Int)) ∧ w = w' := by
  have h0 : 0 ≤ IntKind.u64.wrap n := by simp [IntKind.wrap, IntKind.bits, IntKind.signed]; omega
  have h3 : (IntKind.u64.wrap n).tmod 60 = (roomF n : Int) := by rw [Int.tmod_eq_emod_of_nonneg h0]; unfold roomF; omega
  have h4 : wrap64 (roomF n : Int) = (roomF n : Int) := IntWalk.wrap64_in _ (by have := roomF_le n; omega)
  have H := Lib.hid (And.intro h3 h4)
  clear h0 h3 h4
  go_enter Try.func16, Try.ntmps16
  go_wp2_with (fail)
  go_ret
  rw [H.out.1, H.out.2]
  exact ⟨rfl, rfl⟩
end Go.Proofs.Ytolomfdommnklaa

/- Layer 15: both disks, and a save that guard's Do calls, in CursorActs. -/
namespace Go.Proofs.Ytolomfdommnklaa
open Go.RowKit Go.MapKept

section
variable {w w' : World} {B C D M G : Nat} {E : Nat → Prop} {r : Rk} {L : Fs} {v : Value} {P : List Value} {d : Dk} {fs : Fs} {F : List Ent}
theorem apart_rk (h : DkAt w B D M d F) (hr : RkAt w C G E r L v P) {k : Nat} (h1 : RF G v k) (h2 : DFoot D M F k) : False := by
  have hk : ∃ cur t f, w.heap[k]? = some (.cells cur t f) ∧ (t = TRD ∨ t = TRF) := by
    rcases h1 with rfl | h1
    · exact ⟨_, _, _, hr.row, .inl rfl⟩
    · obtain ⟨cur, hc⟩ := own3_ty hr.own k h1
      exact ⟨_, _, _, hc, .inr rfl⟩
  obtain ⟨cur, t, f, hc, ht⟩ := hk
  rcases h2 with rfl | rfl | ⟨e, he, rfl | h2⟩
  · rw [h.row] at hc
    simp only [Option.some.injEq, Obj.cells.injEq] at hc
    rcases ht with rfl | rfl
    · exact absurd hc.2.1 (by decide)
    · exact absurd hc.2.1 (by decide)
  · exact h.map.ne hc rfl
  · rw [(h.files e he).row] at hc
    simp only [Option.some.injEq, Obj.cells.injEq] at hc
    rcases ht with rfl | rfl
    · exact absurd hc.2.1 (by decide)
    · exact absurd hc.2.1 (by decide)
  · obtain ⟨cur', hc'⟩ := own3_ty (s := 1) (show w.ownsRow B 5 1 e.v e.f.bs.length (u8s e.f.bs) from (h.files e he).own) k h2
    rw [hc'] at hc
    simp only [Option.some.injEq, Obj.cells.injEq] at hc
    rcases ht with rfl | rfl
    · exact absurd hc.2.1 (by decide)
    · exact absurd hc.2.1 (by decide)
/-- the document's disk, over what the program's disk does -/
theorem RkAt.over {F' : List Ent} (h : DkAt w B D M d F) (hr : RkAt w C G (DFoot D M F) r L v P) (c : DkCh D M F F' w w') : RkAt w' C G (DFoot D M F') r L v P :=
  hr.next c.ch (fun _ hk => hk) (fun hk => apart_rk h hr (.inl rfl) hk) (fun k hv hk => apart_rk h hr (.inr hv) hk) (fun k hk hf => by
    rcases hf with hf | hf | hf
    · exact .inl hf
    · exact .inr (.inl hf)
    · rcases c.foot k hf with hf | hf
      · exact .inr (.inr hf)
      · omega)
theorem RkAt.fresh (w : World) (n : Int) (hC : C ≤ w.heap.size) : RkAt (w.alloc (.cells #[.slice none 0 0, .int .i64 n, .int .i64 0, .int .i64 0, .int .i64 0, .int .i64 0] TRD)) C w.heap.size E ⟨n, 0, 0, 0, 0⟩ [] (.slice none 0 0) [] :=
  ⟨hC, heap_alloc_new w _, rfl, World.ownsRow_nil _ _ _ 3, fun i e d h => by simp at h⟩
end
/-- a box beside both disks -/
theorem apart_box {w : World} {B C D M G X : Nat} {E : Nat → Prop} {r : Rk} {L : Fs} {v : Value} {P : List Value} {d : Dk} {F : List Ent} {cur : Array Value} {fz : Nat × Nat} (h : DkAt w B D M d F) (hr : RkAt w C G E r L v P) (hx : w.heap[X]? = some (.cells cur 35 fz)) : (∀ k, DFoot D M F k → k ≠ X) ∧ (∀ k, RF G v k → k ≠ X) := by
  refine ⟨fun k hk e => ?_, fun k hk e => ?_⟩
  · subst e
    rcases hk with rfl | rfl | ⟨e, he, rfl | h2⟩
    · rw [h.row] at hx
      simp only [Option.some.injEq, Obj.cells.injEq] at hx
      exact absurd hx.2.1 (by decide)
    · exact h.map.ne hx rfl
    · rw [(h.files e he).row] at hx
      simp only [Option.some.injEq, Obj.cells.injEq] at hx
      exact absurd hx.2.1 (by decide)
    · obtain ⟨cur', hc'⟩ := own3_ty (s := 1) (show w.ownsRow B 5 1 e.v e.f.bs.length (u8s e.f.bs) from (h.files e he).own) k h2
      rw [hc'] at hx
      simp only [Option.some.injEq, Obj.cells.injEq] at hx
      exact absurd hx.2.1 (by decide)
  · subst e
    rcases hk with rfl | hk
    · rw [hr.row] at hx
      simp only [Option.some.injEq, Obj.cells.injEq] at hx
      exact absurd hx.2.1 (by decide)
    · obtain ⟨cur', hc'⟩ := own3_ty hr.own k hk
      rw [hc'] at hx
      simp only [Option.some.injEq, Obj.cells.injEq] at hx
      exact absurd hx.2.1 (by decide)
theorem powF_eq {kp : Int} {f : Fl} (h : f.safe ≤ f.bs.length) : powF kp f = powFl kp f := by
  have : f.safe + powK kp f = powN kp f := by unfold powK powN; omega
  unfold powF powFl
  rw [this]
theorem Sim.power {d : Dk} {fs : Fs} {r : Rk} {L : Fs} (h : Sim d fs r L) (ok : FsOk d fs) (kp u : Int) : Sim { d with used := u, failIn := 0, armedIn := 0 } (powFs kp fs) r.power (powL kp L) := by
  have h1 : powL kp L = L.map fun e => (e.1, powFl kp e.2) := List.map_congr_left (fun e he => by rw [powF_eq (ok.safe e (h.perm.mem_iff.1 he))])
  refine ⟨h.size, h.count, rfl, h.keep, rfl, ?_, ?_⟩
  · rw [h1]; exact h.perm.map _
  · unfold Srt powL; rw [List.pairwise_map]; exact h.srt
theorem remove_len (d : Dk) (fs : Fs) (a : ByteArray) : (opRemove d fs a).2.2.length ≤ fs.length + 1 := callD_lenL d fs 4 0 0 a a []
theorem rename_len (d : Dk) (fs : Fs) (a b : ByteArray) : (opRename d fs a b).2.2.length ≤ fs.length + 1 := callD_lenL d fs 3 0 0 a b []
theorem layF_len (x : Int) (o : Out) : (layF_ x o).2.2 = o.2.2 := by obtain ⟨y | op, s⟩ := o <;> rfl
theorem layD_len (d : Dk) (fs : Fs) (t : ByteArray) (l : List UInt8) : (layD d fs t l).2.2.length ≤ fs.length + 4 := by
  unfold layD
  have h1 := trunc_len d fs t 0
  generalize opTrunc d fs t 0 = o at h1
  obtain ⟨x | op, d2, fs2⟩ := o
  · show (layAr (appO d2 fs2 t l) t l).2.2.length ≤ _
    have h2 := app_len d2 fs2 t l
    generalize appO d2 fs2 t l = o at h2
    obtain ⟨⟨n, x | op⟩, d3, fs3⟩ := o
    · show (if n < (l.length : Int) then layF_ 4 (opRemove d3 fs3 t) else laySr (opSync d3 fs3 t) t).2.2.length ≤ _
      simp only at h1 h2
      split
      · rw [layF_len]; have := remove_len d3 fs3 t; omega
      · have h3 := sync_len d3 fs3 t
        generalize opSync d3 fs3 t = o at h3
        obtain ⟨x | op, d4, fs4⟩ := o
        · show (if x = 0 then ((.inl 0, d4, fs4) : Out) else layF_ 5 (opRemove d4 fs4 t)).2.2.length ≤ _
          simp only at h3
          split
          · show fs4.length ≤ _; omega
          · rw [layF_len]; have := remove_len d4 fs4 t; omega
        · show fs4.length ≤ _; simp only at h3; omega
    · show fs3.length ≤ _; simp only at h1 h2; omega
  · show fs2.length ≤ _; simp only at h1; omega
theorem saveD_len (d : Dk) (fs : Fs) (nm : ByteArray) (n : Int) : (saveD d fs nm n).2.2.length ≤ fs.length + 5 := by
  unfold saveD
  split
  · show fs.length ≤ _; omega
  split
  · have h1 := layD_len d fs (tmpN nm) (bytesD n.toNat)
    generalize layD d fs (tmpN nm) (bytesD n.toNat) = o at h1
    obtain ⟨x | op, d2, fs2⟩ := o
    · show (if x = 0 then opRename d2 fs2 (tmpN nm) nm else ((.inl x, d2, fs2) : Out)).2.2.length ≤ _
      simp only at h1
      split
      · have := rename_len d2 fs2 (tmpN nm) nm; omega
      · show fs2.length ≤ _; omega
    · show fs2.length ≤ _; simp only at h1; omega
  · show fs.length ≤ _; omega
section
variable {w : World} {B D M : Nat} {d : Dk} {F : List Ent}
set_option maxHeartbeats 2000000 in
set_option maxRecDepth 100000 in
theorem saveFnA (h : DkAt w B D M d F) (ok : FsOk d (fsOf F)) (ho : d.ops + 8 ≤ 1152921504606846976) (n : Int) (X Y : Nat) (hX : w.cell? ⟨X, 0, none⟩ = some (pD D)) (hY : w.cell? ⟨Y, 1, none⟩ = some (.int .i64 n)) (hBw : B ≤ w.heap.size) :
    Calls Try.prog 18 #[.pointer (some ⟨X, 0, none⟩), .pointer (some ⟨Y, 0, none⟩)] w (MEnds B D M F w (saveD d (fsOf F) nmC n)) := by
  have HS := Lib.hid (curSave h ok ho nmC (by decide) n hBw)
  clear h ok ho hBw
  go_enter Try.func18, Try.ntmps18
  go_wp2_with (fail)
  refine HS.out.mono ?_
  rintro e w2 ⟨F2, rfl, h2, c2, f2⟩
  have H2 := Lib.hid h2
  have HC2 := Lib.hid c2
  have HF2 := Lib.hid f2
  clear h2 c2 f2 HS hX hY
  generalize saveD d (fsOf F) nmC n = r at *
  obtain ⟨x | op, s⟩ := r
  · dsimp only [endM]
    go_wp2_with (fail)
    go_ret
    exact ⟨F2, rfl, H2.out, HC2.out, HF2.out⟩
  · exact ⟨rfl, F2, rfl, H2.out, HC2.out, HF2.out⟩
theorem okActs : FnOkG 18 := fun args w => Go.MuLone.run_callFunc_enter Try.func18 (by kernel_rfl) rfl args w
/-- a save that Do calls -/
theorem saveDoA (h : DkAt w B D M d F) (ok : FsOk d (fsOf F)) (ho : d.ops + 8 ≤ 1152921504606846976) (n : Int) (X Y : Nat) (hX : w.cell? ⟨X, 0, none⟩ = some (pD D)) (hY : w.cell? ⟨Y, 1, none⟩ = some (.int .i64 n)) (hBw : B ≤ w.heap.size) :
    Calls Try.prog 17 #[.func (.func 18) #[] #[.pointer (some ⟨X, 0, none⟩), .pointer (some ⟨Y, 0, none⟩)]] w fun e w' =>
      ∃ F', e = endDo (saveD d (fsOf F) nmC n).1 ∧ DkAt w' B D M (saveD d (fsOf F) nmC n).2.1 F' ∧ DkCh D M F F' w w' ∧ fsOf F' = (saveD d (fsOf F) nmC n).2.2 := by
  have hX' := World.block_lt_of_cell? w _ hX
  have hY' := World.block_lt_of_cell? w _ hY
  refine (guardDoS _ w (fun x w1 w' => MEnds B D M F w1 (saveD d (fsOf F) nmC n) (.returned (.int .i64 x)) w') (fun op w1 w' => MEnds B D M F w1 (saveD d (fsOf F) nmC n) (.panicked [{ v := crashI op, recovered := false }]) w') ?_).mono ?_
  · intro w1 hb1
    refine ⟨_, _, rfl, okActs, ?_⟩
    refine (saveFnA (h.below hb1) ok ho n X Y ((hb1.cell (p := ⟨X, 0, none⟩) hX').trans hX) ((hb1.cell (p := ⟨Y, 1, none⟩) hY').trans hY) (Nat.le_trans hBw hb1.size)).mono ?_
    rintro e w2 hm
    have hm' := hm
    obtain ⟨F2, he, h2, c2, f2⟩ := hm
    refine ⟨fun b hb hlt => c2.ch.block b hlt (fun hf => by have := (h.foot_lt hf).2; omega), c2.ch.size, ?_⟩
    rw [he] at hm' ⊢
    generalize saveD d (fsOf F) nmC n = r at *
    obtain ⟨x | op, s⟩ := r
    · exact .inl ⟨x, rfl, hm'⟩
    · exact .inr ⟨op, rfl, hm'⟩
  · rintro e w'' ⟨w1, w', hb1, hz, hc, hcase⟩
    have hboth : ∃ F', e = endDo (saveD d (fsOf F) nmC n).1 ∧ DkAt w' B D M (saveD d (fsOf F) nmC n).2.1 F' ∧ DkCh D M F F' w1 w' ∧ fsOf F' = (saveD d (fsOf F) nmC n).2.2 := by
      generalize saveD d (fsOf F) nmC n = r at *
      obtain ⟨x | op, s⟩ := r
      · rcases hcase with ⟨y, rfl, F2, he, h2⟩ | ⟨op, rfl, F2, he, h2⟩
        · simp only [endM, Ending.returned.injEq, Value.int.injEq, true_and] at he
          exact ⟨F2, by rw [he]; rfl, h2⟩
        · simp [endM] at he
      · rcases hcase with ⟨y, rfl, F2, he, h2⟩ | ⟨op, rfl, F2, he, h2⟩
        · simp [endM] at he
        · simp [endM] at he
          exact ⟨F2, by rw [he]; rfl, h2⟩
    obtain ⟨F2, he, h2, c2, f2⟩ := hboth
    have hfoot : ∀ k, DFoot D M F2 k → k < w.heap.size ∨ w1.heap.size ≤ k := fun k hk => by
      rcases hk with hk | hk | hk
      · exact .inl (h.foot_lt (.inl hk)).2
      · exact .inl (h.foot_lt (.inr (.inl hk))).2
      · rcases c2.foot k hk with h5 | h5
        · exact .inl (h.foot_lt (.inr (.inr h5))).2
        · exact .inr h5
    refine ⟨F2, he, h2.ch hc (fun k hk hs => by rcases hfoot k hk with h5 | h5 <;> omega), ?_, f2⟩
    have c1 : DkCh D M F F2 w w' := (DkCh.of_below hb1).trans c2
    exact c1.later hc (fun k hk => hk.1)
end
end Go.Proofs.Ytolomfdommnklaa
