/- Layer 13: the document's Put and Get, walked. -/
import Derived.Test.YtamjcihhilmppaaEntryTurnsMath
import Derived.Test.YtamjcihhilmppaaEntryGet
import Derived.Test.YtamjcihhilmppaaCrcRef
import Derived.Test.YtamjcihhilmppaaHeldMore
import Derived.Test.YtamjcihhilmppaaRowsG
namespace Go.Proofs.Ytamjcihhilmppaa
open Go.RowKit

set_option maxRecDepth 100000 in
set_option maxHeartbeats 2000000 in
theorem refPut13 (A : Option Addr) (n c : Nat) (l : List UInt8) (w : World) (hB : Bs w A n c l) (hn : n ≤ 1000000000) :
    Calls Try.prog 28 #[.slice A n c] w (RetS (record l) w) := by
  have HB := Lib.hid hB
  have HL : l.length = n := hB.len
  have hx : n < 4294967296 := by omega
  have hw32 : IntKind.u32.wrap (n : Int) = (n : Int) := by rw [IntKind.wrap_u32]; omega
  have hs := Crc.sum_lt (s := 0) (be4 n ++ l) (by omega)
  have HLH := Lib.hid HL
  clear hB HL
  go_enter Try.func28, Try.ntmps28
  go_wp2_with (fail)
  refine (refFour n w hx).mono ?_
  rintro e w' ⟨p, q, r, s, hbe, rfl, rfl⟩
  have HBE := Lib.hid hbe
  have HB1 : Hid (Below w.heap.size w (w.alloc (.cells #[.int .u8 (p.toNat : Int), .int .u8 (q.toNat : Int), .int .u8 (r.toNat : Int), .int .u8 (s.toNat : Int)] 5))) := Lib.hid ((Below.refl _ _).alloc (Nat.le_refl _) _)
  have HF1 := Lib.hid (Bs.lit w [p, q, r, s] 5 #[.int .u8 (p.toNat : Int), .int .u8 (q.toNat : Int), .int .u8 (r.toNat : Int), .int .u8 (s.toNat : Int)] w.heap.size rfl rfl rfl (by simp [maxLen]))
  rw [show ([p, q, r, s] : List UInt8).length = 4 from rfl] at HF1
  clear hbe
  have HBL := Lib.hid (HB.out.below HB1.out)
  obtain ⟨g0, hg0⟩ : ∃ g0, w.heap.size = g0 := ⟨_, rfl⟩
  rw [hg0] at HF1 HB1 ⊢
  have HG0 := Lib.hid hg0
  have HZ1 : Hid (g0 ≤ (w.alloc (.cells #[.int .u8 (p.toNat : Int), .int .u8 (q.toNat : Int), .int .u8 (r.toNat : Int), .int .u8 (s.toNat : Int)] 5)).heap.size) := Lib.hid (by have := HB1.out.size; rw [hg0] at this; exact this)
  clear hg0
  generalize (w.alloc (.cells #[.int .u8 (p.toNat : Int), .int .u8 (q.toNat : Int), .int .u8 (r.toNat : Int), .int .u8 (s.toNat : Int)] 5)) = w1 at *
  have tok1 : True := trivial
  have tok2 : True := trivial
  go_wp2_with (first
    | (at_builtin; have _t := tok1; go_loud ((refine wpList_app rfl (.tmp 9) (.tmp 10) 22 rfl w1.heap.size 5 Try.underlying22 byteInfo _ [] rfl (Own.lit 5 w1 [] (Nat.le_refl _) (by simp [maxLen])) _ 4 4 [p, q, r, s] rfl (HF1.out.alloc _) (by simp) (by simp) ?_; intro v2 w2 hown2 hb2 hg2; have b2 := (((Below.refl _ w1).alloc (Nat.le_refl _) _)).trans hb2; clear tok1 hb2 hg2 _t)))
    | (at_builtin; have _t := tok2; go_loud ((refine wpList_app rfl (.tmp 11) (.tmp 12) 22 rfl w1.heap.size 5 Try.underlying22 byteInfo _ ([] ++ [p, q, r, s]) rfl hown2 _ n c l rfl (HBL.out.below b2) (by simp; omega) b2.size ?_; intro v3 w3 hown3 hb3 hg3; have b3 := b2.trans hb3; clear tok2 hb3 hg3 _t))))
  have hE : ([] ++ [p, q, r, s] ++ l : List UInt8) = be4 n ++ l := by rw [HBE.out]; rfl
  rw [hE] at hown3
  obtain ⟨A3, c3, rfl, hB3, _⟩ := hown3.bs
  have hEL : (be4 n ++ l).length = n + 4 := by simp [be4, HLH.out]; try omega
  rw [hEL] at hB3 ⊢
  have HB3 := Lib.hid (HB1.out.trans (b3.mono HZ1.out))
  have HF3 := Lib.hid (HF1.out.below b3)
  have HZ3 := Lib.hid b3.size
  have HBL3 := Lib.hid (HBL.out.below b3)
  have HX3 := Lib.hid hB3
  have HSL := Lib.hid hEL
  clear hB3 hown3 b3 b2 hown2 hE hEL
  refine (refSum A3 (n + 4) c3 (be4 n ++ l) w3 HX3.out).mono ?_
  rintro e w' ⟨rfl, rfl⟩
  have HREC : Hid (record l = [] ++ [p, q, r, s] ++ be4 (Crc.sum 0 (be4 n ++ l)) ++ l) := Lib.hid (by unfold record; rw [HLH.out, HBE.out]; rfl)
  generalize Crc.sum 0 (be4 n ++ l) = x at *
  have tok3 : True := trivial
  have tok4 : True := trivial
  have tok5 : True := trivial
  go_wp2_with (at_builtin; have _t := tok3; go_loud ((refine wpList_app rfl (.tmp 15) (.tmp 16) 22 rfl w3.heap.size 5 Try.underlying22 byteInfo _ [] rfl (Own.lit 5 w3 [] (Nat.le_refl _) (by simp [maxLen])) _ 4 4 [p, q, r, s] rfl (HF3.out.alloc _) (by simp) (by simp) ?_; intro v4 w4 hown4 hb4 hg4; have b4 := (((Below.refl _ w3).alloc (Nat.le_refl _) _)).trans hb4; clear tok3 hb4 hg4 _t)))
  refine (refFour x w4 hs).mono ?_
  rintro e w' ⟨p2, q2, r2, s2, hbe2, rfl, rfl⟩
  have HBE2 := Lib.hid hbe2
  have HO5 := Lib.hid (hown4.alloc (.cells #[.int .u8 (p2.toNat : Int), .int .u8 (q2.toNat : Int), .int .u8 (r2.toNat : Int), .int .u8 (s2.toNat : Int)] 5))
  have HB4 := Lib.hid b4
  have hz4 := b4.size
  clear hbe2 hown4 b4
  go_wp2_with (first
    | (at_builtin; have _t := tok4; go_loud ((refine wpList_app rfl (.tmp 17) (.tmp 19) 22 rfl w3.heap.size 5 Try.underlying22 byteInfo _ ([] ++ [p, q, r, s]) rfl HO5.out _ 4 4 [p2, q2, r2, s2] rfl (Bs.lit w4 [p2, q2, r2, s2] _ _ _ rfl rfl rfl (by simp [maxLen])) (by simp) (by simp; omega) ?_; intro v5 w5 hown5 hb5 hg5; have b5 := (HB4.out.alloc HB4.out.size _).trans hb5; clear tok4 hb5 hg5 _t)))
    | (at_builtin; have _t := tok5; go_loud ((refine wpList_app rfl (.tmp 20) (.tmp 21) 22 rfl w3.heap.size 5 Try.underlying22 byteInfo _ ([] ++ [p, q, r, s] ++ [p2, q2, r2, s2]) rfl hown5 _ n c l rfl (HBL3.out.below b5) (by simp; omega) b5.size ?_; intro v6 w6 hown6 hb6 hg6; have b6 := b5.trans hb6; clear tok5 hb6 hg6 _t))))
  go_ret
  have e : [] ++ [p, q, r, s] ++ [p2, q2, r2, s2] ++ l = record l := by rw [HREC.out, HBE2.out]
  rw [e] at hown6
  obtain ⟨A7, c7, rfl, hB7, _⟩ := hown6.bs
  have h0 := HB3.out.trans (b6.mono (Nat.le_trans HZ1.out HZ3.out))
  exact ⟨A7, c7, rfl, hB7, by rw [HG0.out]; exact h0⟩

theorem beNum_four (p q r s : UInt8) : (beNum [p, q, r, s] : Int) = (p.toNat : Int) * 16777216 + q.toNat * 65536 + r.toNat * 256 + s.toNat := by
  simp only [beNum, List.foldl_cons, List.foldl_nil]
  omega
theorem record_take {l : List UInt8} (h8 : 8 ≤ l.length) (_hok : okLen (beNum (l.take 4)) = true) (hk : beNum (l.take 4) ≤ l.length - 8) :
    record ((l.drop 8).take (beNum (l.take 4))) = l.take (8 + beNum (l.take 4)) ↔ Crc.sum 0 (l.take 4 ++ (l.drop 8).take (beNum (l.take 4))) = beNum ((l.drop 4).take 4) := by
  have h4 : (l.take 4).length = 4 := by rw [List.length_take]; omega
  have h5 : ((l.drop 4).take 4).length = 4 := by rw [List.length_take, List.length_drop]; omega
  have hl : ((l.drop 8).take (beNum (l.take 4))).length = beNum (l.take 4) := by rw [List.length_take, List.length_drop]; omega
  have hb := be4_beNum h4
  have hs := Crc.sum_lt (s := 0) (l.take 4 ++ (l.drop 8).take (beNum (l.take 4))) (by omega)
  have hsplit : l.take (8 + beNum (l.take 4)) = l.take 4 ++ (l.drop 4).take 4 ++ (l.drop 8).take (beNum (l.take 4)) := by
    have e1 : l.take (8 + beNum (l.take 4)) = l.take 8 ++ (l.drop 8).take (beNum (l.take 4)) := List.take_add
    have e2 : l.take (4 + 4) = l.take 4 ++ (l.drop 4).take 4 := List.take_add
    rw [e1, show 8 = 4 + 4 from rfl, e2]
  have e : record ((l.drop 8).take (beNum (l.take 4))) = l.take 4 ++ be4 (Crc.sum 0 (l.take 4 ++ (l.drop 8).take (beNum (l.take 4)))) ++ (l.drop 8).take (beNum (l.take 4)) := by
    unfold record
    rw [hl, hb]
  rw [hsplit, e]
  constructor
  · intro h
    have h1 := List.append_inj_left (List.append_cancel_right h) rfl
    have h2 : be4 (Crc.sum 0 (l.take 4 ++ (l.drop 8).take (beNum (l.take 4)))) = (l.drop 4).take 4 := List.append_cancel_left (List.append_cancel_right h)
    rw [← h2, beNum_be4 hs]
  · intro h
    rw [h, be4_beNum h5]

set_option maxRecDepth 100000 in
set_option maxHeartbeats 4000000 in
theorem refGet13 (A : Option Addr) (n c : Nat) (l : List UInt8) (w : World) (hB : Bs w A n c l) (hn : n ≤ 1000000000) :
    Calls Try.prog 22 #[.slice A n c] w (RetGN (getGet l) (getLen l) (getErr l) w) := by
  have hlen := hB.len
  have hcm := hB.max
  have hle := hB.le
  by_cases h8 : n < 8
  · have e : getErr l = 7 := by unfold getErr; rw [if_pos (by omega)]
    rw [(get_err e (by omega)).1, (get_err e (by omega)).2, e]
    clear e hlen hB
    go_enter Try.func22, Try.ntmps22
    go_wp2
    go_ret3
    exact RetGN.none (Below.refl _ _)
  obtain ⟨b, o, rfl, hb, _⟩ := hB.at_ (by omega)
  have H4 := Lib.hid (hB.take (j := 4) (by omega))
  have h6 := hB.drop (i := 8) (by omega)
  rw [Option.map_some, Addr.add_lit] at h6
  obtain ⟨k, hk⟩ : ∃ k, n = k + 8 := ⟨n - 8, by omega⟩
  subst hk
  rw [show k + 8 - 8 = k from by omega] at h6
  obtain ⟨R, hR⟩ : ∃ R, (if c = 8 then some (⟨b, o, none⟩ : Addr) else some ⟨b, o + 8, none⟩) = R := ⟨_, rfl⟩
  rw [hR] at h6
  have H6 := Lib.hid h6
  have HB := Lib.hid hB
  obtain ⟨p, q, r, s, h4⟩ := four H4.out.len
  have HH4 : Hid (l.take 4 = [p, q, r, s]) := Lib.hid h4
  have hnum := beNum_four p q r s
  rw [← h4] at hnum
  have HNUM := Lib.hid hnum
  have HE : Hid (getErr l = if okLen (beNum (l.take 4)) = false then 9 else if k < beNum (l.take 4) then 7 else if Crc.sum 0 (l.take 4 ++ (l.drop 8).take (beNum (l.take 4))) = beNum ((l.drop 4).take 4) then 0 else 8) := by
    show getErr l = _
    unfold getErr
    rw [if_neg (by omega), hlen, show k + 8 - 8 = k from by omega]
  have HG : Hid (getErr l = 0 → getGet l = (l.drop 8).take (beNum (l.take 4)) ∧ getLen l = 8 + beNum (l.take 4)) := fun h => ⟨by unfold getGet; rw [if_pos h], by unfold getLen; rw [if_pos h]⟩
  have HRT : Hid (okLen (beNum (l.take 4)) = true → beNum (l.take 4) ≤ k → (record ((l.drop 8).take (beNum (l.take 4))) = l.take (8 + beNum (l.take 4)) ↔ Crc.sum 0 (l.take 4 ++ (l.drop 8).take (beNum (l.take 4))) = beNum ((l.drop 4).take 4))) := Lib.hid (fun h1 h2 => record_take (by omega) h1 (by omega))
  have HN4 := Lib.hid (fun (W : World) (h : Bs W (some ⟨b, o, none⟩) 4 c (l.take 4)) => refNumber (some ⟨b, o, none⟩) c p q r s W (by rw [← h4]; exact h))
  rw [← hnum] at HN4
  generalize beNum (l.take 4) = x at *
  generalize beNum ((l.drop 4).take 4) = y at *
  clear hB h6 h4 hnum hlen
  by_cases hx : okLen x = false
  · have e := HE.out
    rw [if_pos hx] at e
    rw [(get_err e (by omega)).1, (get_err e (by omega)).2, e]
    have HX := okLen_no hx
    clear e hx
    by_cases hx1 : x < 1
    · have hx0 : x = 0 := by omega
      subst hx0
      clear HX hx1
      go_enter Try.func22, Try.ntmps22
      go_wp2_with (fail)
      refine (HN4.out w H4.out).mono ?_
      rintro e w' ⟨rfl, m, rfl⟩
      go_wp2_with (fail)
      go_ret3
      exact RetGN.none (drawN_below (Below.refl _ _) _)
    · have hx2 : 65536 < x := by omega
      clear HX
      go_enter Try.func22, Try.ntmps22
      go_wp2_with (fail)
      refine (HN4.out w H4.out).mono ?_
      rintro e w' ⟨rfl, m, rfl⟩
      go_wp2_with (fail)
      go_ret3
      exact RetGN.none (drawN_below (Below.refl _ _) _)
  have hok : okLen x = true := by cases h : okLen x with
    | true => rfl
    | false => exact absurd h hx
  have hx2 := okLen_yes hok
  have e := HE.out
  rw [if_neg hx] at e
  have hx1 := hx2.1
  have hx3 := hx2.2
  clear hx hx2
  by_cases hk : k < x
  · rw [if_pos hk] at e
    rw [(get_err e (by omega)).1, (get_err e (by omega)).2, e]
    clear e
    go_enter Try.func22, Try.ntmps22
    go_wp2_with (fail)
    refine (HN4.out w H4.out).mono ?_
    rintro e w' ⟨rfl, m, rfl⟩
    go_wp2_with (fail)
    go_ret3
    exact RetGN.none (drawN_below (Below.refl _ _) _)
  rw [if_neg hk] at e
  have hRT := HRT.out hok (by omega)
  have HOK := Lib.hid hok
  obtain ⟨j, hj⟩ : ∃ j, j = 8 + x := ⟨_, rfl⟩
  have HX6 := Lib.hid (H6.out.take (j := x) (by omega))
  have HT := Lib.hid (HB.out.take (j := j) (by omega))
  rw [← hj] at hRT
  have hji : (8 : Int) + (x : Int) = (j : Int) := by omega
  have hjx : j - 8 = x := by omega
  have hj8 : 8 ≤ j := by omega
  have hjc : j ≤ c := by omega
  have hjci : (j : Int) ≤ (c : Int) := by omega
  have hkx : ¬ (k : Int) < (x : Int) := by omega
  have hwj : IntKind.i64.wrap (j : Int) = (j : Int) := IntWalk.i64_in _ (by omega)
  have hj80 : (8 : Int) ≤ (j : Int) := by omega
  have HJ : Hid (j = 8 + x) := Lib.hid hj
  have HKX : Hid (¬ k < x) := Lib.hid hk
  clear hj hk HRT hok
  generalize hX : (l.drop 8).take x = X at *
  generalize hT : l.take j = tk at *
  have HXX := Lib.hid hX
  have HTT := Lib.hid hT
  have HRT := Lib.hid hRT
  have HEE := Lib.hid e
  clear hX hT hRT e
  have HOKK := HOK
  by_cases hs : Crc.sum 0 (l.take 4 ++ X) = y
  · have hrec := HRT.out.2 hs
    have e := HEE.out
    rw [if_pos hs] at e
    have HEE := Lib.hid e
    have hg := HG.out e
    have HG1 := Lib.hid hg
    clear hs e hg
    go_enter Try.func22, Try.ntmps22
    go_wp2_with (fail)
    refine (HN4.out w H4.out).mono ?_
    rintro e w' ⟨rfl, m, rfl⟩
    have HBD : Hid (Below w.heap.size w (w.drewN m)) := Lib.hid (drawN_below (Below.refl _ _) m)
    generalize w.drewN m = w1 at *
    have HZ1 := Lib.hid HBD.out.size
    go_wp2_with (fail)
    refine wp_region_held_drew (S := fun w' => (convert 22 9 (.slice (some ⟨b, o, none⟩) j c)).run Try.prog w' = .ok (.string (txt tk)) w') (by kernel_rfl) ?_ (fun hHeld => ?_)
    · exact ((HT.out.below HBD.out).drew).str (P := Try.prog) 22 5 9 Try.underlying22 Try.underlying5 Try.underlying9
    refine wpAnyH_take (i := 0) (oi := _) (v := ?v1) rfl (by kernel_rfl) (by kernel_rfl) (by kernel_rfl) (fun _ _ _ h => h) (Or.inl ⟨by rfl, ?hy1⟩) hHeld ?rest1
    case hy1 =>
      intro w hSw
      (try dsimp only at hSw)
      go_simp
      (try with_reducible rfl)
    (try simp only [Act.put])
    refine wpAnyH_take (i := 1) (oi := _) (v := ?v2) rfl (by kernel_rfl) (by kernel_rfl) (by kernel_rfl) (fun _ _ _ h => h) (Or.inl ⟨by rfl, ?hy2⟩) hHeld ?rest2
    case hy2 =>
      intro w hSw
      (try dsimp only at hSw)
      go_simp
      (try with_reducible rfl)
    (try simp only [Act.put])
    refine wpAnyH_take (i := 2) (oi := _) (v := ?v3) rfl (by kernel_rfl) (by kernel_rfl) (by kernel_rfl) (fun _ _ _ h => h) (Or.inl ⟨by rfl, ?hy3⟩) hHeld ?rest3
    case hy3 =>
      intro w hSw
      (try dsimp only at hSw)
      go_simp
      (try with_reducible rfl)
    (try simp only [Act.put])
    refine wpAnyH_take (i := 3) (oi := _) (v := ?v4) rfl (by kernel_rfl) (by kernel_rfl) (by kernel_rfl) (fun _ _ _ h => h) (Or.inl ⟨by rfl, ?hy4⟩) hHeld ?rest4
    case hy4 =>
      intro w hSw
      (try dsimp only at hSw)
      go_simp
      (try with_reducible rfl)
    (try simp only [Act.put])
    refine wpAnyH_take (i := 6) (oi := _) (v := ?v5) rfl (by kernel_rfl) (by kernel_rfl) (by kernel_rfl) (fun _ _ _ h => h) (Or.inl ⟨by rfl, ?hy5⟩) hHeld ?rest5
    case hy5 =>
      intro w hSw
      (try dsimp only at hSw)
      go_simp
      (try with_reducible rfl)
    (try simp only [Act.put])
    refine wpAnyH_take (i := 7) (oi := _) (v := ?v6) rfl (by kernel_rfl) (by kernel_rfl) (by kernel_rfl) (fun _ _ _ h => h) (Or.inl ⟨by rfl, ?hy6⟩) hHeld ?rest6
    case hy6 =>
      intro w hSw
      (try dsimp only at hSw)
      go_simp
      (try with_reducible rfl)
    (try simp only [Act.put])
    refine wpAnyH_take (i := 8) (oi := _) (v := ?v7) rfl (by kernel_rfl) (by kernel_rfl) (by kernel_rfl) (fun _ _ _ h => h) (Or.inl ⟨by rfl, ?hy7⟩) hHeld ?rest7
    case hy7 =>
      intro w hSw
      (try dsimp only at hSw)
      go_simp
      (try with_reducible rfl)
    (try simp only [Act.put])
    refine wpAnyH_take (i := 9) (oi := _) (v := ?v8) rfl (by kernel_rfl) (by kernel_rfl) (by kernel_rfl) (fun _ _ _ h => h) (Or.inl ⟨by rfl, ?hy8⟩) hHeld ?rest8
    case hy8 =>
      intro w hSw
      (try dsimp only at hSw)
      go_simp
      (try with_reducible rfl)
    (try simp only [Act.put])
    refine wpAnyH_take (i := 10) (oi := _) (v := ?v9) rfl (by kernel_rfl) (by kernel_rfl) (by kernel_rfl) (fun _ _ _ h => h) (Or.inl ⟨by rfl, ?hy9⟩) hHeld ?rest9
    case hy9 =>
      intro w hSw
      (try dsimp only at hSw)
      go_simp
      (try with_reducible rfl)
    (try simp only [Act.put])
    refine wpAnyH_ready (rs := [4]) (by kernel_rfl) (by simp) (AllReadyH.cons (o := _) rfl (fun K hK => ?_) AllReadyH.nil)
    go_simp
    refine (refPut13 R x (c - 8) X _ ((HX6.out.below HBD.out).drew) (by omega)).mono ?_
    rintro e w2 ⟨A2, c2, rfl, hB2, hb2⟩
    rw [hrec] at hB2 ⊢
    have HB2 : Hid (Below w.heap.size w w2) := Lib.hid ((HBD.out.drew).trans (hb2.mono HZ1.out))
    dsimp only
    refine hK.out _ _ ?_ (fun hHeld => ?_)
    · exact (HT.out.below HB2.out).str (P := Try.prog) 22 5 9 Try.underlying22 Try.underlying5 Try.underlying9
    clear hK K
    have hHeld : (convert 22 9 (.slice (some ⟨b, o, none⟩) j c)).run Try.prog w2 = .ok (.string (txt tk)) w2 ∧ (convert 22 9 (.slice A2 tk.length c2)).run Try.prog w2 = .ok (.string (txt tk)) w2 := ⟨hHeld, hB2.str (P := Try.prog) 22 5 9 Try.underlying22 Try.underlying5 Try.underlying9⟩
    refine wpAnyH_imp (S' := fun w' => (convert 22 9 (.slice (some ⟨b, o, none⟩) j c)).run Try.prog w' = .ok (.string (txt tk)) w' ∧ (convert 22 9 (.slice A2 tk.length c2)).run Try.prog w' = .ok (.string (txt tk)) w') (fun _ h => h.1) _ _ _ _ ?_
    refine wpAnyH_take (i := 5) (oi := _) (v := ?v10) rfl (by kernel_rfl) (by kernel_rfl) (by kernel_rfl) (fun _ _ _ h => h) (Or.inl ⟨by rfl, ?hy10⟩) hHeld ?rest10
    case hy10 =>
      intro w hSw
      (try dsimp only at hSw)
      go_simp
      (try with_reducible rfl)
    (try simp only [Act.put])
    refine wpAnyH_take (i := 11) (oi := _) (v := ?v11) rfl (by kernel_rfl) (by kernel_rfl) (by kernel_rfl) (fun _ _ _ h => h) (Or.inl ⟨by rfl, ?hy11⟩) hHeld ?rest11
    case hy11 =>
      intro w hSw
      (try dsimp only at hSw)
      go_simp
      (try with_reducible rfl)
    (try simp only [Act.put])
    refine wpAnyH_done (by kernel_rfl) ?_ _
    have tok1 : True := trivial
    have hRR : R = some ⟨b, o + 8, none⟩ := by rw [← hR, if_neg (by omega)]
    have HXB := Lib.hid (HX6.out.below HB2.out)
    rw [hRR] at HXB
    clear hRR
    go_wp2_with (at_builtin; have _t := tok1; go_loud ((refine wpList_app rfl (.tmp 35) (.tmp 39) 22 rfl w2.heap.size 5 Try.underlying22 byteInfo _ [] rfl (Own.lit 5 w2 [] (Nat.le_refl _) (by simp [maxLen])) (some ⟨b, o + 8, none⟩) x (c - 8) X rfl (HXB.out.alloc _) (by simp; omega) (by simp) ?_; intro v4 w4 hown4 hb4 hg4; have b4 := (((Below.refl _ w2).alloc (Nat.le_refl _) _)).trans hb4; rw [List.nil_append] at hown4; obtain ⟨A4, c4, rfl, hB4, hlo4⟩ := hown4.bs; clear tok1 hb4 hg4 _t)))
    go_ret3
    rw [HG1.out.1, HG1.out.2, HEE.out]
    exact ⟨A4, c4, by rw [show ((8 + x : Nat) : Int) = (j : Int) from by omega]; rfl, hB4, fun b hb => Nat.le_trans HB2.out.size (hlo4 b hb), HB2.out.trans (b4.mono HB2.out.size)⟩
  · have hrec : (record X == tk) = false := by rw [beq_eq_false_iff_ne]; exact fun h => hs (HRT.out.1 h)
    have e := HEE.out
    rw [if_neg hs] at e
    rw [(get_err e (by omega)).1, (get_err e (by omega)).2, e]
    clear hs e
    go_enter Try.func22, Try.ntmps22
    go_wp2_with (fail)
    refine (HN4.out w H4.out).mono ?_
    rintro e w' ⟨rfl, m, rfl⟩
    have HBD : Hid (Below w.heap.size w (w.drewN m)) := Lib.hid (drawN_below (Below.refl _ _) m)
    generalize w.drewN m = w1 at *
    have HZ1 := Lib.hid HBD.out.size
    go_wp2_with (fail)
    refine wp_region_held_drew (S := fun w' => (convert 22 9 (.slice (some ⟨b, o, none⟩) j c)).run Try.prog w' = .ok (.string (txt tk)) w') (by kernel_rfl) ?_ (fun hHeld => ?_)
    · exact ((HT.out.below HBD.out).drew).str (P := Try.prog) 22 5 9 Try.underlying22 Try.underlying5 Try.underlying9
    refine wpAnyH_take (i := 0) (oi := _) (v := ?v12) rfl (by kernel_rfl) (by kernel_rfl) (by kernel_rfl) (fun _ _ _ h => h) (Or.inl ⟨by rfl, ?hy12⟩) hHeld ?rest12
    case hy12 =>
      intro w hSw
      (try dsimp only at hSw)
      go_simp
      (try with_reducible rfl)
    (try simp only [Act.put])
    refine wpAnyH_take (i := 1) (oi := _) (v := ?v13) rfl (by kernel_rfl) (by kernel_rfl) (by kernel_rfl) (fun _ _ _ h => h) (Or.inl ⟨by rfl, ?hy13⟩) hHeld ?rest13
    case hy13 =>
      intro w hSw
      (try dsimp only at hSw)
      go_simp
      (try with_reducible rfl)
    (try simp only [Act.put])
    refine wpAnyH_take (i := 2) (oi := _) (v := ?v14) rfl (by kernel_rfl) (by kernel_rfl) (by kernel_rfl) (fun _ _ _ h => h) (Or.inl ⟨by rfl, ?hy14⟩) hHeld ?rest14
    case hy14 =>
      intro w hSw
      (try dsimp only at hSw)
      go_simp
      (try with_reducible rfl)
    (try simp only [Act.put])
    refine wpAnyH_take (i := 3) (oi := _) (v := ?v15) rfl (by kernel_rfl) (by kernel_rfl) (by kernel_rfl) (fun _ _ _ h => h) (Or.inl ⟨by rfl, ?hy15⟩) hHeld ?rest15
    case hy15 =>
      intro w hSw
      (try dsimp only at hSw)
      go_simp
      (try with_reducible rfl)
    (try simp only [Act.put])
    refine wpAnyH_take (i := 6) (oi := _) (v := ?v16) rfl (by kernel_rfl) (by kernel_rfl) (by kernel_rfl) (fun _ _ _ h => h) (Or.inl ⟨by rfl, ?hy16⟩) hHeld ?rest16
    case hy16 =>
      intro w hSw
      (try dsimp only at hSw)
      go_simp
      (try with_reducible rfl)
    (try simp only [Act.put])
    refine wpAnyH_take (i := 7) (oi := _) (v := ?v17) rfl (by kernel_rfl) (by kernel_rfl) (by kernel_rfl) (fun _ _ _ h => h) (Or.inl ⟨by rfl, ?hy17⟩) hHeld ?rest17
    case hy17 =>
      intro w hSw
      (try dsimp only at hSw)
      go_simp
      (try with_reducible rfl)
    (try simp only [Act.put])
    refine wpAnyH_take (i := 8) (oi := _) (v := ?v18) rfl (by kernel_rfl) (by kernel_rfl) (by kernel_rfl) (fun _ _ _ h => h) (Or.inl ⟨by rfl, ?hy18⟩) hHeld ?rest18
    case hy18 =>
      intro w hSw
      (try dsimp only at hSw)
      go_simp
      (try with_reducible rfl)
    (try simp only [Act.put])
    refine wpAnyH_take (i := 9) (oi := _) (v := ?v19) rfl (by kernel_rfl) (by kernel_rfl) (by kernel_rfl) (fun _ _ _ h => h) (Or.inl ⟨by rfl, ?hy19⟩) hHeld ?rest19
    case hy19 =>
      intro w hSw
      (try dsimp only at hSw)
      go_simp
      (try with_reducible rfl)
    (try simp only [Act.put])
    refine wpAnyH_take (i := 10) (oi := _) (v := ?v20) rfl (by kernel_rfl) (by kernel_rfl) (by kernel_rfl) (fun _ _ _ h => h) (Or.inl ⟨by rfl, ?hy20⟩) hHeld ?rest20
    case hy20 =>
      intro w hSw
      (try dsimp only at hSw)
      go_simp
      (try with_reducible rfl)
    (try simp only [Act.put])
    refine wpAnyH_ready (rs := [4]) (by kernel_rfl) (by simp) (AllReadyH.cons (o := _) rfl (fun K hK => ?_) AllReadyH.nil)
    go_simp
    refine (refPut13 R x (c - 8) X _ ((HX6.out.below HBD.out).drew) (by omega)).mono ?_
    rintro e w2 ⟨A2, c2, rfl, hB2, hb2⟩
    have HB2 : Hid (Below w.heap.size w w2) := Lib.hid ((HBD.out.drew).trans (hb2.mono HZ1.out))
    dsimp only
    refine hK.out _ _ ?_ (fun hHeld => ?_)
    · exact (HT.out.below HB2.out).str (P := Try.prog) 22 5 9 Try.underlying22 Try.underlying5 Try.underlying9
    clear hK K
    have hHeld : (convert 22 9 (.slice (some ⟨b, o, none⟩) j c)).run Try.prog w2 = .ok (.string (txt tk)) w2 ∧ (convert 22 9 (.slice A2 (record X).length c2)).run Try.prog w2 = .ok (.string (txt (record X))) w2 := ⟨hHeld, hB2.str (P := Try.prog) 22 5 9 Try.underlying22 Try.underlying5 Try.underlying9⟩
    refine wpAnyH_imp (S' := fun w' => (convert 22 9 (.slice (some ⟨b, o, none⟩) j c)).run Try.prog w' = .ok (.string (txt tk)) w' ∧ (convert 22 9 (.slice A2 (record X).length c2)).run Try.prog w' = .ok (.string (txt (record X))) w') (fun _ h => h.1) _ _ _ _ ?_
    refine wpAnyH_take (i := 5) (oi := _) (v := ?v21) rfl (by kernel_rfl) (by kernel_rfl) (by kernel_rfl) (fun _ _ _ h => h) (Or.inl ⟨by rfl, ?hy21⟩) hHeld ?rest21
    case hy21 =>
      intro w hSw
      (try dsimp only at hSw)
      go_simp
      (try with_reducible rfl)
    (try simp only [Act.put])
    refine wpAnyH_take (i := 11) (oi := _) (v := ?v22) rfl (by kernel_rfl) (by kernel_rfl) (by kernel_rfl) (fun _ _ _ h => h) (Or.inl ⟨by rfl, ?hy22⟩) hHeld ?rest22
    case hy22 =>
      intro w hSw
      (try dsimp only at hSw)
      go_simp
      (try with_reducible rfl)
    (try simp only [Act.put])
    refine wpAnyH_done (by kernel_rfl) ?_ _
    go_wp2_with (fail)
    go_ret3
    exact RetGN.none HB2.out
end Go.Proofs.Ytamjcihhilmppaa
