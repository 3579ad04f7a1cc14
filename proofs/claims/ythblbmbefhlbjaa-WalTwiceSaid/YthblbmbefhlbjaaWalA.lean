/- Layer 14: the document's example, walked. -/
import Derived.Test.YthblbmbefhlbjaaWal4
import Derived.Test.YthblbmbefhlbjaaWalP
namespace Go.Proofs.Ythblbmbefhlbjaa
open Go.RowKit Go.MapKept

abbrev nmL : ByteArray := ⟨#[108, 111, 103]⟩
theorem nameL : nameD nmL = true := by decide +kernel
theorem newW_ok (r : Int) (h : 0 ≤ r ∧ r ≤ 1073741824) : FsOk ⟨r, 0, 0, 0, 0, 0⟩ (fsOf []) :=
  ⟨⟨h, by show (0 : Int) ≤ 0 ∧ (0 : Int) ≤ 1073741824; decide, by show (0 : Int) ≤ 0 ∧ (0 : Int) ≤ 1152921504606846976; decide, by show (0 : Int) ≤ 0 ∧ (0 : Int) ≤ 9223372036854775807; decide, by show (0 : Int) ≤ 0 ∧ (0 : Int) ≤ 9223372036854775807; decide, by show (-9223372036854775808 : Int) ≤ 0 ∧ (0 : Int) ≤ 9223372036854775807; decide⟩, rfl, (fun e he => by cases he), by simp [fsOf]⟩
theorem newW_plain (r : Int) (nm : ByteArray) : WPlain ⟨r, 0, 0, 0, 0, 0⟩ (fsOf []) nm [] := ⟨rfl, rfl, ⟨(fun x hx => by cases hx), .inl ⟨rfl, rfl⟩⟩, rfl⟩
theorem walOpen_new {w : World} {B D M : Nat} {r : Int} (hr : 0 ≤ r ∧ r ≤ 1073741824) (h : DkAt w B D M ⟨r, 0, 0, 0, 0, 0⟩ []) (nm : ByteArray) (hs : nm.size ≤ 140737488355328) (hn : nameD nm = true) (hBw : B ≤ w.heap.size) :
    Calls Try.prog 17 #[pD D, .string nm] w fun e w' => ∃ L v, e = .returned (.tuple #[pL L, .int .i64 0]) ∧ LgAt w' B L D M [] nm [] 0 v ∧ DkAt w' B D M ⟨r, 0, 0, 0, 0, 0⟩ [] ∧ DkCh D M [] [] w w' ∧ w.heap.size ≤ L ∧ (∀ k, v.ownBlock = some k → w.heap.size ≤ k) := by
  refine (walOpen h (newW_ok r hr) (by show (0 : Int) + 8 ≤ _; decide) nm hs hn hBw).mono ?_
  rintro e w' ⟨F', h1, h2, h3, h4⟩
  have e1 : openD ⟨r, 0, 0, 0, 0, 0⟩ (fsOf []) nm = (.inl 0, ⟨r, 0, 0, 0, 0, 0⟩, fsOf []) := (openD_whole _ (newW_plain r nm).hw).1
  rw [e1] at h1 h2 h4
  obtain rfl : F' = [] := by
    cases F' with
    | nil => rfl
    | cons a b => simp [fsOf] at h2
  obtain ⟨L, v, he, h5, h6, h7⟩ := h4
  exact ⟨L, v, he, h5, h1, h3, h6, h7⟩
/-- an Add on a disk that does as it is told -/
def addX (room : Int) (rs : List (List UInt8)) (l : List UInt8) : Int × List (List UInt8) :=
  if okLen l.length = false then (9, rs) else if ((recs rs).length : Int) + ((record l).length : Int) ≤ room then (0, rs ++ [l]) else (4, rs)
def AddP (B L D M : Nat) (F : List Ent) (nm : ByteArray) (rs : List (List UInt8)) (v : Value) (d : Dk) (w : World) (l : List UInt8) (e : Ending) (w' : World) : Prop :=
  ∃ F' v' d', e = .returned (.int .i64 (addX d.room rs l).1) ∧ DkAt w' B D M d' F' ∧ LgAt w' B L D M F' nm (addX d.room rs l).2 (recs (addX d.room rs l).2).length v' ∧ WlCh L D M F F' v v' w w' ∧ FsOk d' (fsOf F') ∧ WPlain d' (fsOf F') nm (addX d.room rs l).2 ∧ d'.ops ≤ d.ops + 3 ∧ d'.room = d.room
theorem walAddP {w : World} {B L D M : Nat} {d : Dk} {F : List Ent} {nm : ByteArray} {rs : List (List UInt8)} {v : Value} (h : LgAt w B L D M F nm rs (recs rs).length v) (hd : DkAt w B D M d F) (ok : FsOk d (fsOf F)) (hp : WPlain d (fsOf F) nm rs) (ho : d.ops + 8 ≤ 1152921504606846976) (hs : nm.size ≤ 140737488355328) (hnm : nameD nm = true)
    (A : Option Addr) (n c : Nat) (l : List UInt8) (hl : Bs w A n c l) (hoff : 0 < n → ∀ b, A = some b → ¬ DFoot D M F b.block) (hn : rs.length ≤ 1099511627770) (hBw : B ≤ w.heap.size) :
    Calls Try.prog 13 #[pL L, .slice A n c] w (AddP B L D M F nm rs v d w l) := by
  have hnl := hl.len
  subst hnl
  have hu := ok.ok.used
  have hpu := hp.hu
  refine (walAdd h hd ok ho hs A c l hl hoff (by omega) hn hBw).mono ?_
  rintro e w' ⟨F', v', he, h1, h2, h3, h4⟩
  obtain ⟨hok, hop⟩ := addD_ok ok ho nm (recs rs).length l
  by_cases hk : okLen l.length = true
  · obtain ⟨hr, hx⟩ := addD_plain hp hnm l hk
    have hkf : ¬ okLen l.length = false := by rw [hk]; decide
    rcases hx with ⟨hle, hx, hw⟩ | ⟨hgt, hx, hw⟩
    · have ea : addX d.room rs l = (0, rs ++ [l]) := by unfold addX; rw [if_neg hkf, if_pos hle]
      rw [hx] at he h3
      rw [if_pos rfl, if_pos rfl] at h3
      refine ⟨F', v', _, by rw [ea]; exact he, h1, ?_, h4, by rw [h2]; exact hok, by rw [h2, ea]; exact hw, hop, hr⟩
      rw [ea]
      show LgAt w' B L D M F' nm (rs ++ [l]) (recs (rs ++ [l])).length v'
      rw [recs_snoc, List.length_append]
      exact h3
    · have ea : addX d.room rs l = (4, rs) := by unfold addX; rw [if_neg hkf, if_neg (by omega)]
      rw [hx] at he h3
      rw [if_neg (by intro e; injection e with e; exact absurd e (by decide)), if_neg (by intro e; injection e with e; exact absurd e (by decide))] at h3
      exact ⟨F', v', _, by rw [ea]; exact he, h1, by rw [ea]; exact h3, h4, by rw [h2]; exact hok, by rw [h2, ea]; exact hw, hop, hr⟩
  · have hkf : okLen l.length = false := by simpa using hk
    have ea : addX d.room rs l = (9, rs) := by unfold addX; rw [if_pos hkf]
    have ed : addD d (fsOf F) nm (recs rs).length l = (.inl 9, d, fsOf F) := if_neg hk
    rw [ed] at he h1 h2 h3 hok
    rw [if_neg (by intro e; injection e with e; exact absurd e (by decide)), if_neg (by intro e; injection e with e; exact absurd e (by decide))] at h3
    exact ⟨F', v', d, by rw [ea]; exact he, h1, by rw [ea]; exact h3, h4, by rw [h2]; exact ok, by rw [h2, ea]; exact hp, by omega, rfl⟩

set_option maxRecDepth 100000 in
set_option maxHeartbeats 8000000 in
theorem alive14 (w : World) : Calls Try.prog 9 #[] w (True_ w) := by
  have hcv := fun w C n c => Lib.run_convert_bytes_const (P := Try.prog) w 27 5 C n c Try.underlying27 Try.underlying5
  go_enter Try.func9, Try.ntmps9
  go_wp2_with (fail)
  refine (dkNew 20 (by decide) w).mono ?_
  rintro e w1 ⟨D, M, rfl, h1, hb1⟩
  have H1 := Lib.hid h1
  have HB1 := Lib.hid hb1
  clear h1 hb1
  go_wp2_with (fail)
  refine (walOpen_new (by decide) H1.out nmL (by decide) nameL HB1.out.size).mono ?_
  rintro e w2 ⟨L, v, rfl, hl2, h2, hc2, _, _⟩
  have HB2 := Lib.hid (HB1.out.trans (hc2.below H1.out HB1.out.size))
  have HL2 := Lib.hid hl2
  have H2 := Lib.hid h2
  clear hl2 h2 hc2 H1 HB1
  have hb3 : Below w2.heap.size w2 (w2.alloc (.cells #[.int .u8 49, .int .u8 50, .int .u8 51, .int .u8 52, .int .u8 53] 5 (5, 6))) := (Below.refl _ _).alloc (Nat.le_refl _) _
  have HL3 := Lib.hid (HL2.out.below hb3)
  have H3 := Lib.hid (H2.out.below hb3)
  have HB3 := Lib.hid (HB2.out.trans (hb3.mono HB2.out.size))
  have HBS3 : Hid (Bs (w2.alloc (.cells #[.int .u8 49, .int .u8 50, .int .u8 51, .int .u8 52, .int .u8 53] 5 (5, 6))) (some ⟨w2.heap.size, 0, none⟩) 5 5 [49, 50, 51, 52, 53]) := Lib.hid (Bs.litText w2 [49, 50, 51, 52, 53] 5 _ _ _ _ rfl rfl rfl (by simp [maxLen]))
  have HOF3 : Hid (∀ k, DFoot D M [] k → k < w2.heap.size) := Lib.hid (fun k hk => (H2.out.foot_lt hk).2)
  clear hb3
  go_wp2_with (fail)
  generalize w2.alloc (.cells #[.int .u8 49, .int .u8 50, .int .u8 51, .int .u8 52, .int .u8 53] 5 (5, 6)) = w3 at *
  refine (walAddP HL3.out H3.out (newW_ok 20 (by decide)) (newW_plain 20 nmL) (by show (0 : Int) + 8 ≤ _; decide) (by decide) nameL (some ⟨w2.heap.size, 0, none⟩) 5 5 [49, 50, 51, 52, 53] HBS3.out (fun _ b hb hk => by injection hb with hb; subst hb; have := HOF3.out _ hk; simp only at this; omega) (by decide) HB3.out.size).mono ?_
  rintro e w4 ⟨F4, v4, d4, rfl, h4, hl4, hc4, hok4, hp4, hop4, hr4⟩
  have ea : addX 20 [] [49, 50, 51, 52, 53] = (0, [[49, 50, 51, 52, 53]]) := by decide +kernel
  rw [show (⟨20, 0, 0, 0, 0, 0⟩ : Dk).room = 20 from rfl, ea] at hl4 hp4 ⊢
  rw [show (⟨20, 0, 0, 0, 0, 0⟩ : Dk).room = 20 from rfl] at hr4
  have HB4 := Lib.hid (HB3.out.trans (hc4.below HL3.out H3.out HB3.out.size))
  have H4 := Lib.hid h4
  have HL4 := Lib.hid hl4
  have HP4 := Lib.hid hp4
  have HOK4 := Lib.hid hok4
  have HOP4 : Hid (d4.ops ≤ 3) := Lib.hid (by have : (⟨20, 0, 0, 0, 0, 0⟩ : Dk).ops = 0 := rfl; omega)
  have HR4 := Lib.hid hr4
  clear h4 hl4 hc4 hok4 hp4 hop4 hr4 ea HL3 H3 HB3 HBS3 HOF3 HL2 H2 HB2
  have hb5 : Below w4.heap.size w4 (w4.alloc (.cells #[.int .u8 54, .int .u8 55, .int .u8 56, .int .u8 57, .int .u8 48] 5 (5, 6))) := (Below.refl _ _).alloc (Nat.le_refl _) _
  have HL5 := Lib.hid (HL4.out.below hb5)
  have H5 := Lib.hid (H4.out.below hb5)
  have HB5 := Lib.hid (HB4.out.trans (hb5.mono HB4.out.size))
  have HBS5 : Hid (Bs (w4.alloc (.cells #[.int .u8 54, .int .u8 55, .int .u8 56, .int .u8 57, .int .u8 48] 5 (5, 6))) (some ⟨w4.heap.size, 0, none⟩) 5 5 [54, 55, 56, 57, 48]) := Lib.hid (Bs.litText w4 [54, 55, 56, 57, 48] 5 _ _ _ _ rfl rfl rfl (by simp [maxLen]))
  have HOF5 : Hid (∀ k, DFoot D M F4 k → k < w4.heap.size) := Lib.hid (fun k hk => (H4.out.foot_lt hk).2)
  clear hb5
  go_wp2_with (fail)
  generalize w4.alloc (.cells #[.int .u8 54, .int .u8 55, .int .u8 56, .int .u8 57, .int .u8 48] 5 (5, 6)) = w5 at *
  refine (walAddP HL5.out H5.out HOK4.out HP4.out (by have := HOP4.out; omega) (by decide) nameL (some ⟨w4.heap.size, 0, none⟩) 5 5 [54, 55, 56, 57, 48] HBS5.out (fun _ b hb hk => by injection hb with hb; subst hb; have := HOF5.out _ hk; simp only at this; omega) (by decide) HB5.out.size).mono ?_
  rintro e w6 ⟨F6, v6, d6, rfl, h6, hl6, hc6, hok6, hp6, hop6, hr6⟩
  have ea : addX 20 [[49, 50, 51, 52, 53]] [54, 55, 56, 57, 48] = (4, [[49, 50, 51, 52, 53]]) := by decide +kernel
  rw [HR4.out, ea] at hl6 hp6 ⊢
  have HB6 := Lib.hid (HB5.out.trans (hc6.below HL5.out H5.out HB5.out.size))
  have HU : Hid (d6.used = 13) := Lib.hid (by rw [hp6.hu]; decide +kernel)
  have HG : Hid ((recs [[49, 50, 51, 52, 53]]).length = 13) := Lib.hid (by decide +kernel)
  have H6 := Lib.hid h6
  have HL6 := Lib.hid hl6
  clear h6 hl6 hc6 hok6 hp6 hop6 hr6 ea HL5 H5 HB5 HBS5 HOF5 HL4 H4 HB4 hcv
  go_wp2_with (fail)
  refine (dkUsed H6.out).mono ?_
  rintro e w7 ⟨rfl, rfl⟩
  rw [HU.out]
  go_wp2_with (fail)
  refine (walLen HL6.out).mono ?_
  rintro e w7 ⟨rfl, rfl⟩
  go_wp2_with (fail)
  refine (walGood HL6.out).mono ?_
  rintro e w7 ⟨rfl, rfl⟩
  rw [HG.out]
  go_wp2_with (fail)
  go_ret
  exact ⟨rfl, HB6.out⟩
end Go.Proofs.Ythblbmbefhlbjaa
