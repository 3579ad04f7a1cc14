/- WalNone, walked. -/
import Derived.Test.YthblbmbefhlbjaaWalA
import Derived.Test.YthblbmbefhlbjaaRefName
namespace Go.Proofs.Ythblbmbefhlbjaa
open Go.RowKit Go.MapKept

section
variable (w : World)
set_option maxRecDepth 100000 in
theorem nilAddW (A : Option Addr) (n c : Nat) : Calls Try.prog 13 #[.pointer none, .slice A n c] w fun e w' => e = .returned (.int .i64 1) ∧ w' = w := by
  go_enter Try.func13, Try.ntmps13
  go_wp2_with (fail)
  go_ret
  exact ⟨rfl, rfl⟩
set_option maxRecDepth 100000 in
theorem nilLenW : Calls Try.prog 14 #[.pointer none] w fun e w' => e = .returned (.int .i64 0) ∧ w' = w := by
  go_enter Try.func14, Try.ntmps14
  go_wp2_with (fail)
  go_ret
  exact ⟨rfl, rfl⟩
set_option maxRecDepth 100000 in
theorem nilGoodW : Calls Try.prog 15 #[.pointer none] w fun e w' => e = .returned (.int .i64 0) ∧ w' = w := by
  go_enter Try.func15, Try.ntmps15
  go_wp2_with (fail)
  go_ret
  exact ⟨rfl, rfl⟩
set_option maxRecDepth 100000 in
theorem nilGetW (i : Int) : Calls Try.prog 16 #[.pointer none, .int .i64 i] w fun e w' => e = .returned (.tuple #[.slice none 0 0, .int .i64 1]) ∧ w' = w := by
  go_enter Try.func16, Try.ntmps16
  go_wp2_with (fail)
  go_ret2
  exact ⟨rfl, rfl⟩
set_option maxRecDepth 100000 in
theorem nilOpenW (nm : ByteArray) : Calls Try.prog 17 #[.pointer none, .string nm] w fun e w' => e = .returned (.tuple #[.pointer none, .int .i64 1]) ∧ w' = w := by
  go_enter Try.func17, Try.ntmps17
  go_wp2_with (fail)
  go_ret2
  exact ⟨rfl, rfl⟩
set_option maxRecDepth 100000 in
theorem fnRightBig (x : ByteArray) (h2 : 32 < x.size) : Calls Try.prog 43 #[.string x] w fun e w' => e = .returned (.bool (nameD x)) ∧ w = w' := by
  have d1 : decide ((x.size : Int) < 1) = false := by simp; omega
  have d2 : decide ((32 : Int) < (x.size : Int)) = true := by simp; omega
  have HN : Hid (nameD x = false) := Lib.hid (by unfold nameD; simp; omega)
  clear h2
  go_enter Try.func43, Try.ntmps43
  go_wp2
  go_ret
  exact ⟨by rw [HN.out]; rfl, rfl⟩
theorem fnRightAny (x : ByteArray) : Calls Try.prog 43 #[.string x] w fun e w' => e = .returned (.bool (nameD x)) ∧ w = w' := by
  by_cases h : 32 < x.size
  · exact fnRightBig w x h
  · exact fnRight x w (by omega)
set_option maxRecDepth 100000 in
theorem refNameBig (x : ByteArray) (h2 : 32 < x.size) : Calls Try.prog 19 #[.string x] w fun e w' => e = .returned (.bool (nameD x)) ∧ w = w' := by
  have d1 : decide ((x.size : Int) < 1) = false := by simp; omega
  have d3 : decide ((1 : Int) ≤ (x.size : Int)) = true := by simp; omega
  have d0 : ((x.size : Int) == 0) = false := by rw [beq_eq_false_iff_ne]; omega
  have d2 : decide ((32 : Int) < (x.size : Int)) = true := by simp; omega
  have HN : Hid (nameD x = false) := Lib.hid (by unfold nameD; simp; omega)
  clear h2
  go_enter Try.func19, Try.ntmps19
  go_wp2
  go_ret
  exact ⟨by rw [HN.out]; rfl, rfl⟩
theorem refNameAny (x : ByteArray) : Calls Try.prog 19 #[.string x] w fun e w' => e = .returned (.bool (nameD x)) ∧ w = w' := by
  by_cases h : 32 < x.size
  · exact refNameBig w x h
  · exact refName x w (by omega)
set_option maxRecDepth 100000 in
theorem walOpen_name (D : Nat) (nm : ByteArray) (hn : nameD nm = false) : Calls Try.prog 17 #[pD D, .string nm] w fun e w' => e = .returned (.tuple #[.pointer none, .int .i64 16]) ∧ w' = w := by
  have HN := Lib.hid hn
  clear hn
  go_enter Try.func17, Try.ntmps17
  go_wp2_with (fail)
  refine (fnRightAny w nm).mono ?_
  rintro e w1 ⟨rfl, rfl⟩
  rw [HN.out]
  go_wp2_with (fail)
  go_ret2
  exact ⟨rfl, rfl⟩
end
theorem walAddLong {w : World} {B L D M g : Nat} {d : Dk} {F : List Ent} {nm : ByteArray} {rs : List (List UInt8)} {v : Value} (h : LgAt w B L D M F nm rs g v) (hd : DkAt w B D M d F) (ok : FsOk d (fsOf F)) (ho : d.ops + 8 ≤ 1152921504606846976) (hs : nm.size ≤ 140737488355328) (A : Option Addr) (n c : Nat) (l : List UInt8) (hl : Bs w A n c l)
    (hoff : 0 < n → ∀ b, A = some b → ¬ DFoot D M F b.block) (hg : g ≤ 1099511000000) (hn : rs.length ≤ 1099511627770) (hBw : B ≤ w.heap.size) (hk : okLen n = false) :
    Calls Try.prog 13 #[pL L, .slice A n c] w fun e w' => e = .returned (.int .i64 9) ∧ ∃ F' v', DkAt w' B D M d F' ∧ fsOf F' = fsOf F ∧ LgAt w' B L D M F' nm rs g v' ∧ WlCh L D M F F' v v' w w' := by
  have hnl := hl.len
  subst hnl
  refine (walAdd h hd ok ho hs A c l hl hoff hg hn hBw).mono ?_
  rintro e w' ⟨F', v', he, h1, h2, h3, h4⟩
  have ed : addD d (fsOf F) nm g l = (.inl 9, d, fsOf F) := if_neg (by rw [hk]; decide)
  rw [ed] at he h1 h2 h3
  rw [if_neg (by intro e; injection e with e; exact absurd e (by decide)), if_neg (by intro e; injection e with e; exact absurd e (by decide))] at h3
  exact ⟨he, F', v', h1, h2, h3, h4⟩
theorem fs_nil {F : List Ent} (h : fsOf F = fsOf []) : F = [] := by
  cases F with
  | nil => rfl
  | cons a b => simp [fsOf] at h
theorem addX_none (r : Int) (rs : List (List UInt8)) : addX r rs [] = (9, rs) := rfl
theorem addX_long (r : Int) (rs : List (List UInt8)) (l : List UInt8) (h : 65536 < l.length) : addX r rs l = (9, rs) := by
  unfold addX
  rw [if_pos]
  unfold okLen
  simp
  omega
set_option maxHeartbeats 8000000 in
set_option maxRecDepth 100000 in
theorem walNone_walk (nm : ByteArray) (A : Option Addr) (n c : Nat) (l : List UInt8) (w : World) (_hs : nm.size ≤ maxLen) (_hB : Bs w A n c l) (_hc : c ≤ 140737488351232) : Calls Try.prog 4 #[.string nm, .slice A n c] w (True_ w) := by
  obtain ⟨Z, HZ, hzl, hmk⟩ := mk_zeros 65537 65537 rfl (by decide)
  have HZL := Lib.hid hzl
  clear hzl _hB
  go_enter Try.func4, Try.ntmps4
  go_wp2_with (fail)
  refine (nilAddW w A n c).mono ?_
  rintro e w1 ⟨rfl, rfl⟩
  go_wp2_with (fail)
  refine (nilLenW w1).mono ?_
  rintro e w2 ⟨rfl, rfl⟩
  go_wp2_with (fail)
  refine (nilGoodW w2).mono ?_
  rintro e w1 ⟨rfl, rfl⟩
  go_wp2_with (fail)
  refine (nilGetW w1 0).mono ?_
  rintro e w2 ⟨rfl, rfl⟩
  go_wp2_with (fail)
  refine (nilOpenW w2 nm).mono ?_
  rintro e w ⟨rfl, rfl⟩
  go_wp2_with (fail)
  refine (dkNew 1073741824 (by decide) w).mono ?_
  rintro e w1 ⟨D, M, rfl, h1, hb1⟩
  have H1 := Lib.hid h1
  have HB1 := Lib.hid hb1
  clear h1 hb1
  go_wp2_with (fail)
  refine (alive14 w1).mono ?_
  rintro e w2 ⟨rfl, hb2⟩
  have H2 := Lib.hid (H1.out.below hb2)
  have HB2 : Hid (Below w.heap.size w w2) := Lib.hid (HB1.out.trans (hb2.mono HB1.out.size))
  clear hb2 H1 HB1
  go_wp2_with (fail)
  cases hn : nameD nm
  · have HN := Lib.hid hn
    refine (walOpen_name w2 D nm hn).mono ?_
    rintro e w3 ⟨rfl, rfl⟩
    clear hn
    go_wp2_with (fail)
    refine (refNameAny w3 nm).mono ?_
    rintro e w4 ⟨rfl, rfl⟩
    rw [HN.out]
    go_wp2_with (fail)
    go_ret
    exact ⟨rfl, HB2.out⟩
  · have HN := Lib.hid hn
    have hs32 : nm.size ≤ 32 := by
      unfold nameD at hn
      simp at hn
      omega
    have HS := Lib.hid hs32
    refine (walOpen_new (by decide) H2.out nm (by have := HS.out; omega) hn HB2.out.size).mono ?_
    rintro e w3 ⟨L, v, rfl, hl3, h3, hc3, _, _⟩
    have HB3 := Lib.hid (HB2.out.trans (hc3.below H2.out HB2.out.size))
    have HL3 := Lib.hid hl3
    have H3 := Lib.hid h3
    clear hn hs32 hl3 h3 hc3 H2 HB2
    go_wp2_with (fail)
    refine (refNameAny w3 nm).mono ?_
    rintro e w4 ⟨rfl, rfl⟩
    rw [HN.out]
    go_wp2_with (fail)
    refine (walLen HL3.out).mono ?_
    rintro e w4 ⟨rfl, rfl⟩
    go_wp2_with (fail)
    refine (dkOps H3.out).mono ?_
    rintro e w5 ⟨rfl, rfl⟩
    go_wp2_with (fail)
    refine (walAddLong HL3.out H3.out (newW_ok 1073741824 (by decide)) (by show (0 : Int) + 8 ≤ _; decide) (by have := HS.out; omega) none 0 0 [] (Bs.nil _ 0 none (by simp [maxLen])) (fun h => absurd h (by decide)) (by decide) (by decide) HB3.out.size (by decide)).mono ?_
    rintro e w5 ⟨rfl, F5, v5, h5, hf5, hl5, hc5⟩
    obtain rfl := fs_nil hf5
    have HB5 := Lib.hid (HB3.out.trans (hc5.below HL3.out H3.out HB3.out.size))
    have HL5 := Lib.hid hl5
    have H5 := Lib.hid h5
    clear hf5 hl5 h5 hc5 HL3 H3 HB3
    have hb6 : Below w5.heap.size w5 (w5.alloc (.cells (u8s Z).toArray 5)) := (Below.refl _ _).alloc (Nat.le_refl _) _
    have HL6 := Lib.hid (HL5.out.below hb6)
    have H6 := Lib.hid (H5.out.below hb6)
    have HB6 := Lib.hid (HB5.out.trans (hb6.mono HB5.out.size))
    have HBS6 : Hid (Bs (w5.alloc (.cells (u8s Z).toArray 5)) (some ⟨w5.heap.size, 0, none⟩) 65537 65537 Z) := Lib.hid (Bs.block (heap_alloc_new w5 _) HZL.out (by simp [maxLen]))
    have HOF6 : Hid (∀ k, DFoot D M [] k → k < w5.heap.size) := Lib.hid (fun k hk => (H5.out.foot_lt hk).2)
    clear hb6
    go_wp2_with (fail)
    generalize w5.alloc (.cells (u8s Z).toArray 5) = w6 at *
    refine (walAddLong HL6.out H6.out (newW_ok 1073741824 (by decide)) (by show (0 : Int) + 8 ≤ _; decide) (by have := HS.out; omega) (some ⟨w5.heap.size, 0, none⟩) 65537 65537 Z HBS6.out (fun _ b hb hk => by injection hb with hb; subst hb; have := HOF6.out _ hk; simp only at this; omega) (by decide) (by decide) HB6.out.size (by decide)).mono ?_
    rintro e w7 ⟨rfl, F7, v7, h7, hf7, hl7, hc7⟩
    obtain rfl := fs_nil hf7
    have HB7 := Lib.hid (HB6.out.trans (hc7.below HL6.out H6.out HB6.out.size))
    have H7 := Lib.hid h7
    clear hf7 hl7 h7 hc7 HL6 H6 HB6 HBS6 HOF6 HL5 H5 HB5 hmk
    go_wp2_with (fail)
    refine (dkOps H7.out).mono ?_
    rintro e w8 ⟨rfl, rfl⟩
    go_wp2_with (fail)
    go_ret
    exact ⟨rfl, HB7.out⟩
end Go.Proofs.Ythblbmbefhlbjaa
