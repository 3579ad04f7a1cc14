/- Layer 15: a number that is saved is told; the law's examples. -/
import Derived.Test.YtolomfdommnklaaCur5
namespace Go.Proofs.Ytolomfdommnklaa
open Go.RowKit Go.MapKept

theorem bytesD_open (n : Nat) : openOk (bytesD n) = true := by
  unfold openOk
  rw [show (bytesD n).length = 12 from rfl, show (bytesD n).take (12 - 4) = be8 n from rfl, show (bytesD n).drop (12 - 4) = be4 (Crc.sum 0 (be8 n)) from rfl]
  simp
theorem valD_be8 {n : Nat} (h : n ≤ 1099511627776) : valD (be8 n) = n := by
  simp only [valD, be8, List.foldl_cons, List.foldl_nil, UInt8.toNat_ofNat']
  omega
theorem numD_bytes {n : Nat} (h : n ≤ 1099511627776) : numD (bytesD n) = ((n : Int), 0) := by
  have hg : openGet (bytesD n) = be8 n := by unfold openGet; rw [if_pos (bytesD_open n)]; rfl
  unfold numD
  rw [if_neg (by rw [show (bytesD n).length = 12 from rfl]; decide), if_neg (by rw [bytesD_open]; decide), hg, valD_be8 h, if_neg (by omega)]
theorem fget_app_new : ∀ {fs : Fs} {t : ByteArray} (v : Fl), fget fs t = none → fget (fs ++ [(t, v)]) t = some v
  | [], t, v, _ => by simp [fget]
  | (a, u) :: r, t, v, h => by
    unfold fget at h
    split at h
    · cases h
    · rename_i hne
      rw [List.cons_append]
      unfold fget
      rw [if_neg hne]
      exact fget_app_new v h
theorem fput_app_new : ∀ {fs : Fs} {t : ByteArray} (v u : Fl), fget fs t = none → fput (fs ++ [(t, v)]) t u = fs ++ [(t, u)]
  | [], t, v, u, _ => by simp [fput]
  | (a, x) :: r, t, v, u, h => by
    unfold fget at h
    split at h
    · cases h
    · rename_i hne
      rw [List.cons_append]
      unfold fput
      rw [if_neg hne, fput_app_new v u h]; rfl
theorem fdel_app_ne : ∀ {fs : Fs} {t nm : ByteArray} (v : Fl), nm ≠ t → fdel (fs ++ [(t, v)]) nm = fdel fs nm ++ [(t, v)]
  | [], t, nm, v, h => by simp [fdel, h]
  | (a, x) :: r, t, nm, v, h => by
    rw [List.cons_append]
    unfold fdel
    split
    · rfl
    · rw [fdel_app_ne v h]; rfl
theorem fdel_app_new : ∀ {fs : Fs} {t : ByteArray} (v : Fl), fget fs t = none → fdel (fs ++ [(t, v)]) t = fs
  | [], t, v, _ => by simp [fdel]
  | (a, x) :: r, t, v, h => by
    unfold fget at h
    split at h
    · cases h
    · rename_i hne
      rw [List.cons_append]
      unfold fdel
      rw [if_neg hne, fdel_app_new v h]
theorem fget_app_ne : ∀ {fs : Fs} {t nm : ByteArray} (v : Fl), nm ≠ t → fget (fs ++ [(t, v)]) nm = fget fs nm
  | [], t, nm, v, h => by simp [fget, h]
  | (a, x) :: r, t, nm, v, h => by
    rw [List.cons_append]
    unfold fget
    split
    · rfl
    · exact fget_app_ne v h
theorem flen_app_ne {fs : Fs} {t nm : ByteArray} (v : Fl) (h : nm ≠ t) : flen (fs ++ [(t, v)]) nm = flen fs nm := by
  unfold flen; rw [fget_app_ne v h]
theorem tmpN_ne (nm : ByteArray) : nm ≠ tmpN nm := fun e => by
  have := congrArg ByteArray.size e
  rw [tmpN_size] at this; omega
/-- a save on a disk that is as it should be, and has room -/
theorem saveD_good {d : Dk} {fs : Fs} {nm : ByteArray} {n : Nat} (hn : n ≤ 1099511627776) (h1 : nameD nm = true) (h2 : nameD (tmpN nm) = true) (ha : d.armedIn = 0) (hf : d.failIn = 0) (hr : d.used + 12 ≤ d.room) (hno : fget fs (tmpN nm) = none) :
    saveD d fs nm (n : Int) = (.inl 0, { d with used := d.used + 12 - (flen fs nm : Int), ops := d.ops + 3 }, fdel fs nm ++ [(nm, ⟨bytesD n, 12⟩)]) := by
  have hne := tmpN_ne nm
  unfold saveD
  rw [if_neg (by rw [h1, h2]; decide), if_pos ⟨by omega, by omega⟩, Int.toNat_natCast]
  generalize hb : bytesD n = l
  have hl : l.length = 12 := by rw [← hb]; rfl
  have e1 : opTrunc d fs (tmpN nm) 0 = (.inl 6, d, fs) := by unfold opTrunc; rw [hno]
  have hN : appN d 12 = 12 := by unfold appN; omega
  have hb0 : d.begin = { d with ops := d.ops + 1 } := by unfold Dk.begin; rw [if_pos ha]; cases d; simp at ha; simp [ha]
  have e2 : appO d fs (tmpN nm) l = ((12, .inl 0), { d with used := d.used + 12, ops := d.ops + 1 }, fs ++ [(tmpN nm, ⟨l, 0⟩)]) := by
    unfold appO
    rw [if_neg (by rw [h2]; decide), if_neg (by rw [ha]; decide), hl, hN, hb0]
    have : appE d 12 = 0 := by unfold appE; rw [hN]; rfl
    rw [this]
    unfold layF
    rw [hno, List.take_of_length_le (by omega), fput_new _ hno]
    rfl
  have e3 : opSync { d with used := d.used + 12, ops := d.ops + 1 } (fs ++ [(tmpN nm, ⟨l, 0⟩)]) (tmpN nm) = (.inl 0, { d with used := d.used + 12, ops := d.ops + 2 }, fs ++ [(tmpN nm, ⟨l, 12⟩)]) := by
    unfold opSync
    rw [fget_app_new _ hno]
    simp only
    rw [fput_app_new _ _ hno]
    unfold opChange
    rw [if_neg (by rw [ha]; decide)]
    obtain ⟨r, u, o, fl, ar, ak⟩ := d
    simp only at ha hf
    subst ha hf
    simp only [Dk.syncs, Dk.begin, syncErr, syncFl, if_true]
    rw [hl]
    simp only [show ((0 : Int) == 1) = false from rfl, Bool.false_eq_true, if_false]
    congr 2
    congr 1
    omega
  have e4 : opRename { d with used := d.used + 12, ops := d.ops + 2 } (fs ++ [(tmpN nm, ⟨l, 12⟩)]) (tmpN nm) nm = (.inl 0, { d with used := d.used + 12 - (flen fs nm : Int), ops := d.ops + 3 }, fdel fs nm ++ [(nm, ⟨l, 12⟩)]) := by
    unfold opRename
    rw [fget_app_new _ hno]
    simp only
    rw [if_neg (by rw [h1]; decide), if_neg (fun e => hne e.symm), flen_app_ne _ hne, fdel_app_ne _ hne, fdel_app_new _ (by rw [fget_fdel_ne hne]; exact hno)]
    unfold opChange
    rw [if_neg (by rw [ha]; decide)]
    obtain ⟨r, u, o, fl, ar, ak⟩ := d
    simp only at ha hf
    subst ha hf
    simp only [Dk.begin, if_true]
    congr 2
    congr 1
    omega
  unfold layD
  rw [e1]
  show saveL (layAr (appO d fs (tmpN nm) l) (tmpN nm) l) nm = _
  rw [e2]
  show saveL (if (12 : Int) < (l.length : Int) then _ else laySr (opSync { d with used := d.used + 12, ops := d.ops + 1 } (fs ++ [(tmpN nm, ⟨l, 0⟩)]) (tmpN nm)) (tmpN nm)) nm = _
  rw [if_neg (by rw [hl]; decide), e3]
  exact e4
abbrev nmC : ByteArray := ⟨#[99]⟩
theorem nameC : nameD nmC = true ∧ nameD (tmpN nmC) = true := by decide +kernel
theorem newDk_ok (r : Int) (h : 0 ≤ r ∧ r ≤ 1073741824) : FsOk ⟨r, 0, 0, 0, 0, 0⟩ (fsOf []) :=
  ⟨⟨h, ⟨by simp, by simp⟩, ⟨by simp, by simp⟩, ⟨by simp, by simp⟩, ⟨by simp, by simp⟩, ⟨by simp, by simp⟩⟩, rfl, fun e he => (by cases he), List.nodup_nil⟩
set_option maxHeartbeats 4000000 in
set_option maxRecDepth 100000 in
theorem curAlive (w : World) : Calls Try.prog 12 #[] w (True_ w) := by
  go_enter Try.func12, Try.ntmps12
  go_wp2_with (fail)
  refine (curBytes 258 (by decide) w).mono ?_
  rintro e w1 ⟨g, rfl, hg, hrow, hb1⟩
  have HR1 := Lib.hid hrow
  have HB1 := Lib.hid hb1
  clear hg hrow hb1
  go_wp2_with (fail)
  refine (dkNew 100 (by decide) w1).mono ?_
  rintro e w2 ⟨D, M, rfl, h2, hb2⟩
  have hrow2 := (hb2.block g (Array.getElem?_eq_some_iff.1 HR1.out).1).trans HR1.out
  have H2 := Lib.hid h2
  have HB2 : Hid (Below w.heap.size w w2) := Lib.hid (HB1.out.trans (hb2.mono HB1.out.size))
  have HZ2 : Hid (w1.heap.size ≤ w2.heap.size) := Lib.hid hb2.size
  have HWZ : Hid (w.heap.size ≤ w1.heap.size) := Lib.hid HB1.out.size
  have hcv := (Bs.of_block (n := 8) (c := 12) (cur := u8s (bytesD 258)) (l := be8 258) hrow2 rfl rfl (by decide) (by decide)).str (P := Try.prog) 22 5 9 Try.underlying22 Try.underlying5 Try.underlying9
  rw [show txt (be8 258) = (⟨#[0, 0, 0, 0, 0, 0, 1, 2]⟩ : ByteArray) from by decide +kernel] at hcv
  clear h2 hb2 hrow2 HR1 HB1
  go_wp2_with (fail)
  clear hcv
  have hok := newDk_ok 100 (by decide)
  refine (curSave H2.out hok (by decide) nmC (by decide) 7 HZ2.out).mono ?_
  rw [show saveD ⟨100, 0, 0, 0, 0, 0⟩ (fsOf []) nmC 7 = (.inl 0, ⟨100, 12, 3, 0, 0, 0⟩, [(nmC, ⟨bytesD 7, 12⟩)]) from saveD_good (n := 7) (by decide) nameC.1 nameC.2 rfl rfl (by decide) rfl]
  rintro e w3 ⟨F3, he, h3, hc3, hf3⟩
  obtain rfl : e = .returned (.int .i64 0) := he
  have H3 := Lib.hid h3
  have HB3 : Hid (Below w.heap.size w w3) := Lib.hid (HB2.out.trans ((DkCh.below H2.out hc3 HZ2.out).mono HWZ.out))
  have HF3 := Lib.hid hf3
  have HL3 : Hid (FileLens F3) := Lib.hid (fun e he => by
    have h1 : (e.nm, e.f) ∈ fsOf F3 := List.mem_map.2 ⟨e, he, rfl⟩
    rw [hf3] at h1
    have h2 := List.mem_singleton.1 h1
    injection h2 with _ h2
    rw [h2]
    decide)
  clear h3 hc3 hf3 hok
  go_wp2_with (fail)
  refine (curLoad H3.out HL3.out nmC).mono ?_
  rw [show loadD (fsOf F3) nmC = (7, 0) from by rw [HF3.out]; exact numD_bytes (n := 7) (by decide)]
  rintro e w4 ⟨rfl, hb4⟩
  have H4 := Lib.hid (H3.out.below hb4)
  have HB4 : Hid (Below w.heap.size w w4) := Lib.hid (HB3.out.trans (hb4.mono HB3.out.size))
  clear hb4
  go_wp2_with (fail)
  refine (dkUsed H4.out).mono ?_
  rintro e w5 ⟨rfl, rfl⟩
  go_wp2_with (fail)
  go_ret
  exact ⟨rfl, HB4.out⟩
end Go.Proofs.Ytolomfdommnklaa
