/- Layer 15: Save and Load, walked. -/
import Derived.Test.YtolomfdommnklaaCur4
namespace Go.Proofs.Ytolomfdommnklaa
open Go.RowKit Go.MapKept

/-- the name that a file has till its number is laid as a whole -/
def tmpN (nm : ByteArray) : ByteArray := nm ++ ⟨#[46, 116, 109, 112]⟩
theorem tmpN_size (nm : ByteArray) : (tmpN nm).size = nm.size + 4 := by unfold tmpN; simp [ByteArray.size_append]; rfl
def saveL (r : Out) (nm : ByteArray) : Out :=
  match r with
  | (.inr op, s) => (.inr op, s)
  | (.inl x, s) => if x = 0 then opRename s.1 s.2 (tmpN nm) nm else (.inl x, s)
def saveD (d : Dk) (fs : Fs) (nm : ByteArray) (n : Int) : Out :=
  if nameD nm = false ∨ nameD (tmpN nm) = false then (.inl 16, d, fs)
  else if 0 ≤ n ∧ n ≤ 1099511627776 then saveL (layD d fs (tmpN nm) (bytesD n.toNat)) nm else (.inl 3, d, fs)
def loadD (fs : Fs) (nm : ByteArray) : Int × Int := match fget fs nm with | none => (0, 0) | some f => numD f.bs
theorem layF_ok {x : Int} {r : Out} {k : Int} (h : FsOk r.2.1 r.2.2) (ho : r.2.1.ops ≤ k) : FsOk (layF_ x r).2.1 (layF_ x r).2.2 ∧ (layF_ x r).2.1.ops ≤ k := by
  obtain ⟨y | op, d, fs⟩ := r
  · exact ⟨h, ho⟩
  · exact ⟨h, ho⟩
theorem layD_ok {d : Dk} {fs : Fs} (ok : FsOk d fs) (ho : d.ops + 8 ≤ 1152921504606846976) (nm : ByteArray) (l : List UInt8) : FsOk (layD d fs nm l).2.1 (layD d fs nm l).2.2 ∧ (layD d fs nm l).2.1.ops ≤ d.ops + 4 := by
  unfold layD
  have h1 := trunc_ok ok (by omega) nm 0
  have o1 := trunc_ops d fs nm 0
  generalize opTrunc d fs nm 0 = r at h1 o1
  obtain ⟨x | op, d2, fs2⟩ := r
  · have o1' : d2.ops ≤ d.ops + 1 := o1
    show FsOk (layAr (appO d2 fs2 nm l) nm l).2.1 (layAr (appO d2 fs2 nm l) nm l).2.2 ∧ (layAr (appO d2 fs2 nm l) nm l).2.1.ops ≤ d.ops + 4
    have h2 := app_ok h1 (by show d2.ops + 1 ≤ _; omega) nm l
    have o2 := app_ops d2 fs2 nm l
    generalize appO d2 fs2 nm l = r at h2 o2
    obtain ⟨⟨n, y | op⟩, d3, fs3⟩ := r
    · have o2' : d3.ops ≤ d2.ops + 1 := o2
      show FsOk (if n < (l.length : Int) then layF_ 4 (opRemove d3 fs3 nm) else laySr (opSync d3 fs3 nm) nm).2.1 (if n < (l.length : Int) then layF_ 4 (opRemove d3 fs3 nm) else laySr (opSync d3 fs3 nm) nm).2.2 ∧ (if n < (l.length : Int) then layF_ 4 (opRemove d3 fs3 nm) else laySr (opSync d3 fs3 nm) nm).2.1.ops ≤ d.ops + 4
      split
      · exact layF_ok (remove_ok h2 (by show d3.ops + 1 ≤ _; omega) nm) (by have := remove_ops d3 fs3 nm; omega)
      · have h3 := sync_ok h2 (by show d3.ops + 1 ≤ _; omega) nm
        have o3 := sync_ops d3 fs3 nm
        generalize opSync d3 fs3 nm = r at h3 o3
        obtain ⟨x2 | op, d4, fs4⟩ := r
        · have o3' : d4.ops ≤ d3.ops + 1 := o3
          show FsOk (if x2 = 0 then ((.inl 0, d4, fs4) : Out) else layF_ 5 (opRemove d4 fs4 nm)).2.1 (if x2 = 0 then ((.inl 0, d4, fs4) : Out) else layF_ 5 (opRemove d4 fs4 nm)).2.2 ∧ (if x2 = 0 then ((.inl 0, d4, fs4) : Out) else layF_ 5 (opRemove d4 fs4 nm)).2.1.ops ≤ d.ops + 4
          split
          · exact ⟨h3, by show d4.ops ≤ _; omega⟩
          · exact layF_ok (remove_ok h3 (by show d4.ops + 1 ≤ _; omega) nm) (by have := remove_ops d4 fs4 nm; omega)
        · exact ⟨h3, by have o3' : d4.ops ≤ d3.ops + 1 := o3; show d4.ops ≤ _; omega⟩
    · exact ⟨h2, by have o2' : d3.ops ≤ d2.ops + 1 := o2; show d3.ops ≤ _; omega⟩
  · exact ⟨h1, by have o1' : d2.ops ≤ d.ops + 1 := o1; show d2.ops ≤ _; omega⟩
theorem saveD_ok {d : Dk} {fs : Fs} (ok : FsOk d fs) (ho : d.ops + 8 ≤ 1152921504606846976) (nm : ByteArray) (n : Int) : FsOk (saveD d fs nm n).2.1 (saveD d fs nm n).2.2 ∧ (saveD d fs nm n).2.1.ops ≤ d.ops + 5 := by
  unfold saveD
  split
  · exact ⟨ok, by show d.ops ≤ _; omega⟩
  split
  · obtain ⟨h1, o1⟩ := layD_ok ok ho (tmpN nm) (bytesD n.toNat)
    generalize layD d fs (tmpN nm) (bytesD n.toNat) = r at h1 o1
    obtain ⟨x | op, d2, fs2⟩ := r
    · have o1' : d2.ops ≤ d.ops + 4 := o1
      show FsOk (if x = 0 then opRename d2 fs2 (tmpN nm) nm else ((.inl x, d2, fs2) : Out)).2.1 (if x = 0 then opRename d2 fs2 (tmpN nm) nm else ((.inl x, d2, fs2) : Out)).2.2 ∧ (if x = 0 then opRename d2 fs2 (tmpN nm) nm else ((.inl x, d2, fs2) : Out)).2.1.ops ≤ d.ops + 5
      split
      · exact ⟨rename_ok h1 (by show d2.ops + 1 ≤ _; omega) _ _, by have := rename_ops d2 fs2 (tmpN nm) nm; omega⟩
      · exact ⟨h1, by show d2.ops ≤ _; omega⟩
    · exact ⟨h1, by have o1' : d2.ops ≤ d.ops + 4 := o1; show d2.ops ≤ _; omega⟩
  · exact ⟨ok, by show d.ops ≤ _; omega⟩
theorem curTemp (nm : ByteArray) (hs : nm.size ≤ 140737488355000) (w : World) : Calls Try.prog 13 #[.string nm] w fun e w' => e = .returned (.string (tmpN nm)) ∧ w = w' := by
  have h1 : ¬ 9223372036854775807 < nm.size + 4 := by omega
  have HT : Hid (tmpN nm = nm ++ ⟨#[46, 116, 109, 112]⟩) := Lib.hid rfl
  go_enter Try.func13, Try.ntmps13
  go_wp2_with (fail)
  go_ret
  rw [HT.out]
  exact ⟨rfl, rfl⟩
section
variable {w : World} {B D M : Nat} {d : Dk} {F : List Ent}
set_option maxHeartbeats 4000000 in
set_option maxRecDepth 100000 in
theorem curSave (h : DkAt w B D M d F) (ok : FsOk d (fsOf F)) (ho : d.ops + 8 ≤ 1152921504606846976) (nm : ByteArray) (hs : nm.size ≤ 140737488355000) (n : Int) (hBw : B ≤ w.heap.size) :
    Calls Try.prog 19 #[pD D, .string nm, .int .i64 n] w (MEnds B D M F w (saveD d (fsOf F) nm n)) := by
  have H := Lib.hid h
  have OK := Lib.hid ok
  have HO := Lib.hid ho
  have HBW := Lib.hid hBw
  have HE : Hid (saveD d (fsOf F) nm n = if nameD nm = false ∨ nameD (tmpN nm) = false then (.inl 16, d, fsOf F) else if 0 ≤ n ∧ n ≤ 1099511627776 then saveL (layD d (fsOf F) (tmpN nm) (bytesD n.toNat)) nm else (.inl 3, d, fsOf F)) := Lib.hid rfl
  have HSZ : Hid (nm.size ≤ 140737488355000) := Lib.hid hs
  clear h ok ho hBw hs
  go_enter Try.func19, Try.ntmps19
  go_wp2_with (fail)
  refine (curTemp nm HSZ.out w).mono ?_
  rintro e w1 ⟨rfl, rfl⟩
  go_wp2_with (fail)
  refine (fnRight nm w (by have := HSZ.out; omega)).mono ?_
  rintro e w1 ⟨rfl, rfl⟩
  cases hn : nameD nm
  · have HE2 : Hid (saveD d (fsOf F) nm n = (.inl 16, d, fsOf F)) := Lib.hid (by rw [HE.out, if_pos (.inl hn)])
    go_wp2_with (fail)
    go_ret
    rw [HE2.out]
    exact ⟨F, rfl, H.out, DkCh.refl D M F w, rfl⟩
  · go_wp2_with (fail)
    refine (fnRight (tmpN nm) w (by rw [tmpN_size]; have := HSZ.out; omega)).mono ?_
    rintro e w1 ⟨rfl, rfl⟩
    cases ht : nameD (tmpN nm)
    · have HE2 : Hid (saveD d (fsOf F) nm n = (.inl 16, d, fsOf F)) := Lib.hid (by rw [HE.out, if_pos (.inr ht)])
      go_wp2_with (fail)
      go_ret
      rw [HE2.out]
      exact ⟨F, rfl, H.out, DkCh.refl D M F w, rfl⟩
    · go_wp2_with (fail)
      by_cases hr : 0 ≤ n ∧ n ≤ 1099511627776
      · obtain ⟨N, rfl⟩ : ∃ N : Nat, n = (N : Int) := ⟨n.toNat, by omega⟩
        have HE2 : Hid (saveD d (fsOf F) nm (N : Int) = saveL (layD d (fsOf F) (tmpN nm) (bytesD N)) nm) := Lib.hid (by rw [HE.out, if_neg (by rw [hn, ht]; decide), if_pos hr]; rfl)
        clear HE
        refine (curBytes N (by omega) w).mono ?_
        rintro e w1 ⟨g, rfl, hg, hrow, hb1⟩
        have HBS : Hid (Bs w1 (some ⟨g, 0, none⟩) 12 12 (bytesD N)) := Lib.hid (Bs.block hrow rfl (by decide))
        have H1 := Lib.hid (H.out.below hb1)
        have HB1 := Lib.hid hb1
        have HOFF : Hid (∀ b, some (⟨g, 0, none⟩ : Addr) = some b → ¬ DFoot D M F b.block) := Lib.hid (fun b hb hk => by
          injection hb with hb; subst hb
          have := (H.out.foot_lt hk).2
          simp only at this; omega)
        clear hg hrow hb1 hr hn ht
        go_wp2_with (fail)
        refine (lay_ H1.out OK.out HO.out (tmpN nm) (by rw [tmpN_size]; have := HSZ.out; omega) _ 12 12 (bytesD N) HBS.out (Nat.le_trans HBW.out HB1.out.size) HOFF.out).mono ?_
        rintro e w2 ⟨F2, he, h2, hc2, hf2⟩
        obtain ⟨hok2, hop2⟩ := layD_ok OK.out HO.out (tmpN nm) (bytesD N)
        generalize layD d (fsOf F) (tmpN nm) (bytesD N) = r at he h2 hf2 hok2 hop2 HE2
        have H2 := Lib.hid h2
        have HC2 : Hid (DkCh D M F F2 w w2) := Lib.hid ((DkCh.of_below HB1.out).trans hc2)
        have HF2 := Lib.hid hf2
        have HK2 := Lib.hid hok2
        clear h2 hc2 hf2 hok2 hop2
        obtain ⟨x | op, d2, fs2⟩ := r
        · have HE3 : Hid (saveD d (fsOf F) nm (N : Int) = if x = 0 then opRename d2 fs2 (tmpN nm) nm else (.inl x, d2, fs2)) := HE2
          obtain rfl : fsOf F2 = fs2 := HF2.out
          obtain rfl : e = .returned (.int .i64 x) := he
          clear HE2 HF2
          by_cases hx : x = 0
          · subst hx
            have HE4 : Hid (saveD d (fsOf F) nm (N : Int) = opRename d2 (fsOf F2) (tmpN nm) nm) := Lib.hid (by rw [HE3.out, if_pos rfl])
            go_wp2_with (fail)
            refine (mRename H2.out HK2.out (tmpN nm) nm (by have := HSZ.out; omega)).mono ?_
            rintro e w3 ⟨F3, he, h3, hc3, hf3⟩
            generalize opRename d2 (fsOf F2) (tmpN nm) nm = r at he h3 hf3 HE4
            obtain ⟨y | op, d3, fs3⟩ := r
            · obtain rfl : e = .returned (.int .i64 y) := he
              have HP : Hid (MEnds B D M F w (saveD d (fsOf F) nm (N : Int)) (.returned (.int .i64 y)) w3) := Lib.hid (by rw [HE4.out]; exact ⟨F3, rfl, h3, HC2.out.trans hc3, hf3⟩)
              clear h3 hc3 hf3
              go_wp2_with (fail)
              go_ret
              exact HP.out
            · obtain rfl : e = .panicked [{ v := crashI op, recovered := false }] := he
              exact ⟨rfl, by rw [HE4.out]; exact ⟨F3, rfl, h3, HC2.out.trans hc3, hf3⟩⟩
          · have d1 : (x != 0) = true := by simpa using hx
            have HP : Hid (MEnds B D M F w (saveD d (fsOf F) nm (N : Int)) (.returned (.int .i64 x)) w2) := Lib.hid (by rw [HE3.out, if_neg hx]; exact ⟨F2, rfl, H2.out, HC2.out, rfl⟩)
            clear hx
            go_wp2_with (fail)
            go_ret
            exact HP.out
        · have HE3 : Hid (saveD d (fsOf F) nm (N : Int) = (.inr op, d2, fs2)) := HE2
          obtain rfl : e = .panicked [{ v := crashI op, recovered := false }] := he
          exact ⟨rfl, by rw [HE3.out]; exact ⟨F2, rfl, H2.out, HC2.out, HF2.out⟩⟩
      · have HE2 : Hid (saveD d (fsOf F) nm n = (.inl 3, d, fsOf F)) := Lib.hid (by rw [HE.out, if_neg (by rw [hn, ht]; decide), if_neg hr])
        refine (curBytes_no n hr w).mono ?_
        rintro e w1 ⟨rfl, rfl⟩
        clear hr
        go_wp2_with (fail)
        go_ret
        rw [HE2.out]
        exact ⟨F, rfl, H.out, DkCh.refl D M F w, rfl⟩
theorem curLoad (h : DkAt w B D M d F) (hlen : FileLens F) (nm : ByteArray) :
    Calls Try.prog 29 #[pD D, .string nm] w fun e w' => e = .returned (.tuple #[.int .i64 (loadD (fsOf F) nm).1, .int .i64 (loadD (fsOf F) nm).2]) ∧ Below w.heap.size w w' := by
  have HL : Hid (loadD (fsOf F) nm = match fget (fsOf F) nm with | none => (0, 0) | some f => numD f.bs) := Lib.hid rfl
  have H := Lib.hid h
  have HLN := Lib.hid hlen
  clear h hlen
  go_enter Try.func29, Try.ntmps29
  go_wp2_with (fail)
  cases hf : fget (fsOf F) nm with
  | none =>
    have HE : Hid (loadD (fsOf F) nm = (0, 0)) := Lib.hid (by rw [HL.out, hf])
    refine (dkRead_none H.out nm (fget_no hf)).mono ?_
    rintro e w1 ⟨rfl, rfl⟩
    go_wp2_with (fail)
    go_ret2
    rw [HE.out]
    exact ⟨rfl, Below.refl _ _⟩
  | some f =>
    have HE : Hid (loadD (fsOf F) nm = numD f.bs) := Lib.hid (by rw [HL.out, hf])
    have hmax : f.bs.length ≤ 1073741824 := by
      obtain ⟨P, g3, v3, Q, e3, _⟩ := fget_mid hf
      have := HLN.out ⟨nm, g3, v3, f⟩ (by rw [e3]; simp)
      simpa using this
    refine (dkRead_some H.out HLN.out nm f hf).mono ?_
    rintro e w1 ⟨g, rfl, hg, hrow, hb1⟩
    have HB1 := Lib.hid hb1
    have HBS : Hid (Bs w1 (some ⟨g, 0, none⟩) f.bs.length f.bs.length f.bs) := Lib.hid (Bs.block hrow rfl (by unfold maxLen; omega))
    clear hg hrow hb1
    go_wp2_with (fail)
    refine (curNumber _ _ _ f.bs w1 HBS.out (by omega)).mono ?_
    rintro e w2 ⟨rfl, hb2⟩
    have HB2 : Hid (Below w.heap.size w w2) := Lib.hid (HB1.out.trans (hb2.mono HB1.out.size))
    clear hb2 hmax
    go_wp2_with (fail)
    go_ret2
    rw [HE.out]
    exact ⟨rfl, HB2.out⟩
end
end Go.Proofs.Ytolomfdommnklaa
