/- Layer 14: what Add and Open do, as plain functions, and what a log's file keeps. -/
import Derived.Test.YthblbmbefhlbjaaDk16
import Derived.Test.YthblbmbefhlbjaaCutsMath
namespace Go.Proofs.Ythblbmbefhlbjaa
open Go.RowKit Go.MapKept

def undo_ (x : Int) (r : Out) : Out := match r with
  | (.inl _, s) => (.inl x, s)
  | (.inr op, s) => (.inr op, s)
/-- behind the sync -/
def addS (nm : ByteArray) (g : Nat) (r : Out) : Out := match r with
  | (.inr op, s) => (.inr op, s)
  | (.inl x, s) => if x = 0 then (.inl 0, s) else undo_ 5 (opTrunc s.1 s.2 nm (g : Int))
/-- behind the append -/
def addA (nm : ByteArray) (g m : Nat) (r : OutN) : Out := match r with
  | ((_, .inr op), s) => (.inr op, s)
  | ((n, .inl _), s) => if n < (m : Int) then undo_ 4 (opTrunc s.1 s.2 nm (g : Int)) else addS nm g (opSync s.1 s.2 nm)
def addD (d : Dk) (fs : Fs) (nm : ByteArray) (g : Nat) (b : List UInt8) : Out :=
  if okLen b.length = true then addA nm g (record b).length (appO d fs nm (record b)) else (.inl 9, d, fs)
/-- a file's bytes; none, if it isn't there -/
def bsOf (fs : Fs) (nm : ByteArray) : List UInt8 := match fget fs nm with
  | some f => f.bs
  | none => []
def openT (nm : ByteArray) (r : Out) : Out := match r with
  | (.inr op, s) => (.inr op, s)
  | (.inl _, s) => opSync s.1 s.2 nm
def openD (d : Dk) (fs : Fs) (nm : ByteArray) : Out :=
  if (scan (bsOf fs nm)).2.1 = (bsOf fs nm).length then (.inl 0, d, fs) else openT nm (opTrunc d fs nm ((scan (bsOf fs nm)).2.1 : Int))

theorem fget_put_same : ∀ (fs : Fs) (k : ByteArray) (v : Fl), fget (fput fs k v) k = some v
  | [], k, v => by simp [fput, fget]
  | (a, u) :: r, k, v => by
    unfold fput
    split
    · simp [fget]
    · rename_i h
      unfold fget
      rw [if_neg h]
      exact fget_put_same r k v
theorem fget_powFs (k : Int) : ∀ (fs : Fs) (n : ByteArray), fget (powFs k fs) n = (fget fs n).map (powFl k)
  | [], n => rfl
  | (a, v) :: r, n => by
    show fget ((a, powFl k v) :: powFs k r) n = _
    unfold fget
    split
    · rfl
    · exact fget_powFs k r n
/-- a cut that may be -/
theorem trunc_get {d : Dk} {fs : Fs} {nm : ByteArray} {f : Fl} {n : Nat} (h : fget fs nm = some f) (hn : n ≤ f.bs.length) :
    ((opTrunc d fs nm (n : Int)).1 = .inl 0 ∧ fget (opTrunc d fs nm (n : Int)).2.2 nm = some (trFl n f)) ∨
    ∃ op, (opTrunc d fs nm (n : Int)).1 = .inr op ∧ d.armedIn = 1 ∧ (fget (opTrunc d fs nm (n : Int)).2.2 nm = some (trFl n f) ∨ fget (opTrunc d fs nm (n : Int)).2.2 nm = some f) := by
  unfold opTrunc
  rw [h]
  simp only
  rw [if_neg (by omega)]
  unfold opChange
  by_cases ha : d.armedIn = 1
  · rw [if_pos ha]
    refine .inr ⟨_, rfl, ha, ?_⟩
    by_cases ho : dOdd d = true
    · rw [if_pos ho]; left; simp only [Int.toNat_natCast]; exact fget_put_same _ _ _
    · rw [if_neg ho]; right; exact h
  · rw [if_neg ha]
    refine .inl ⟨rfl, ?_⟩
    simp only [Int.toNat_natCast]
    exact fget_put_same _ _ _
theorem sync_get {d : Dk} {fs : Fs} {nm : ByteArray} {f : Fl} (h : fget fs nm = some f) :
    ((opSync d fs nm).1 = .inl 0 ∧ fget (opSync d fs nm).2.2 nm = some ⟨f.bs, f.bs.length⟩) ∨
    ((∃ x, x ≠ 0 ∧ (opSync d fs nm).1 = .inl x) ∧ d.failIn = 1 ∧ fget (opSync d fs nm).2.2 nm = some f) ∨
    ∃ op, (opSync d fs nm).1 = .inr op ∧ d.armedIn = 1 ∧ (fget (opSync d fs nm).2.2 nm = some ⟨f.bs, f.bs.length⟩ ∨ fget (opSync d fs nm).2.2 nm = some f) := by
  unfold opSync
  rw [h]
  simp only
  unfold opChange
  by_cases ha : d.armedIn = 1
  · rw [if_pos ha]
    refine .inr (.inr ⟨_, rfl, ha, ?_⟩)
    by_cases ho : dOdd d = true
    · rw [if_pos ho]
      simp only [fget_put_same]
      cases (d.failIn == 1)
      · left; rfl
      · right; rfl
    · rw [if_neg ho]; right; exact h
  · rw [if_neg ha]
    cases hf : (d.failIn == 1)
    · exact .inl ⟨rfl, fget_put_same _ _ _⟩
    · exact .inr (.inl ⟨⟨_, by decide, rfl⟩, by simpa using hf, fget_put_same _ _ _⟩)
/-- an append -/
theorem app_get {d : Dk} {fs : Fs} {nm : ByteArray} {l : List UInt8} (hn : nameD nm = true) {c : List UInt8} {s : Nat} (h : (fget fs nm = none ∧ c = [] ∧ s = 0) ∨ fget fs nm = some ⟨c, s⟩) :
    ∃ k, k ≤ l.length ∧ fget (appO d fs nm l).2.2 nm = some ⟨c ++ l.take k, s⟩ ∧ ((∃ x, (appO d fs nm l).1 = ((k : Int), .inl x)) ∨ ∃ op, (appO d fs nm l).1.2 = .inr op) := by
  have hl : ∀ b, fget (layF fs nm b) nm = some ⟨c ++ b, s⟩ := fun b => by
    unfold layF
    rw [fget_put_same]
    rcases h with ⟨h, rfl, rfl⟩ | h
    · rw [h]; rfl
    · rw [h]
  unfold appO
  rw [if_neg (by rw [hn]; decide)]
  by_cases ha : d.armedIn = 1
  · rw [if_pos ha]
    exact ⟨appK d l.length, by unfold appK appN; omega, hl _, .inr ⟨_, rfl⟩⟩
  · rw [if_neg ha]
    exact ⟨appN d l.length, by unfold appN; omega, hl _, .inl ⟨_, rfl⟩⟩

/-- a log's file holds just these records, and all of it is safe -/
def WalFs (fs : Fs) (nm : ByteArray) (rs : List (List UInt8)) : Prop :=
  (∀ x ∈ rs, okLen x.length = true) ∧ ((fget fs nm = none ∧ rs = []) ∨ fget fs nm = some ⟨recs rs, (recs rs).length⟩)
/-- it holds these records and the beginning of one more; all ahead of that one is safe -/
def HalfFs (fs : Fs) (nm : ByteArray) (rs : List (List UInt8)) (b : List UInt8) : Prop :=
  okLen b.length = true ∧ (∀ x ∈ rs, okLen x.length = true) ∧ ∃ k s, k ≤ (record b).length ∧ (recs rs).length ≤ s ∧ s ≤ (recs rs).length + k ∧ fget fs nm = some ⟨recs rs ++ (record b).take k, s⟩
def AddEnd (nm : ByteArray) (rs : List (List UInt8)) (b : List UInt8) (r : Out) : Prop := match r with
  | (.inl x, s) => if x = 0 then okLen b.length = true ∧ WalFs s.2 nm (rs ++ [b]) else WalFs s.2 nm rs
  | (.inr _, s) => HalfFs s.2 nm rs b
theorem trFl_back (X Y : List UInt8) : trFl X.length ⟨X ++ Y, X.length⟩ = ⟨X, X.length⟩ := by
  unfold trFl
  simp
theorem undo_end {d : Dk} {fs : Fs} {nm : ByteArray} {rs : List (List UInt8)} {b : List UInt8} {k : Nat} {x : Int} (hx : x ≠ 0) (hb : okLen b.length = true) (hok : ∀ x ∈ rs, okLen x.length = true) (hk : k ≤ (record b).length)
    (h : fget fs nm = some ⟨recs rs ++ (record b).take k, (recs rs).length⟩) : AddEnd nm rs b (undo_ x (opTrunc d fs nm ((recs rs).length : Int))) := by
  have ht := trunc_get (d := d) (n := (recs rs).length) h (by simp)
  rw [trFl_back] at ht
  generalize opTrunc d fs nm ((recs rs).length : Int) = r at ht
  obtain ⟨y, d', fs'⟩ := r
  rcases ht with ⟨h1, h2⟩ | ⟨op, h1, _, h2⟩
  · obtain rfl : y = .inl 0 := h1
    show if x = 0 then _ else WalFs fs' nm rs
    rw [if_neg hx]
    exact ⟨hok, .inr h2⟩
  · obtain rfl : y = .inr op := h1
    rcases h2 with h2 | h2
    · exact ⟨hb, hok, 0, _, Nat.zero_le _, Nat.le_refl _, by omega, by rw [show (record b).take 0 = [] from rfl, List.append_nil]; exact h2⟩
    · exact ⟨hb, hok, k, _, hk, Nat.le_refl _, by omega, h2⟩
/-- what an Add leaves -/
theorem addD_keeps (d : Dk) {fs : Fs} {nm : ByteArray} {rs : List (List UInt8)} (b : List UInt8) (hn : nameD nm = true) (hw : WalFs fs nm rs) : AddEnd nm rs b (addD d fs nm (recs rs).length b) := by
  obtain ⟨hok, hf⟩ := hw
  unfold addD
  by_cases hb : okLen b.length = true
  · rw [if_pos hb]
    obtain ⟨k, hk, hg, he⟩ := app_get (d := d) (l := record b) hn (c := recs rs) (s := (recs rs).length) (by
      rcases hf with ⟨h, rfl⟩ | h
      · exact .inl ⟨h, rfl, rfl⟩
      · exact .inr h)
    generalize appO d fs nm (record b) = r at hg he
    obtain ⟨⟨n, y⟩, d1, fs1⟩ := r
    rcases he with ⟨x, he⟩ | ⟨op, he⟩
    · obtain ⟨rfl, rfl⟩ := Prod.mk.inj he
      show AddEnd nm rs b (if (k : Int) < ((record b).length : Int) then undo_ 4 (opTrunc d1 fs1 nm ((recs rs).length : Int)) else addS nm (recs rs).length (opSync d1 fs1 nm))
      by_cases hlt : (k : Int) < ((record b).length : Int)
      · rw [if_pos hlt]
        exact undo_end (by decide) hb hok hk hg
      · rw [if_neg hlt]
        have hs := sync_get (d := d1) hg
        generalize opSync d1 fs1 nm = r at hs
        obtain ⟨y, d2, fs2⟩ := r
        have hkk : k = (record b).length := by omega
        rcases hs with ⟨h1, h2⟩ | ⟨⟨z, hz, h1⟩, _, h2⟩ | ⟨op, h1, _, h2⟩
        · obtain rfl : y = .inl 0 := h1
          refine ⟨hb, fun x hx => ?_, .inr ?_⟩
          · rcases List.mem_append.1 hx with hx | hx
            · exact hok x hx
            · rw [List.mem_singleton.1 hx]; exact hb
          · rw [h2, hkk, List.take_of_length_le (Nat.le_refl _), recs_snoc]
        · obtain rfl : y = .inl z := h1
          show AddEnd nm rs b (if z = 0 then (.inl 0, (d2, fs2)) else undo_ 5 (opTrunc d2 fs2 nm ((recs rs).length : Int)))
          rw [if_neg hz]
          exact undo_end (by decide) hb hok hk h2
        · obtain rfl : y = .inr op := h1
          rcases h2 with h2 | h2
          · refine ⟨hb, hok, k, _, hk, ?_, ?_, h2⟩
            · simp
            · rw [List.length_append, List.length_take]; omega
          · exact ⟨hb, hok, k, _, hk, Nat.le_refl _, by omega, h2⟩
    · obtain rfl : y = .inr op := he
      exact ⟨hb, hok, k, _, hk, Nat.le_refl _, by omega, hg⟩
  · rw [if_neg hb]
    show if (9 : Int) = 0 then okLen b.length = true ∧ WalFs fs nm (rs ++ [b]) else WalFs fs nm rs
    rw [if_neg (by decide)]
    exact ⟨hok, hf⟩
/-- when the power goes -/
theorem walFs_pow {fs : Fs} {nm : ByteArray} {rs : List (List UInt8)} (kp : Int) (h : WalFs fs nm rs) : WalFs (powFs kp fs) nm rs := by
  obtain ⟨hok, h⟩ := h
  refine ⟨hok, ?_⟩
  rw [fget_powFs]
  rcases h with ⟨h, rfl⟩ | h
  · exact .inl ⟨by rw [h]; rfl, rfl⟩
  · refine .inr ?_
    rw [h]
    simp [powFl, powN]
theorem halfFs_pow {fs : Fs} {nm : ByteArray} {rs : List (List UInt8)} {b : List UInt8} (kp : Int) (h : HalfFs fs nm rs b) :
    okLen b.length = true ∧ (∀ x ∈ rs, okLen x.length = true) ∧ ∃ k, k ≤ (record b).length ∧ fget (powFs kp fs) nm = some ⟨recs rs ++ (record b).take k, (recs rs).length + k⟩ := by
  obtain ⟨hb, hok, k, s, hk, h1, h2, h⟩ := h
  refine ⟨hb, hok, powN kp ⟨recs rs ++ (record b).take k, s⟩ - (recs rs).length, ?_, ?_⟩
  · have := powN_le (keep := kp) (f := ⟨recs rs ++ (record b).take k, s⟩) (by simp; omega)
    simp at this
    omega
  · have h3 := powN_le (keep := kp) (f := ⟨recs rs ++ (record b).take k, s⟩) (by simp; omega)
    have h4 : s ≤ powN kp ⟨recs rs ++ (record b).take k, s⟩ := by unfold powN; show s ≤ s + _; omega
    rw [fget_powFs, h]
    simp only [Option.map_some, powFl]
    simp only [List.length_append, List.length_take] at h3
    generalize powN kp ⟨recs rs ++ (record b).take k, s⟩ = P at h3 h4 ⊢
    congr 1
    rw [show (recs rs).length + (P - (recs rs).length) = P from by omega]
    congr 1
    rw [List.take_append, List.take_of_length_le (by omega), List.take_take, show min (P - (recs rs).length) k = P - (recs rs).length from by omega]
theorem cutI_last (b : List UInt8) : ∀ (rs : List (List UInt8)) (k : Nat), k ≤ 8 + b.length → cutI (rs ++ [b]) ((recs rs).length + k) = if k < 8 + b.length then (rs.length, (recs rs).length) else (rs.length + 1, (recs rs).length + (8 + b.length))
  | [], k, hk => by
    simp only [List.nil_append, recs_nil, List.length_nil, Nat.zero_add, cutI]
    split
    · rfl
    · simp
  | a :: r, k, hk => by
    have ih := cutI_last b r k hk
    have hl : (recs (a :: r)).length = 8 + a.length + (recs r).length := by rw [recs_cons, List.length_append, record_length]
    simp only [List.cons_append, cutI]
    rw [if_neg (by omega), show (recs (a :: r)).length + k - (8 + a.length) = (recs r).length + k from by omega, ih]
    split
    · simp [hl]
    · simp [hl]; omega
theorem scan_whole {rs : List (List UInt8)} (hok : ∀ x ∈ rs, okLen x.length = true) : scan (recs rs) = (rs, (recs rs).length, 0) := by
  have h := cut_scan rs (recs rs).length hok (Nat.le_refl _)
  have hc : ∀ rs : List (List UInt8), cutI rs (recs rs).length = (rs.length, (recs rs).length) := by
    intro rs
    induction rs with
    | nil => rfl
    | cons a r ih =>
      have hl : (recs (a :: r)).length = 8 + a.length + (recs r).length := by rw [recs_cons, List.length_append, record_length]
      simp only [cutI]
      rw [if_neg (by omega), show (recs (a :: r)).length - (8 + a.length) = (recs r).length from by omega, ih]
      simp [hl]
  rw [hc rs, List.take_of_length_le (Nat.le_refl _), List.take_of_length_le (Nat.le_refl _)] at h
  simpa using h
theorem walFs_bs {fs : Fs} {nm : ByteArray} {rs : List (List UInt8)} (h : WalFs fs nm rs) : bsOf fs nm = recs rs := by
  unfold bsOf
  rcases h.2 with ⟨h1, rfl⟩ | h1
  · rw [h1]; rfl
  · rw [h1]
/-- a whole log is opened as it is -/
theorem openD_whole (d : Dk) {fs : Fs} {nm : ByteArray} {rs : List (List UInt8)} (h : WalFs fs nm rs) : openD d fs nm = (.inl 0, d, fs) ∧ (scan (bsOf fs nm)).1 = rs ∧ (scan (bsOf fs nm)).2.1 = (recs rs).length := by
  have hs := scan_whole h.1
  unfold openD
  rw [walFs_bs h, hs]
  exact ⟨if_pos rfl, rfl, rfl⟩
theorem begin_rest {d : Dk} (ha : d.armedIn = 0) : d.begin.armedIn = 0 := by unfold Dk.begin; simp [ha]
theorem syncs_rest {d : Dk} (hf : d.failIn = 0) : d.syncs.failIn = 0 := by unfold Dk.syncs; simp [hf]
theorem trunc_rest {d : Dk} {fs : Fs} {nm : ByteArray} {n : Int} (ha : d.armedIn = 0) (hf : d.failIn = 0) : (opTrunc d fs nm n).2.1.armedIn = 0 ∧ (opTrunc d fs nm n).2.1.failIn = 0 := by
  unfold opTrunc
  split
  · exact ⟨ha, hf⟩
  · split
    · exact ⟨ha, hf⟩
    · unfold opChange
      rw [if_neg (by omega)]
      exact ⟨begin_rest ha, hf⟩
theorem sync_rest {d : Dk} {fs : Fs} {nm : ByteArray} (ha : d.armedIn = 0) (hf : d.failIn = 0) : (opSync d fs nm).2.1.armedIn = 0 ∧ (opSync d fs nm).2.1.failIn = 0 := by
  unfold opSync
  split
  · exact ⟨ha, hf⟩
  · unfold opChange
    rw [if_neg (by omega)]
    exact ⟨begin_rest (d := d.syncs) ha, syncs_rest hf⟩
/-- a log that was cut off is opened with its whole records -/
theorem openD_half {d : Dk} {fs : Fs} {nm : ByteArray} {rs : List (List UInt8)} {b : List UInt8} {k : Nat} (ha : d.armedIn = 0) (hf : d.failIn = 0) (hb : okLen b.length = true) (hok : ∀ x ∈ rs, okLen x.length = true) (hk : k ≤ (record b).length)
    (hg : fget fs nm = some ⟨recs rs ++ (record b).take k, (recs rs).length + k⟩) :
    ∃ rs', (rs' = rs ∨ rs' = rs ++ [b]) ∧ (scan (bsOf fs nm)).1 = rs' ∧ (scan (bsOf fs nm)).2.1 = (recs rs').length ∧ (openD d fs nm).1 = .inl 0 ∧ WalFs (openD d fs nm).2.2 nm rs' ∧ (openD d fs nm).2.1.armedIn = 0 ∧ (openD d fs nm).2.1.failIn = 0 := by
  have hbs : bsOf fs nm = recs rs ++ (record b).take k := by unfold bsOf; rw [hg]
  have hrl := record_length b
  have hok2 : ∀ x ∈ rs ++ [b], okLen x.length = true := fun x hx => by
    rcases List.mem_append.1 hx with hx | hx
    · exact hok x hx
    · rw [List.mem_singleton.1 hx]; exact hb
  rcases Nat.lt_or_ge k (8 + b.length) with hlt | hge
  · have hc := cut_scan (rs ++ [b]) ((recs rs).length + k) hok2 (by rw [recs_snoc, List.length_append]; omega)
    rw [cutI_last b rs k (by omega), if_pos hlt] at hc
    have ht : (recs (rs ++ [b])).take ((recs rs).length + k) = recs rs ++ (record b).take k := by
      rw [recs_snoc, List.take_append, List.take_of_length_le (by omega), show (recs rs).length + k - (recs rs).length = k from by omega]
    rw [ht, List.take_left' rfl] at hc
    refine ⟨rs, .inl rfl, by rw [hbs, hc], by rw [hbs, hc], ?_⟩
    have hlen : (recs rs ++ (record b).take k).length = (recs rs).length + k := by rw [List.length_append, List.length_take]; omega
    unfold openD
    rw [hbs, hc, hlen]
    simp only
    by_cases h0 : k = 0
    · rw [if_pos (by omega)]
      refine ⟨rfl, ⟨hok, .inr ?_⟩, ha, hf⟩
      show fget fs nm = _
      rw [hg, h0]; simp
    · rw [if_neg (by omega)]
      have htr := trunc_get (d := d) (n := (recs rs).length) hg (by simp)
      have hr := trunc_rest (fs := fs) (nm := nm) (n := ((recs rs).length : Int)) ha hf
      generalize opTrunc d fs nm ((recs rs).length : Int) = r at htr hr
      obtain ⟨y, d1, fs1⟩ := r
      rcases htr with ⟨h1, h2⟩ | ⟨op, _, h1, _⟩
      · obtain rfl : y = .inl 0 := h1
        show (opSync d1 fs1 nm).1 = .inl 0 ∧ WalFs (opSync d1 fs1 nm).2.2 nm rs ∧ (opSync d1 fs1 nm).2.1.armedIn = 0 ∧ (opSync d1 fs1 nm).2.1.failIn = 0
        have hr2 := sync_rest (fs := fs1) (nm := nm) hr.1 hr.2
        have hs := sync_get (d := d1) h2
        rcases hs with ⟨h3, h4⟩ | ⟨_, h3, _⟩ | ⟨op, _, h3, _⟩
        · refine ⟨h3, ⟨hok, .inr ?_⟩, hr2.1, hr2.2⟩
          rw [h4]
          simp [trFl]
        · have := hr.2; simp only at this; omega
        · have := hr.1; simp only at this; omega
      · omega
  · have hke : k = (record b).length := by omega
    have hall : recs rs ++ (record b).take k = recs (rs ++ [b]) := by rw [recs_snoc, hke, List.take_of_length_le (Nat.le_refl _)]
    have hw : WalFs fs nm (rs ++ [b]) := ⟨hok2, .inr (by rw [hg, hall, recs_snoc, List.length_append, hke])⟩
    obtain ⟨h1, h2, h3⟩ := openD_whole d hw
    exact ⟨rs ++ [b], .inr rfl, h2, h3, by rw [h1], by rw [h1]; exact hw, by rw [h1]; exact ha, by rw [h1]; exact hf⟩
end Go.Proofs.Ythblbmbefhlbjaa
