/- InboxTakes: whatever the input, the law's call returns true, and the arguments read afterwards as before. No condition of ours. -/
import Derived.Test.YtodjilljcjkacaaGreatDoorPkIT17
import Derived.ShutString
import Derived.ChangeOld
import Derived.SizedLaws
import Derived.Deep.DeepHandedRow
import Derived.OpenShut
import Derived.SliceStrings
import Derived.Test.YtodjilljcjkacaaGreatDoorCards
import Derived.Test.YtodjilljcjkacaaGreatDoorTie
import Derived.Lib.LaidTab

/- Layer 17: two inboxes, fed a byte each. -/
namespace Go.Proofs.YtodjilljcjkacaaGreatDoor
open Go.RowKit Go.MapKept

/-- two inboxes that were fed the same; what was taken of the first one lies in the row all -/
def TwoSt (w : World) (B1 D1 M1 L1 Q1 X1 B2 D2 M2 L2 Q2 X2 N : Nat) (all : Value) (W : World) : Prop :=
  ∃ (d : Dk) (F1 F2 : List Ent) (T : List (List UInt8)) (v1 v2 : Value) (s : St) (O1 O2 : Option Nat) (va1 va2 : Value) (an aL : List (List UInt8)) (kp : Nat),
    IB (fun j => FI L2 D2 M2 Q2 X2 O2 F2 v2 va2 j ∨ all.ownBlock = some j) W B1 D1 M1 L1 Q1 X1 O1 d F1 T (recs T).length v1 600 s va1 an (aL ++ an).length kp ∧
    IB (fun j => FI L1 D1 M1 Q1 X1 O1 F1 v1 va1 j ∨ all.ownBlock = some j) W B2 D2 M2 L2 Q2 X2 O2 d F2 T (recs T).length v2 600 s va2 (aL ++ an) (aL ++ an).length kp ∧
    fsOf F2 = fsOf F1 ∧ Rw w.heap.size (fun j => FI L1 D1 M1 Q1 X1 O1 F1 v1 va1 j ∨ FI L2 D2 M2 Q2 X2 O2 F2 v2 va2 j) W all aL ∧
    InB d (fsOf F1) T (recs T).length kp N ∧ WPlain d (fsOf F1) nmI T ∧ St.Up 600 N s ∧ (aL ++ an).length ≤ N ∧ Below w.heap.size w W ∧ B1 ≤ W.heap.size ∧ B2 ≤ W.heap.size
section
variable {w W W' : World} {B1 D1 M1 L1 Q1 X1 B2 D2 M2 L2 Q2 X2 N : Nat} {all : Value}
theorem TwoSt.below (h : TwoSt w B1 D1 M1 L1 Q1 X1 B2 D2 M2 L2 Q2 X2 N all W) (hb : Below W.heap.size W W') : TwoSt w B1 D1 M1 L1 Q1 X1 B2 D2 M2 L2 Q2 X2 N all W' := by
  obtain ⟨d, F1, F2, T, v1, v2, s, O1, O2, va1, va2, an, aL, kp, h1, h2, h3, h4, h5, h6, h7, h8, h9, h10, h11⟩ := h
  exact ⟨d, F1, F2, T, v1, v2, s, O1, O2, va1, va2, an, aL, kp, h1.below hb, h2.below hb, h3, h4.below hb, h5, h6, h7, h8, h9.trans (hb.mono h9.size), Nat.le_trans h10 hb.size, Nat.le_trans h11 hb.size⟩
/-- between the two feeds -/
def MidSt (w : World) (B1 D1 M1 L1 Q1 X1 B2 D2 M2 L2 Q2 X2 N : Nat) (c : UInt8) (all : Value) (W : World) : Prop :=
  ∃ (d : Dk) (F1 F2 : List Ent) (T : List (List UInt8)) (v1 v2 : Value) (s : St) (O1 O2 : Option Nat) (va1 va2 : Value) (an aL : List (List UInt8)) (kp : Nat) (fs : Fs) (R : InR),
    R = feedM d fs T (recs T).length kp [] (feedD 600 s [c]).2 ∧ fsOf F1 = R.fs ∧ fsOf F2 = fs ∧
    IB (fun j => FI L2 D2 M2 Q2 X2 O2 F2 v2 va2 j ∨ all.ownBlock = some j) W B1 D1 M1 L1 Q1 X1 O1 R.d F1 R.T R.g v1 600 (feedD 600 s [c]).1 va1 (an ++ R.La) ((aL ++ an).length + R.La.length) R.kp ∧
    IB (fun j => FI L1 D1 M1 Q1 X1 O1 F1 v1 va1 j ∨ all.ownBlock = some j) W B2 D2 M2 L2 Q2 X2 O2 d F2 T (recs T).length v2 600 s va2 (aL ++ an) (aL ++ an).length kp ∧
    Rw w.heap.size (fun j => FI L1 D1 M1 Q1 X1 O1 F1 v1 va1 j ∨ FI L2 D2 M2 Q2 X2 O2 F2 v2 va2 j) W all aL ∧
    InB d fs T (recs T).length kp N ∧ WPlain d fs nmI T ∧ St.Up 600 N s ∧ (aL ++ an).length ≤ N ∧ Below w.heap.size w W ∧ B1 ≤ W.heap.size ∧ B2 ≤ W.heap.size
theorem one_len (s : St) (c : UInt8) : (feedD 600 s [c]).2.length ≤ 1 := by
  have := feed_len 600 s [c] 1 (by simp)
  simpa using this
theorem one_short {s : St} (h : St.Up 600 N s) (c : UInt8) : ∀ x ∈ (feedD 600 s [c]).2, x.length ≤ 29000 := fun x hx => by
  have := feed_short h [c] 1 (by simp) x (by simpa using hx)
  omega
theorem MidSt.below {c : UInt8} (h : MidSt w B1 D1 M1 L1 Q1 X1 B2 D2 M2 L2 Q2 X2 N c all W) (hb : Below W.heap.size W W') : MidSt w B1 D1 M1 L1 Q1 X1 B2 D2 M2 L2 Q2 X2 N c all W' := by
  obtain ⟨d, F1, F2, T, v1, v2, s, O1, O2, va1, va2, an, aL, kp, fs, R, hr, e1, e2, h1, h2, h4, h5, h6, h7, h8, h9, h10, h11⟩ := h
  exact ⟨d, F1, F2, T, v1, v2, s, O1, O2, va1, va2, an, aL, kp, fs, R, hr, e1, e2, h1.below hb, h2.below hb, h4.below hb, h5, h6, h7, h8, h9.trans (hb.mono h9.size), Nat.le_trans h10 hb.size, Nat.le_trans h11 hb.size⟩
set_option maxHeartbeats 2000000
/-- the first one is fed a byte -/
theorem two_feed1 (h : TwoSt w B1 D1 M1 L1 Q1 X1 B2 D2 M2 L2 Q2 X2 N all W) (hN : N ≤ 1000000) (hw1 : w.heap.size ≤ B1) (hG : ∀ W, Below w.heap.size w W → Vers W ∧ Signs W ∧ Cds W) (c : UInt8) :
    Calls Tryz.prog 16 #[pI X1, .slice (some ⟨W.heap.size, 0, none⟩) 1 1] (W.alloc (.cells #[u8 c] 5)) fun e W' => e = .returned (.int .i64 0) ∧ MidSt w B1 D1 M1 L1 Q1 X1 B2 D2 M2 L2 Q2 X2 N c all W' := by
  have hb : Below W.heap.size W (W.alloc (.cells #[u8 c] 5)) := (Below.refl _ _).alloc (Nat.le_refl _) _
  have hlow : ∀ k, k ≤ W.heap.size → k ≤ (W.alloc (.cells #[u8 c] 5)).heap.size := fun k hk => Nat.le_trans hk hb.size
  obtain ⟨d, F1, F2, T, v1, v2, s, O1, O2, va1, va2, an, aL, kp, h1, h2, h3, h4, h5, h6, h7, h8, h9, h10, h11⟩ := h
  have hbs : Bs (W.alloc (.cells #[u8 c] 5)) (some ⟨W.heap.size, 0, none⟩) 1 1 [c] := Bs.lit W [c] _ _ _ rfl rfl rfl (by simp [maxLen])
  have hw9 := h9.trans (hb.mono h9.size)
  have hg := h5.g
  have hT := h5.T
  have hkp := h5.kp
  have hops := h5.ops
  have hal : an.length ≤ (aL ++ an).length := by rw [List.length_append]; omega
  refine (mFeed (h1.below hb) (some ⟨W.heap.size, 0, none⟩) 1 1 N [c] hbs (fun _ b hbb hk => by injection hbb with hbb; have := (h1.foot_lt hk).2; rw [← hbb] at this; simp at this) (by decide) h7 (by omega) (by decide) (fun W2 hb2 => hG W2 (hw9.trans (hb2.mono hw1))) h5.ok (by omega) (by omega) (by omega) (by omega) (by omega) (by omega) (hlow _ h10)).mono ?_
  rintro e W' ⟨F1', v1', va1', O1', he, hf, hi, hic⟩
  obtain ⟨p1, p2, p3, p4⟩ := feedM_plain (feedD 600 s [c]).2 d (fsOf F1) T kp [] h6
  rw [p1] at he
  refine ⟨he, d, F1', F2, T, v1', v2, s, O1', O2, va1', va2, an, aL, kp, fsOf F1, _, rfl, hf, h3, hi, (h2.below hb).other hic (fun k hk => (hi.foot_lt hk).2), (h4.below hb).ch hic.ch (fun k _ hk => .inl hk) (fun k hk ht => ht.elim (fun q => .inl ((hic.foot k q).resolve_right (by omega))) .inr), h5, h6, h7, h8, hw9.trans ((hic.ch.below (fun k hk => (h1.foot_lt hk).1) (hlow _ h10)).mono hw1), Nat.le_trans (hlow _ h10) hic.ch.size, Nat.le_trans (hlow _ h11) hic.ch.size⟩
/-- .. the second one too -/
theorem two_feed2 {c : UInt8} (h : MidSt w B1 D1 M1 L1 Q1 X1 B2 D2 M2 L2 Q2 X2 N c all W) (hN : N ≤ 1000000) (hw2 : w.heap.size ≤ B2) (hG : ∀ W, Below w.heap.size w W → Vers W ∧ Signs W ∧ Cds W) :
    Calls Tryz.prog 16 #[pI X2, .slice (some ⟨W.heap.size, 0, none⟩) 1 1] (W.alloc (.cells #[u8 c] 5)) fun e W' => e = .returned (.int .i64 0) ∧ TwoSt w B1 D1 M1 L1 Q1 X1 B2 D2 M2 L2 Q2 X2 (N + 1) all W' := by
  have hb : Below W.heap.size W (W.alloc (.cells #[u8 c] 5)) := (Below.refl _ _).alloc (Nat.le_refl _) _
  have hlow : ∀ k, k ≤ W.heap.size → k ≤ (W.alloc (.cells #[u8 c] 5)).heap.size := fun k hk => Nat.le_trans hk hb.size
  obtain ⟨d, F1, F2, T, v1, v2, s, O1, O2, va1, va2, an, aL, kp, fs, R, hr, e1, e2, h1, h2, h4, h5, h6, h7, h8, h9, h10, h11⟩ := h
  have hbs : Bs (W.alloc (.cells #[u8 c] 5)) (some ⟨W.heap.size, 0, none⟩) 1 1 [c] := Bs.lit W [c] _ _ _ rfl rfl rfl (by simp [maxLen])
  have hw9 := h9.trans (hb.mono h9.size)
  have hg := h5.g
  have hT := h5.T
  have hkp := h5.kp
  have hops := h5.ops
  subst e2
  refine (mFeed (h2.below hb) (some ⟨W.heap.size, 0, none⟩) 1 1 N [c] hbs (fun _ b hbb hk => by injection hbb with hbb; have := (h2.foot_lt hk).2; rw [← hbb] at this; simp at this) (by decide) h7 (by omega) (by decide) (fun W2 hb2 => hG W2 (hw9.trans (hb2.mono hw2))) h5.ok (by omega) (by omega) (by omega) (by omega) (by omega) (by omega) (hlow _ h11)).mono ?_
  rintro e W' ⟨F2', v2', va2', O2', he, hf, hi, hic⟩
  obtain ⟨p1, p2, p3, p4⟩ := feedM_plain (feedD 600 s [c]).2 d (fsOf F2) T kp [] h6
  obtain ⟨q1, q2⟩ := feedM_b (feedD 600 s [c]).2 d (fsOf F2) T (recs T).length kp [] N h5 (by have := one_len s c; omega) (one_short h7 c)
  have hu := feed_up h7 [c] 1 (by simp)
  have h1l := one_len s c
  rw [← hr] at p1 p2 p3 q1 q2 he hf hi
  rw [p1] at he
  rw [p3] at hi h1 q1
  rw [List.length_nil] at q2
  rw [← hf] at q1 p2
  have el : ((aL ++ an).length + R.La.length) = (aL ++ (an ++ R.La)).length := by simp only [List.length_append]; omega
  rw [el] at hi h1
  rw [List.append_assoc] at hi
  have e12 : fsOf F2' = fsOf F1 := by rw [hf, e1]
  have q1' : InB R.d (fsOf F1) R.T (recs R.T).length R.kp (N + 1) := by
    rw [← e12]
    exact ⟨q1.ok, by have := q1.ops; omega, by have := q1.g; omega, by have := q1.T; omega, by have := q1.kp; omega⟩
  refine ⟨he, R.d, F1, F2', R.T, v1, v2', (feedD 600 s [c]).1, O1, O2', va1, va2', an ++ R.La, aL, R.kp, (h1.below hb).other hic (fun k hk => (hi.foot_lt hk).2), hi, e12, (h4.below hb).ch hic.ch (fun k _ hk => .inr hk) (fun k hk ht => ht.elim .inl (fun q => .inr ((hic.foot k q).resolve_right (by omega)))), q1', by rw [← e12]; exact p2, by simpa using hu, by rw [← el]; omega, hw9.trans ((hic.ch.below (fun k hk => (h2.foot_lt hk).1) (hlow _ h11)).mono hw2), Nat.le_trans (hlow _ h10) hic.ch.size, Nat.le_trans (hlow _ h11) hic.ch.size⟩
end
end Go.Proofs.YtodjilljcjkacaaGreatDoor
/- InboxTakes, walked. -/
namespace Go.Proofs.YtodjilljcjkacaaGreatDoor
open Go.RowKit Go.MapKept

/-- the first one's answers va are taken; they aren't in the row all yet -/
def TakeSt (w : World) (B1 D1 M1 L1 Q1 X1 B2 D2 M2 L2 Q2 X2 N : Nat) (all va : Value) (aL an : List (List UInt8)) (TT : Nat → Prop) (W : World) : Prop :=
  ∃ (d : Dk) (F1 F2 : List Ent) (T : List (List UInt8)) (v1 v2 : Value) (s : St) (O1 O2 : Option Nat) (va2 : Value) (kp : Nat),
    IB (fun j => FI L2 D2 M2 Q2 X2 O2 F2 v2 va2 j ∨ all.ownBlock = some j) W B1 D1 M1 L1 Q1 X1 O1 d F1 T (recs T).length v1 600 s (.slice none 0 0) [] (aL ++ an).length kp ∧
    IB (fun j => FI L1 D1 M1 Q1 X1 O1 F1 v1 (.slice none 0 0) j ∨ all.ownBlock = some j) W B2 D2 M2 L2 Q2 X2 O2 d F2 T (recs T).length v2 600 s va2 (aL ++ an) (aL ++ an).length kp ∧
    fsOf F2 = fsOf F1 ∧ TT = (fun j => FI L1 D1 M1 Q1 X1 O1 F1 v1 (.slice none 0 0) j ∨ FI L2 D2 M2 Q2 X2 O2 F2 v2 va2 j) ∧ Rw w.heap.size TT W all aL ∧
    Rw B1 (fun j => TT j ∨ all.ownBlock = some j) W va an ∧ ¬ TT W.heap.size ∧
    InB d (fsOf F1) T (recs T).length kp N ∧ WPlain d (fsOf F1) nmI T ∧ St.Up 600 N s ∧ (aL ++ an).length ≤ N ∧ Below w.heap.size w W ∧ B1 ≤ W.heap.size ∧ B2 ≤ W.heap.size
section
variable {w W W' : World} {B1 D1 M1 L1 Q1 X1 B2 D2 M2 L2 Q2 X2 N : Nat} {all : Value}
theorem two_take (h : TwoSt w B1 D1 M1 L1 Q1 X1 B2 D2 M2 L2 Q2 X2 N all W) (hw1 : w.heap.size ≤ B1) :
    Calls Tryz.prog 19 #[pI X1] W fun e W' => ∃ va aL an TT, e = .returned va ∧ TakeSt w B1 D1 M1 L1 Q1 X1 B2 D2 M2 L2 Q2 X2 N all va aL an TT W' := by
  obtain ⟨d, F1, F2, T, v1, v2, s, O1, O2, va1, va2, an, aL, kp, h1, h2, h3, h4, h5, h6, h7, h8, h9, h10, h11⟩ := h
  refine (inTake h1).mono ?_
  rintro e W' ⟨rfl, hi, hr, hc⟩
  have hsub : ∀ k, FI L1 D1 M1 Q1 X1 O1 F1 v1 (.slice none 0 0) k → FI L1 D1 M1 Q1 X1 O1 F1 v1 va1 k := fun k hk => by
    rcases hk with hk | hk | hk | hk
    · exact .inl hk
    · exact .inr (.inl hk)
    · exact .inr (.inr (.inl hk))
    · cases hk
  have hz := hc.size
  have hX : ∀ k, At1 X1 k → FI L1 D1 M1 Q1 X1 O1 F1 v1 va1 k := fun k hk => .inl hk
  refine ⟨va1, aL, an, _, rfl, d, F1, F2, T, v1, v2, s, O1, O2, va2, kp, hi, h2.beside hc (fun k _ hk => .inl (hX k hk)) (fun k hk => ?_), h3, rfl, h4.ch hc (fun k _ hk => .inl (hX k hk)) (fun k _ hk => hk.imp (hsub k) id), hr.ch (Ch.refl (fun _ => False) _) (fun _ _ h => h.elim) (fun k _ hk => ?_), fun ht => ?_, h5, h6, h7, h8, h9.trans ((hc.below (fun k hk => (h1.foot_lt (hX k hk)).1) h10).mono hw1), Nat.le_trans h10 hz, Nat.le_trans h11 hz⟩
  · rcases hk with hk | hk
    · exact ⟨Nat.lt_of_lt_of_le (h1.foot_lt (hsub k hk)).2 hz, .inl (.inl (hsub k hk))⟩
    · exact ⟨Nat.lt_of_lt_of_le (h2.zl k (.inr hk)).1 hz, .inl (.inr hk)⟩
  · rcases hk with (hk | hk) | hk
    · exact .inr hk
    · exact .inl (.inl hk)
    · exact .inl (.inr hk)
  · rcases ht with ht | ht
    · have := (h1.foot_lt (hsub _ ht)).2; omega
    · have := (h2.foot_lt ht).2; omega
/-- .. and nothing is left with the first one -/
def TwoA (w : World) (B1 D1 M1 L1 Q1 X1 B2 D2 M2 L2 Q2 X2 N : Nat) (all : Value) (aL : List (List UInt8)) (W : World) : Prop :=
  ∃ (d : Dk) (F1 F2 : List Ent) (T : List (List UInt8)) (v1 v2 : Value) (s : St) (O1 O2 : Option Nat) (va2 : Value) (kp : Nat),
    IB (fun j => FI L2 D2 M2 Q2 X2 O2 F2 v2 va2 j ∨ all.ownBlock = some j) W B1 D1 M1 L1 Q1 X1 O1 d F1 T (recs T).length v1 600 s (.slice none 0 0) [] aL.length kp ∧
    IB (fun j => FI L1 D1 M1 Q1 X1 O1 F1 v1 (.slice none 0 0) j ∨ all.ownBlock = some j) W B2 D2 M2 L2 Q2 X2 O2 d F2 T (recs T).length v2 600 s va2 aL aL.length kp ∧
    fsOf F2 = fsOf F1 ∧ Rw w.heap.size (fun j => FI L1 D1 M1 Q1 X1 O1 F1 v1 (.slice none 0 0) j ∨ FI L2 D2 M2 Q2 X2 O2 F2 v2 va2 j) W all aL ∧
    InB d (fsOf F1) T (recs T).length kp N ∧ WPlain d (fsOf F1) nmI T ∧ St.Up 600 N s ∧ aL.length ≤ N ∧ Below w.heap.size w W ∧ B1 ≤ W.heap.size ∧ B2 ≤ W.heap.size
theorem TwoA.st {aL : List (List UInt8)} (h : TwoA w B1 D1 M1 L1 Q1 X1 B2 D2 M2 L2 Q2 X2 N all aL W) : TwoSt w B1 D1 M1 L1 Q1 X1 B2 D2 M2 L2 Q2 X2 N all W := by
  obtain ⟨d, F1, F2, T, v1, v2, s, O1, O2, va2, kp, h1, h2, h3, h4, h5, h6, h7, h8, h9⟩ := h
  exact ⟨d, F1, F2, T, v1, v2, s, O1, O2, .slice none 0 0, va2, [], aL, kp, by rw [List.append_nil]; exact h1, by rw [List.append_nil]; exact h2, h3, h4, h5, h6, h7, by rw [List.append_nil]; exact h8, h9⟩
theorem TakeSt.facts {va : Value} {aL an : List (List UInt8)} {TT : Nat → Prop} (h : TakeSt w B1 D1 M1 L1 Q1 X1 B2 D2 M2 L2 Q2 X2 N all va aL an TT W) : Rw w.heap.size TT W all aL ∧ Rw B1 (fun j => TT j ∨ all.ownBlock = some j) W va an ∧ ¬ TT W.heap.size ∧ aL.length + an.length ≤ N ∧ w.heap.size ≤ W.heap.size := by
  obtain ⟨d, F1, F2, T, v1, v2, s, O1, O2, va2, kp, h1, h2, h3, h4a, h4, h4b, h4c, h5, h6, h7, h8, h9, h10, h11⟩ := h
  exact ⟨h4, h4b, h4c, by rw [List.length_append] at h8; exact h8, h9.size⟩
/-- they are added to it -/
theorem TakeSt.app {va all' : Value} {aL an : List (List UInt8)} {TT : Nat → Prop} (h : TakeSt w B1 D1 M1 L1 Q1 X1 B2 D2 M2 L2 Q2 X2 N all va aL an TT W) (hr : Rw w.heap.size TT W' all' (aL ++ an)) (hc : Ch (fun k => all.ownBlock = some k) W W') (hf : all'.ownBlock = all.ownBlock ∨ all'.ownBlock = some W.heap.size) :
    TwoA w B1 D1 M1 L1 Q1 X1 B2 D2 M2 L2 Q2 X2 N all' (aL ++ an) W' := by
  obtain ⟨d, F1, F2, T, v1, v2, s, O1, O2, va2, kp, h1, h2, h3, rfl, h4, h4b, _, h5, h6, h7, h8, h9, h10, h11⟩ := h
  have hz := hc.size
  have hnew : ∀ k, all'.ownBlock = some k → k < W'.heap.size ∧ (all.ownBlock = some k ∨ W.heap.size ≤ k) := fun k hk => by
    refine ⟨(Rw.lt hr hk).2, ?_⟩
    rcases hf with e | e
    · exact .inl (by rw [← e]; exact hk)
    · rw [e] at hk; injection hk with hk; exact .inr (by omega)
  have hb : Below w.heap.size W W' := hc.below (fun k hk => (Rw.lt h4 hk).1) h9.size
  refine ⟨d, F1, F2, T, v1, v2, s, O1, O2, va2, kp, ?_, ?_, h3, hr, h5, h6, h7, h8, h9.trans hb, Nat.le_trans h10 hz, Nat.le_trans h11 hz⟩
  · refine h1.beside hc (fun k _ hk => .inr hk) (fun k hk => ?_)
    rcases hk with hk | hk
    · exact ⟨Nat.lt_of_lt_of_le (h2.foot_lt hk).2 hz, .inl (.inl hk)⟩
    · exact ⟨(hnew k hk).1, (hnew k hk).2.imp .inr id⟩
  · refine h2.beside hc (fun k _ hk => .inr hk) (fun k hk => ?_)
    rcases hk with hk | hk
    · exact ⟨Nat.lt_of_lt_of_le (h1.foot_lt hk).2 hz, .inl (.inl hk)⟩
    · exact ⟨(hnew k hk).1, (hnew k hk).2.imp .inr id⟩
end
set_option maxRecDepth 100000
set_option maxHeartbeats 8000000
theorem inboxTakes_walk (A : Option Addr) (n c : Nat) (l : List UInt8) (q : UInt8) (w : World) (hv : Vers w ∧ Signs w ∧ Cds w) (hB : Bs w A n c l) (_hc : c ≤ 140737488351232) :
    Calls Tryz.prog 7 #[.slice A n c, u8 q] w (True_ w) := by
  have HG := Lib.hid (fun W (hb : Below w.heap.size w W) => (⟨hv.1.below hb, hv.2.1.below hb, hv.2.2.below hb⟩ : Vers W ∧ Signs W ∧ Cds W))
  have hmax := hB.nmax
  have HB := Lib.hid hB
  clear hv
  go_enter Tryz.func7, Tryz.ntmps7
  go_wp2_with (fail)
  refine (alive17 w HG.out).mono ?_
  rintro e w1 ⟨rfl, hb1⟩
  have HB1 := Lib.hid hb1
  by_cases hbig : 2000 < n
  · have e1 : (2000 : Int) < (n : Int) := by omega
    clear hb1
    go_wp2_with (fail)
    refine (alive17 w1 (fun W hb => HG.out W (HB1.out.trans (hb.mono HB1.out.size)))).mono ?_
    rintro e w2 ⟨rfl, hb2⟩
    have HB2 := Lib.hid (HB1.out.trans (hb2.mono HB1.out.size))
    clear hb2
    go_wp2_with (fail)
    go_ret
    exact ⟨rfl, HB2.out⟩
  · have e1 : ¬ (2000 : Int) < (n : Int) := by omega
    have HN : Hid (n ≤ 2000) := Lib.hid (by omega)
    clear hb1 hbig
    go_wp2_with (fail)
    refine (begin17 3000 (by decide) 600 (by decide) (by decide) w1).mono ?_
    rintro e w2 ⟨D1, M1, L1, Q1, X1, v1, rfl, hi1, hb2⟩
    have HI1 := Lib.hid hi1
    have HC2 := Lib.hid hb2
    clear hi1 hb2
    go_wp2_with (fail)
    refine (begin17 3000 (by decide) 600 (by decide) (by decide) w2).mono ?_
    rintro e w3 ⟨D2, M2, L2, Q2, X2, v2, rfl, hi2, hb3⟩
    have h0 : TwoSt w w1.heap.size D1 M1 L1 Q1 X1 w2.heap.size D2 M2 L2 Q2 X2 0 (.slice none 0 0) w3 := by
      refine ⟨⟨3000, 0, 0, 0, 0, 0⟩, [], [], [], v1, v2, newS, none, none, .slice none 0 0, .slice none 0 0, [], [], 0, ?_, ?_, rfl, Rw.nil _ _ _, ⟨newW_ok 3000 (by decide), by show (0 : Int) ≤ _; decide, Nat.le_refl _, Nat.le_refl _, Nat.le_refl _⟩, newW_plain 3000 nmI, ⟨Nat.le_refl _, Nat.le_refl _, Nat.le_refl _, Nat.zero_le _⟩, Nat.le_refl _, (HB1.out.trans (HC2.out.mono HB1.out.size)).trans (hb3.mono (Nat.le_trans HB1.out.size HC2.out.size)), Nat.le_trans HC2.out.size hb3.size, hb3.size⟩
      · exact HI1.out.beside (Ch.of_below (S := fun _ => False) hb3) (fun _ _ h => h.elim) (fun k hk => by
          rcases hk with hk | hk
          · have := hi2.foot_lt hk
            exact ⟨this.2, .inr this.1⟩
          · cases hk)
      · exact hi2.less (fun k hk => by
          rcases hk with hk | hk
          · exact (HI1.out.foot_lt hk).2
          · cases hk)
    have H0 := Lib.hid h0
    have HW1 : Hid (w.heap.size ≤ w1.heap.size) := Lib.hid HB1.out.size
    have HW2 : Hid (w.heap.size ≤ w2.heap.size) := Lib.hid (Nat.le_trans HB1.out.size HC2.out.size)
    generalize w1.heap.size = B1 at *
    generalize w2.heap.size = B2 at *
    clear hi2 hb3 HI1 HC2 h0
    go_wp2_with (fail)
    go_loopw [11, 12, 13, 40, 41, 42, 43, 44, 45, 46, 47, 48, 49, 50, 51, 52, 53, 54, 55, 56, 57, 58, 59, 60, 61, 62, 63, 64] (fun all _ _ i _ _ _ _ _ _ _ _ _ _ _ _ _ _ _ _ _ _ _ _ _ _ _ _ wr => ∃ k : Nat, i = .int .i64 k ∧ k ≤ n ∧ TwoSt w B1 D1 M1 L1 Q1 X1 B2 D2 M2 L2 Q2 X2 k all wr) (fun _ _ _ i _ _ _ _ _ _ _ _ _ _ _ _ _ _ _ _ _ _ _ _ _ _ _ _ _ => n - (intOf i).toNat)
    case atStart => exact ⟨0, rfl, Nat.zero_le _, H0.out⟩
    case round =>
      obtain ⟨wo, rfl⟩ : ∃ wo : World, wo = wr := ⟨_, rfl⟩
      obtain ⟨k, rfl, hk, hst⟩ := hrel
      obtain ⟨all, hall⟩ : ∃ all, all = u11 := ⟨_, rfl⟩
      subst hall
      have HST := Lib.hid hst
      have HBO : Hid (Below w.heap.size w wo) := Lib.hid (by obtain ⟨d, F1, F2, T, v1, v2, s, O1, O2, va1, va2, an, aL, kp, h1, h2, h3, h4, h5, h6, h7, h8, h9, h10⟩ := hst; exact h9)
      clear hst H0
      by_cases hlt : k < n
      · obtain ⟨b, o, rfl, hb, hc⟩ := HB.out.at_ (by omega)
        have hkl : k < l.length := by have := HB.out.len; omega
        have hcell : wo.cell? ⟨b, o + k, none⟩ = some (u8 l[k]) := (HBO.out.cell hb).trans (hc k _ (List.getElem?_eq_getElem hkl))
        obtain ⟨x, hx⟩ : ∃ x, x = l[k] := ⟨_, rfl⟩
        rw [← hx] at hcell
        have e2 : (k : Int) < (n : Int) := by omega
        clear hx hc hb
        go_wp2_with (fail)
        refine (two_feed1 HST.out (by have := HN.out; omega) HW1.out HG.out x).mono ?_
        rintro e w4 ⟨rfl, hm4⟩
        have HM4 := Lib.hid hm4
        clear hm4 hcell
        go_wp2_with (fail)
        refine (two_feed2 HM4.out (by have := HN.out; omega) HW2.out HG.out).mono ?_
        rintro e w5 ⟨rfl, hm5⟩
        have HM5 := Lib.hid hm5
        clear hm5 HM4 HST
        go_wp2_with (fail)
        · refine (two_take HM5.out HW1.out).mono ?_
          rintro e w6 ⟨va, aL, an, TT, rfl, ht⟩
          have HT := Lib.hid ht
          have HTF := Lib.hid ht.facts
          have tok1 : Hid True := Lib.hid trivial
          clear ht HM5
          go_wp2_with (at_builtin; have _t := tok1; go_loud ((refine wpList_rws rfl (.tmp 60) (.tmp 62) rfl w.heap.size B1 TT (fun j => TT j ∨ all.ownBlock = some j) all va aL an rfl HTF.out.1 rfl HTF.out.2.1 (fun _ _ h => h) HTF.out.2.2.1 (by have := HTF.out.2.2.2.1; have := HN.out; omega) HTF.out.2.2.2.2 ?_; intro all2 w7 hr7 hc7 hf7; have HA7 := Lib.hid (HT.out.app hr7 hc7 hf7); clear tok1 hr7 hc7 hf7 _t)))
          exact ⟨⟨k + 1, by go_num, by omega, HA7.out.st⟩, by simp [intOf]; omega⟩
        · exact ⟨⟨k + 1, by go_num, by omega, HM5.out⟩, by simp [intOf]; omega⟩
      · obtain rfl : k = n := by omega
        go_wp2_with (fail)
        refine (two_take HST.out HW1.out).mono ?_
        rintro e w6 ⟨va, aL, an, TT, rfl, ht⟩
        have HT := Lib.hid ht
        have HTF := Lib.hid ht.facts
        have tok1 : Hid True := Lib.hid trivial
        clear ht HST
        go_wp2_with (at_builtin; have _t := tok1; go_loud ((refine wpList_rws rfl (.tmp 65) (.tmp 67) rfl w.heap.size B1 TT (fun j => TT j ∨ all.ownBlock = some j) all va aL an rfl HTF.out.1 rfl HTF.out.2.1 (fun _ _ h => h) HTF.out.2.2.1 (by have := HTF.out.2.2.2.1; have := HN.out; omega) HTF.out.2.2.2.2 ?_; intro all2 w7 hr7 hc7 hf7; have HA7 := Lib.hid (HT.out.app hr7 hc7 hf7); clear tok1 hr7 hc7 hf7 _t)))
        obtain ⟨La, hLa⟩ : ∃ La, La = aL ++ an := ⟨_, rfl⟩
        have hA := HA7.out
        rw [← hLa] at hA
        obtain ⟨d, F1, F2, T, v1', v2', s, O1, O2, va2, kp, h1, h2, h3, h4, h5, h6, h7, h8, h9, h10, h11⟩ := hA
        clear hLa HA7 HT HTF
        refine (inTake h2).mono ?_
        rintro e w8 ⟨rfl, hi2, hr2, hc8⟩
        have h18 := h1.beside hc8 (Z' := fun _ => False) (fun j _ hj => .inl (.inl hj)) (fun j h => h.elim)
        have h48 := h4.ch hc8 (fun j _ hj => .inr (.inl hj)) (fun _ _ h => h)
        obtain ⟨A8, c8, e8, hrd8⟩ := h48.rd
        obtain ⟨A9, c9, e9, hrd9⟩ := hr2.rd
        obtain ⟨M, hM⟩ : ∃ M, M = La.length := ⟨_, rfl⟩
        rw [← hM] at h18 e8 e9 hrd8 hrd9
        have HI8 := Lib.hid h18
        have HR8 := Lib.hid hrd8
        have HR9 := Lib.hid hrd9
        have HB8 : Hid (Below w.heap.size w w8) := Lib.hid (h9.trans ((hc8.below (fun j hj => by rw [show j = X2 from hj]; exact h2.xb) h11).mono HW2.out))
        clear h1 h2 h3 h4 h5 h6 h7 h8 h9 h10 h11 hi2 hr2 hc8 h18 h48 hrd8 hrd9 hM
        subst e8 e9
        go_wp2_with (fail)
        refine (same17 A8 A9 M c8 c9 La w8 HR8.out HR9.out).mono ?_
        rintro e w9 ⟨rfl, hb9⟩
        have HI9 := Lib.hid (HI8.out.below hb9)
        have HB9 := Lib.hid (HB8.out.trans (hb9.mono HB8.out.size))
        have HX : Hid (w.heap.size ≤ X1) := Lib.hid (Nat.le_trans HW1.out HI8.out.xb)
        clear hb9 HI8 HR8 HR9 HB8
        go_wp2_with (fail)
        refine (inSeen HI9.out).mono ?_
        rintro e w10 ⟨rfl, rfl⟩
        go_wp2_with (fail)
        refine (inTake HI9.out).mono ?_
        rintro e w11 ⟨rfl, _, _, hc11⟩
        have HB11 : Hid (Below w.heap.size w w11) := Lib.hid (HB9.out.trans (hc11.below (fun j hj => by rw [show j = X1 from hj]; exact HX.out) HB9.out.size))
        clear hc11
        go_wp2_with (fail)
        go_ret
        exact ⟨rfl, HB11.out⟩
end Go.Proofs.YtodjilljcjkacaaGreatDoor
/- An argument that is a slice of bytes, opened into 'Bs'. -/
namespace Go.Proofs.YtodjilljcjkacaaGreatDoor
open Go.RowKit Go.ChangeShapes Go.WideShapes

theorem own : ownKnob Tryz.prog.godebug = none := by kernel_rfl
theorem laidOut : laidOutB Tryz.prog = true := by kernel_rfl
theorem cellsByte : Tryz.prog.cellsOf 5 = 1 := by kernel_rfl
theorem bytesByte : Tryz.prog.bytesOf 5 = 1 := by kernel_rfl

theorem byte_back {x : Int} (h : (Lit.int .u8 x).wf = true) : ((UInt8.ofNat x.toNat).toNat : Int) = x := by
  have hx : 0 ≤ x ∧ x ≤ 255 := by simpa [Lit.wf, IntKind.min, IntKind.max, IntKind.signed, IntKind.bits] using h
  have : x.toNat < 256 := by omega
  simp [Nat.mod_eq_of_lt this]
  omega

theorem open_bytes {H : Type} {enc : TypeId × Value → H} {W : World} {A : Option Addr} {len cap : Nat} {d : DataW H} {p : List MemPlace} {ts : List TypeId} {ds : List (DataW H)}
    (h : DataW.Trod enc Tryz.prog W 0 (fun _ => true) true 40 (.slice A len cap) d p) (j : Nat) (ht : ts[j]? = some 40) (hd : ds[j]? = some d)
    (hs : (DataW.weightsEach Tryz.prog ts ds).all (· ≤ reachBytes) = true) : ∃ l, Bs W A len cap l ∧ cap ≤ 140737488351232 := by
  obtain ⟨fuel, hf⟩ := h
  rcases open_ints Tryz.underlying40 Tryz.underlying5 cellsByte hf with ⟨hcs, _⟩ | ⟨x, l, c, zs, hcs, _, hl, hm, hz, hx, hcell, hwz⟩
  · simp [Value.cells] at hcs
    obtain ⟨rfl, rfl, rfl⟩ := hcs
    exact ⟨[], Bs.none_ W, by omega⟩
  · simp [Value.cells] at hcs
    obtain ⟨rfl, rfl, rfl⟩ := hcs
    simp only [if_true] at hz
    simp only [Prod.mk.injEq] at hx
    obtain ⟨rfl, _⟩ := hx
    have hr := sized_slice hs ht hd Tryz.underlying40
    rw [bytesByte] at hr
    simp only [lits, List.length_map, List.length_take, List.length_drop, reachBytes] at hr
    refine ⟨(zs.take len).map fun z => UInt8.ofNat z.toNat, ⟨by rw [List.length_map, List.length_take]; omega, hl, hm, fun hn => ?_⟩, by omega⟩
    have h0 := hcell 0 (by omega)
    obtain ⟨b, off, spot⟩ := x
    have hspot : spot = none := by simpa [Addr.add] using World.cell?_spot h0
    subst hspot
    refine ⟨b, off, rfl, fun i y hy => ?_⟩
    rw [List.getElem?_map, List.getElem?_take] at hy
    split at hy
    · rename_i hi
      have hiz : i < zs.length := by omega
      rw [List.getElem?_eq_getElem hiz] at hy
      simp only [Option.map_some, Option.some.injEq] at hy
      subst hy
      have hc := hcell i hiz
      rw [Addr.add_lit] at hc
      rw [hc]
      simp only [List.getD, List.getElem?_eq_getElem hiz, Option.getD_some]
      show _ = some (Value.int IntKind.u8 _)
      rw [byte_back (hwz _ (List.getElem_mem hiz))]
    · cases hy
end Go.Proofs.YtodjilljcjkacaaGreatDoor
/- Arguments that are texts, bytes and slices of texts; what the second form's bound says of them. -/
namespace Go.Proofs.YtodjilljcjkacaaGreatDoor
open Go.RowKit Go.ChangeShapes Go.WideShapes

theorem u8_of_wf {y : Int} (h : (Lit.int .u8 y).wf = true) : ∃ x : UInt8, y = (x.toNat : Int) := ⟨UInt8.ofNat y.toNat, (byte_back h).symm⟩
theorem cellsStr : Tryz.prog.cellsOf 9 = 1 := by kernel_rfl
end Go.Proofs.YtodjilljcjkacaaGreatDoor
/- An argument that is a struct of five bytes. -/
namespace Go.Proofs.YtodjilljcjkacaaGreatDoor
open Go.RowKit Go.ChangeShapes Go.WideShapes

end Go.Proofs.YtodjilljcjkacaaGreatDoor
/- Laid together: OpenSegs, OpenMsh, OpenHead, OpenAck. -/

/- Arguments that are texts, bytes, slices of texts and signs. -/

/- The table of versions as the statement lays it; arguments that are texts, bytes and slices of texts. -/
namespace Go.Proofs.YtodjilljcjkacaaGreatDoor
open Go.RowKit Go.ChangeShapes Go.WideShapes

theorem cellsArr10 : Tryz.prog.cellsOf 230 = 10 := by kernel_rfl
theorem gVers : Tryz.prog.globalNamed "lamplighter/msh.versions" = some 3 := by kernel_rfl
theorem gtVers : (Tryz.prog.globals[3]?).map (·.type) = some 230 := by kernel_rfl
theorem ba_of_list {s : ByteArray} {l : List UInt8} (h : s.data.toList = l) : s = ⟨l.toArray⟩ := by
  subst h
  apply ByteArray.ext
  simp
set_option maxRecDepth 100000 in
theorem vers_of_laid {W : World} {rest : List (String × DataW Unit)} (h : laidMet Tryz.prog (("lamplighter/msh.versions", Rows.laid_lamplighter_msh_versions) :: rest) W) : Vers W := by
  obtain ⟨ps, ⟨g', t', cs, fuel, p, q, hg', ht', hvar, hd, _, _⟩, _⟩ := h
  obtain rfl := Option.some.inj (gVers.symm.trans hg')
  obtain rfl := Option.some.inj (gtVers.symm.trans ht')
  have hcell := fun i => World.var?_cell gVers hvar i
  obtain ⟨xs, m, _, hx, hl, hn, hi⟩ := DataW.trod_array Tryz.underlying230 hd
  obtain ⟨l⟩ := cs
  simp only [Prod.mk.injEq] at hx hl hi
  have h0 := hi 0 (by omega)
  have h1 := hi 1 (by omega)
  have h2 := hi 2 (by omega)
  have h3 := hi 3 (by omega)
  have h4 := hi 4 (by omega)
  have h5 := hi 5 (by omega)
  have h6 := hi 6 (by omega)
  have h7 := hi 7 (by omega)
  have h8 := hi 8 (by omega)
  have h9 := hi 9 (by omega)
  rw [cellsStr] at h0 h1 h2 h3 h4 h5 h6 h7 h8 h9
  rw [cellsArr10] at hl
  match xs, hn with
  | [x0, x1, x2, x3, x4, x5, x6, x7, x8, x9], _ =>
    obtain ⟨s0, e0, rfl, _⟩ := DataW.trod_string Tryz.underlying9 h0
    obtain ⟨s1, e1, rfl, _⟩ := DataW.trod_string Tryz.underlying9 h1
    obtain ⟨s2, e2, rfl, _⟩ := DataW.trod_string Tryz.underlying9 h2
    obtain ⟨s3, e3, rfl, _⟩ := DataW.trod_string Tryz.underlying9 h3
    obtain ⟨s4, e4, rfl, _⟩ := DataW.trod_string Tryz.underlying9 h4
    obtain ⟨s5, e5, rfl, _⟩ := DataW.trod_string Tryz.underlying9 h5
    obtain ⟨s6, e6, rfl, _⟩ := DataW.trod_string Tryz.underlying9 h6
    obtain ⟨s7, e7, rfl, _⟩ := DataW.trod_string Tryz.underlying9 h7
    obtain ⟨s8, e8, rfl, _⟩ := DataW.trod_string Tryz.underlying9 h8
    obtain ⟨s9, e9, rfl, _⟩ := DataW.trod_string Tryz.underlying9 h9
    match l, hl with
    | [v0, v1, v2, v3, v4, v5, v6, v7, v8, v9], _ =>
      simp at e0 e1 e2 e3 e4 e5 e6 e7 e8 e9
      simp [Rows.laid_lamplighter_msh_versions] at hx
      subst e0 e1 e2 e3 e4 e5 e6 e7 e8 e9
      obtain ⟨⟨y0, y1, y2, y3, y4, y5, y6, y7, y8, y9⟩, _⟩ := hx
      have z0 : s0 = vB 0 := ba_of_list y0.symm
      have z1 : s1 = vB 1 := ba_of_list y1.symm
      have z2 : s2 = vB 2 := ba_of_list y2.symm
      have z3 : s3 = vB 3 := ba_of_list y3.symm
      have z4 : s4 = vB 4 := ba_of_list y4.symm
      have z5 : s5 = vB 5 := ba_of_list y5.symm
      have z6 : s6 = vB 6 := ba_of_list y6.symm
      have z7 : s7 = vB 7 := ba_of_list y7.symm
      have z8 : s8 = vB 8 := ba_of_list y8.symm
      have z9 : s9 = vB 9 := ba_of_list y9.symm
      subst z0 z1 z2 z3 z4 z5 z6 z7 z8 z9
      exact ⟨hcell 0, hcell 1, hcell 2, hcell 3, hcell 4, hcell 5, hcell 6, hcell 7, hcell 8, hcell 9⟩
end Go.Proofs.YtodjilljcjkacaaGreatDoor

/- An argument that is a head. -/
namespace Go.Proofs.YtodjilljcjkacaaGreatDoor
open Go.RowKit Go.ChangeShapes Go.WideShapes

end Go.Proofs.YtodjilljcjkacaaGreatDoor

/- The table of codes as the statement lays it; arguments that are heads. -/
namespace Go.Proofs.YtodjilljcjkacaaGreatDoor
open Go.RowKit Go.ChangeShapes Go.WideShapes

theorem cellsArr3s : Tryz.prog.cellsOf 179 = 3 := by kernel_rfl
theorem gCds : Tryz.prog.globalNamed "lamplighter/ack.codes" = some 1 := by kernel_rfl
theorem gtCds : (Tryz.prog.globals[1]?).map (·.type) = some 179 := by kernel_rfl
theorem ba_of_list3 {s : ByteArray} {l : List UInt8} (h : s.data.toList = l) : s = ⟨l.toArray⟩ := by
  subst h
  apply ByteArray.ext
  simp
set_option maxRecDepth 100000 in
theorem cds_of_laid {W : World} {rest : List (String × DataW Unit)} (h : laidMet Tryz.prog (("lamplighter/ack.codes", Rows.laid_lamplighter_ack_codes) :: rest) W) : Cds W := by
  obtain ⟨ps, ⟨g', t', cs, fuel, p, q, hg', ht', hvar, hd, _, _⟩, _⟩ := h
  obtain rfl := Option.some.inj (gCds.symm.trans hg')
  obtain rfl := Option.some.inj (gtCds.symm.trans ht')
  have hcell := fun i => World.var?_cell gCds hvar i
  obtain ⟨xs, m, _, hx, hl, hn, hi⟩ := DataW.trod_array Tryz.underlying179 hd
  obtain ⟨l⟩ := cs
  simp only [Prod.mk.injEq] at hx hl hi
  have h0 := hi 0 (by omega)
  have h1 := hi 1 (by omega)
  have h2 := hi 2 (by omega)
  rw [cellsStr] at h0 h1 h2
  rw [cellsArr3s] at hl
  match xs, hn with
  | [x0, x1, x2], _ =>
    obtain ⟨s0, e0, rfl, _⟩ := DataW.trod_string Tryz.underlying9 h0
    obtain ⟨s1, e1, rfl, _⟩ := DataW.trod_string Tryz.underlying9 h1
    obtain ⟨s2, e2, rfl, _⟩ := DataW.trod_string Tryz.underlying9 h2
    match l, hl with
    | [v0, v1, v2], _ =>
      simp at e0 e1 e2
      simp [Rows.laid_lamplighter_ack_codes] at hx
      subst e0 e1 e2
      obtain ⟨⟨y0, y1, y2⟩, _⟩ := hx
      have z0 : s0 = cB 0 := ba_of_list3 y0.symm
      have z1 : s1 = cB 1 := ba_of_list3 y1.symm
      have z2 : s2 = cB 2 := ba_of_list3 y2.symm
      subst z0 z1 z2
      exact ⟨hcell 0, hcell 1, hcell 2⟩
end Go.Proofs.YtodjilljcjkacaaGreatDoor

/- The three tables as the statements lay them. -/
namespace Go.Proofs.YtodjilljcjkacaaGreatDoor
open Go.RowKit Go.ChangeShapes Go.WideShapes

theorem laid_tail {P : Program} {x : String × DataW Unit} {r : List (String × DataW Unit)} {w : World} (h : laidMet P (x :: r) w) : laidMet P r w := by
  obtain ⟨ps, hl, hn, hc⟩ := h
  obtain ⟨n, d⟩ := x
  obtain ⟨g, t, cs, fuel, p, q, h1, h2, h3, h4, h5, rfl⟩ := hl
  exact ⟨q, h5, (List.nodup_append.1 hn).2.1, fun b off hm => hc b off (List.mem_append_right _ hm)⟩
theorem gSgs : Tryz.prog.globalNamed "lamplighter/frame.signs" = some 0 := by kernel_rfl
theorem gtSgs : (Tryz.prog.globals[0]?).map (·.type) = some 132 := by kernel_rfl
theorem gcSgs : Tryz.prog.cellsOf 132 = 3 := by kernel_rfl
theorem geSgs : Tryz.prog.cellsOf 5 = 1 := by kernel_rfl
theorem signs_of_laid {W : World} {rest : List (String × DataW Unit)} (h : laidMet Tryz.prog (("lamplighter/frame.signs", Rows.laid_lamplighter_frame_signs) :: rest) W) : Signs W := by
  have t : Lib.TabIs Tryz.prog W "lamplighter/frame.signs" .u8 [11, 28, 13] := Lib.tabIs_of_head (rest := rest) gSgs gtSgs Tryz.underlying132 Tryz.underlying5 geSgs gcSgs h
  exact ⟨t.cell gSgs 0 (by decide), t.cell gSgs 1 (by decide), t.cell gSgs 2 (by decide)⟩
theorem acc_laid {W : World} (h : laidMet Tryz.prog [("lamplighter/frame.signs", Rows.laid_lamplighter_frame_signs), ("lamplighter/msh.versions", Rows.laid_lamplighter_msh_versions), ("lamplighter/ack.codes", Rows.laid_lamplighter_ack_codes)] W) : Vers W ∧ Signs W ∧ Cds W :=
  ⟨vers_of_laid (laid_tail h), signs_of_laid h, cds_of_laid (laid_tail (laid_tail h))⟩
end Go.Proofs.YtodjilljcjkacaaGreatDoor
/- InboxTakes: whatever the input, the law's call returns true, and the arguments read afterwards as before. No condition of ours. -/
namespace Go.Proofs.YtodjilljcjkacaaGreatDoor.inboxTakes
open Go.ChangeShapes Go.WideShapes Go.ChangeAt Go.RowKit
open Go.ChangeMaps (open_string shut_string)
set_option linter.unusedVariables false


set_option maxRecDepth 100000 in
/-- what the walk gives, for every argument -/
theorem contract (H : Type) (enc : TypeId × Value → H) (W : World) (base : Nat) (args : Array Value) (ds gs : List (DataW H)) (before : List MemPlace)
    (hval : ∀ (j : Nat) t v, Tryz.f7.params[j]? = some t → args[j]? = some v → Value.okWide Tryz.prog W .any base t v)
    (hW : DataW.Whole enc Tryz.prog Tryz.f7.params.toList Rows.inboxTakesSpec.vars false W args.toList ds gs before)
    (hsz0 : (DataW.weightsEach Tryz.prog (Tryz.f7.params.toList ++ Rows.inboxTakesSpec.plain.varTypes Tryz.prog) (ds ++ gs)).all (· ≤ reachBytes) = true) (hL : laidMetH Tryz.prog Rows.inboxTakesRow.laid W) (hSh : W.ShapedOpen Tryz.prog) :
    Calls Tryz.prog 7 args W fun e W' => ∃ v, e = .returned v ∧ Rows.inboxTakesSpec.post enc Tryz.prog Tryz.f7 false true false false W args v W' := by
  have hW' := hW
  obtain ⟨p, q, hA0, hV, rfl, hfz, hnd⟩ := hW
  have hA : DataW.TrodAll enc Tryz.prog W 0 (fun _ => true) true Tryz.f7.params.toList args.toList ds p := hA0
  rw [Tryz.params7] at hA hval hsz0
  obtain ⟨v0, vs0, d0, ds0, p0, q0, hargs, rfl, rfl, h0, r0⟩ := trodAll_cons hA
  obtain ⟨v1, vs1, d1, ds1, p1, q1, rfl, rfl, rfl, h1, r1⟩ := trodAll_cons r0
  obtain ⟨rfl, rfl, rfl⟩ := trodAll_nil r1
  obtain rfl : args = #[v0, v1] := by cases args; simp_all
  obtain ⟨rfl, rfl⟩ := trodVars_none hV
  have hsz : (DataW.weightsEach Tryz.prog [40, 5] [d0, d1]).all (· ≤ reachBytes) = true := by
    have hv : Rows.inboxTakesSpec.plain.varTypes Tryz.prog = [] := rfl
    rw [hv] at hsz0
    simpa using hsz0
  obtain ⟨A0, n0, c0, rfl⟩ := okWide_slice Tryz.underlying40 (hval 0 40 v0 rfl rfl)
  have k0 := h0
  have lt0 : ∀ x ∈ p0, x.block < W.heap.size := by obtain ⟨m, hm⟩ := k0; exact DataW.trod_lt m _ _ _ hm
  obtain ⟨l0, B0, R0⟩ := open_bytes h0 0 rfl rfl hsz
  obtain ⟨y1, rfl, rfl, rfl, wf1⟩ := open_int Tryz.underlying5 (hval 1 5 v1 rfl rfl) h1
  obtain ⟨x1, rfl⟩ := u8_of_wf wf1
  clear hA0
  refine (inboxTakes_walk A0 n0 c0 l0 x1 W (acc_laid hL) B0 R0 ).mono fun e W' ⟨he, bel⟩ => ?_
  subst he
  exact ⟨_, rfl, _, _, _, [], _, [], hW', trodAll_mk1 (shut_bool Tryz.underlying4 _), (trodAll_cons_mk (Below.trod laidOut (by kernel_rfl) (of_decide_eq_true (by kernel_rfl)) k0 bel lt0) (trodAll_cons_mk (shut_int Tryz.underlying5 wf1) trodAll_mk0)), rfl, bel.frame _, fun h => by cases h⟩

/-- a world in which the listed variables hold what the program's text lays -/
noncomputable def laidWorld (os : Os) : World :=
  { World.holding Tryz.prog os ⟨#[], #[], []⟩ with heap := ((((World.holding Tryz.prog os ⟨#[], #[], []⟩).heap.modify 0 fun
      | .cells _ t frozen => .cells #[.int .u8 11, .int .u8 28, .int .u8 13] t frozen
      | o => o).modify 3 fun
      | .cells _ t frozen => .cells #[.string ⟨#[50, 46, 49]⟩, .string ⟨#[50, 46, 50]⟩, .string ⟨#[50, 46, 51]⟩, .string ⟨#[50, 46, 51, 46, 49]⟩, .string ⟨#[50, 46, 52]⟩, .string ⟨#[50, 46, 53]⟩, .string ⟨#[50, 46, 53, 46, 49]⟩, .string ⟨#[50, 46, 54]⟩, .string ⟨#[50, 46, 55]⟩, .string ⟨#[50, 46, 56]⟩] t frozen
      | o => o).modify 1 fun
      | .cells _ t frozen => .cells #[.string ⟨#[65, 65]⟩, .string ⟨#[65, 69]⟩, .string ⟨#[65, 82]⟩] t frozen
      | o => o) }
theorem laid_met (os : Os) : laidMet Tryz.prog Rows.inboxTakesRow.laid ((laidWorld os).forCall (fun _ _ => 0) ⟨#[], #[.slice none 0 0, .int .u8 0], []⟩).memory :=
  laidMet_of_run' 8 (by kernel_rfl) (by kernel_rfl)
theorem reads (os : Os) {H : Type} (enc : TypeId × Value → H) : ∃ places, DataW.whole enc Tryz.prog ((laidWorld os).forCall (fun _ _ => 0) ⟨#[], #[.slice none 0 0, .int .u8 0], []⟩).memory Tryz.f7.params.toList Rows.inboxTakesSpec.vars false (#[.slice none 0 0, .int .u8 0] : Array Value).toList 8 = some ([.nil, .lit (.int .u8 0)], [], places) :=
  ⟨[], by kernel_rfl⟩

set_option maxRecDepth 100000 in
theorem lifted (os : Os) (started : os.Started) (H : Type) (enc : TypeId × Value → H) (F : Stop.Interp) :
    ReturnsInHanded {} Tryz.checked os 7 .any ((OpenSpec.ofChange Rows.inboxTakesSpec).preRow enc Tryz.prog Tryz.f7 Rows.inboxTakesRow.domain false Rows.inboxTakesRow.laid) (((OpenSpec.ofChange Rows.inboxTakesSpec).at F).post enc Tryz.prog Tryz.f7 false true false false) := by
  obtain ⟨places, hx⟩ := reads os enc
  refine returnsInHanded_of_row (C := Tryz.checked) (s := (OpenSpec.ofChange Rows.inboxTakesSpec)) own started (by kernel_rfl) Tryz.func7
    (witness_row_at (enc := enc) (C := Tryz.checked) false (laidWorld os) #[.slice none 0 0, .int .u8 0] rfl (by kernel_rfl) (by kernel_rfl) (by kernel_rfl)
      (OpenSpec.preRow_of_cond 8 hx (by kernel_rfl) (fun k hk => by cases hk) (by kernel_rfl) (laid_met os))) ?_
  intro W base args ds gs before hval hW _ hcond hsz hL hSh _
  exact contract H enc W base args ds gs before hval hW hsz hL hSh

theorem said : Rows.InboxTakesSaid :=
  OpenClaim.holds_of_cond 7 Tryz.f7 rfl rfl rfl rfl rfl rfl rfl ⟨rfl, rfl, rfl, rfl, rfl⟩ rfl rfl rfl rfl rfl (by kernel_rfl) Tryz.func7 (by kernel_rfl)
    (of_decide_eq_true (by kernel_rfl)) (by unfold Func.isWrapper; first | (rw [if_pos (by decide +kernel)]; kernel_rfl) | (rw [if_neg (by decide +kernel)]; exact ⟨rfl, rfl⟩))
    (fun os started H enc _ F => by rw [OpenClaim.pre_eq_preRow]; exact lifted os started H enc F)

theorem plain (f : FuncId) (fn : Func) (hf : Tryz.pinned.checked.prog.funcNamed "lamplighter/lamplighterlaw17.InboxTakes" = some f) (hfn : Tryz.pinned.checked.prog.funcs[f]? = some fn) :
    true = Tryz.pinned.checked.prog.looks [] ∧ ∀ (j : Nat) t, fn.params[j]? = some t → Tryz.pinned.checked.prog.wantsStandIn t = false := by
  obtain rfl : f = 7 := Option.some.inj ((show Tryz.prog.funcNamed "lamplighter/lamplighterlaw17.InboxTakes" = some 7 by kernel_rfl).symm.trans hf) |>.symm
  obtain rfl : fn = Tryz.f7 := (Option.some.inj (Tryz.func7.symm.trans hfn)).symm
  refine ⟨by kernel_rfl, fun j t ht => ?_⟩
  rw [Tryz.params7] at ht

  have z40 : Tryz.prog.wantsStandIn 40 = false := by kernel_rfl
  have z5 : Tryz.prog.wantsStandIn 5 = false := by kernel_rfl
  rcases j with _ | _ | j
  · obtain rfl : t = 40 := by simpa using ht.symm
    exact z40
  · obtain rfl : t = 5 := by simpa using ht.symm
    exact z5
  · simp at ht

/-- the card -/
theorem card : Rows.InboxTakesCardSaid :=
  Claim7.holds_tied_plain_at .later [] _ _ _ _ said (fun _ h => by cases h) (by kernel_rfl) (fun _ h => by cases h) inboxTakes_row_tie rfl ⟨rfl, rfl⟩ (by kernel_rfl) rfl plain (by kernel_rfl)
end Go.Proofs.YtodjilljcjkacaaGreatDoor.inboxTakes
