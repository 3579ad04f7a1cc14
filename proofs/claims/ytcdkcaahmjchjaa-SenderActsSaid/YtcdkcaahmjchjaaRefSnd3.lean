/- Layer 16: the document's Tick, walked; it goes along with the sender's. -/
import Derived.Test.YtcdkcaahmjchjaaRefSnd2
namespace Go.Proofs.Ytcdkcaahmjchjaa
open Go.RowKit
set_option linter.unusedVariables false

def tick2R (r : Ref) (n : Int) : Ref := if r.rests then (if n < r.left then { r with left := r.left - n } else { r with rests := false, left := 0 }) else r
def tickRf (r : Ref) (n : Int) : Ref := if r.flying then (if n < r.left then { r with left := r.left - n } else tick2R (failR r) (n - r.left)) else tick2R r n
def Ref.Left_ (r : Ref) : Prop := 0 ≤ r.left ∧ r.left ≤ 1099511627776
theorem failR_left (r : Ref) (ok : r.Ok) : (failR r).Left_ := by
  have := nextD_bounds r.base r.cap r.F r.tries.toNat ok.c.1 ok.c.2
  have := ok.c.2
  refine ⟨?_, ?_⟩
  · show 0 ≤ nextD r.base r.cap r.F r.tries.toNat; omega
  · show nextD r.base r.cap r.F r.tries.toNat ≤ _; omega
theorem failR_flying (r : Ref) : (failR r).flying = false := rfl

set_option maxRecDepth 100000 in
set_option maxHeartbeats 2000000 in
theorem refTick_neg (w : World) (g : Nat) (s : Ref) (n : Int) (h : IsRef w g s) (hn : n < 0) : Calls Try.prog 25 #[.pointer (some ⟨g, 0, none⟩), .int .i64 n] w
    (RefRet (.int .i64 3) g s w) := by
  have H := Lib.hid h
  clear h
  go_enter Try.func25, Try.ntmps25
  go_wp2
  go_ret
  exact ⟨rfl, H.out, grown_refl _ _⟩

set_option maxRecDepth 100000 in
set_option maxHeartbeats 4000000 in
theorem refTick_rest (w : World) (g : Nat) (s : Ref) (n : Int) (h : IsRef w g s) (hn : 0 ≤ n) (hk : s.flying = false) (hl : s.Left_) : Calls Try.prog 25 #[.pointer (some ⟨g, 0, none⟩), .int .i64 n] w
    (RefRet (.int .i64 0) g (tickRf s n) w) := by
  have H := Lib.hid h
  have z7 : w.cell? ⟨g, 7, none⟩ = some (.bool false) := by rw [← hk]; exact h.cell 7
  have z9 : w.cell? ⟨g, 9, none⟩ = some (.int .i64 s.left) := h.cell 9
  have f8 := h.frozen 8
  have f9 := h.frozen 9
  have hl1 := hl.1
  have hl2 := hl.2
  have hE : tickRf s n = tick2R s n := by unfold tickRf; rw [hk, if_neg (by decide)]
  rw [hE]
  cases hr : s.rests with
  | true =>
    have z8 : w.cell? ⟨g, 8, none⟩ = some (.bool true) := by rw [← hr]; exact h.cell 8
    by_cases hlt : n < s.left
    · have hE2 : tick2R s n = { s with left := s.left - n } := by unfold tick2R; rw [hr, if_pos rfl, if_pos hlt]
      rw [hE2]
      clear h hE hE2 hk hl hr
      go_enter Try.func25, Try.ntmps25
      go_wp2
      go_ret
      exact ⟨rfl, H.out.set 9 _ rfl, grown_set w g 9 _⟩
    · have hE2 : tick2R s n = { s with rests := false, left := 0 } := by unfold tick2R; rw [hr, if_pos rfl, if_neg hlt]
      rw [hE2]
      clear h hE hE2 hk hl hr
      go_enter Try.func25, Try.ntmps25
      go_wp2
      go_ret
      exact ⟨rfl, (H.out.set (s' := { s with rests := false }) 8 _ rfl).set 9 _ rfl, (grown_set w g 8 _).trans (grown_set _ g 9 _)⟩
  | false =>
    have z8 : w.cell? ⟨g, 8, none⟩ = some (.bool false) := by rw [← hr]; exact h.cell 8
    have hE2 : tick2R s n = s := by unfold tick2R; rw [hr, if_neg (by decide)]
    rw [hE2]
    clear h hE hE2 hk hl hr
    go_enter Try.func25, Try.ntmps25
    go_wp2
    go_ret
    exact ⟨rfl, H.out, grown_refl _ _⟩

set_option maxRecDepth 100000 in
set_option maxHeartbeats 4000000 in
theorem refTick_fly (w : World) (g : Nat) (s : Ref) (n : Int) (h : IsRef w g s) (hn : 0 ≤ n) (hn2 : n ≤ 9223372036854775807) (hk : s.flying = true) (hl : s.Left_) (ok : s.Ok) : Calls Try.prog 25 #[.pointer (some ⟨g, 0, none⟩), .int .i64 n] w
    (RefRet (.int .i64 0) g (tickRf s n) w) := by
  have H := Lib.hid h
  have z7 : w.cell? ⟨g, 7, none⟩ = some (.bool true) := by rw [← hk]; exact h.cell 7
  have z9 : w.cell? ⟨g, 9, none⟩ = some (.int .i64 s.left) := h.cell 9
  have f9 := h.frozen 9
  have hl1 := hl.1
  have hl2 := hl.2
  by_cases hlt : n < s.left
  · have hE : tickRf s n = { s with left := s.left - n } := by unfold tickRf; rw [hk, if_pos rfl, if_pos hlt]
    rw [hE]
    clear h hE hk hl ok
    go_enter Try.func25, Try.ntmps25
    go_wp2
    go_ret
    exact ⟨rfl, H.out.set 9 _ rfl, grown_set w g 9 _⟩
  · have hE : tickRf s n = tick2R (failR s) (n - s.left) := by unfold tickRf; rw [hk, if_pos rfl, if_neg hlt]
    rw [hE]
    have hF2 := failR_left s ok
    have CF := Lib.hid (refFail w g s h ok)
    obtain ⟨s', hs'⟩ : ∃ s', s' = failR s := ⟨_, rfl⟩
    rw [← hs'] at hF2 CF ⊢
    have hle : s.left ≤ n := by omega
    have hG1 := hF2.1
    have hG2 := hF2.2
    clear h hE hk hl ok hF2 hs' hlt
    cases hr : s'.rests with
    | true =>
      by_cases hlt : n - s.left < s'.left
      · have hE2 : tick2R s' (n - s.left) = { s' with left := s'.left - (n - s.left) } := by unfold tick2R; rw [hr, if_pos rfl, if_pos hlt]
        rw [hE2]
        clear hE2
        go_enter Try.func25, Try.ntmps25
        go_wp2_with (fail)
        refine CF.out.mono ?_
        rintro e w2 ⟨rfl, hs2, hg2⟩
        have H2 := Lib.hid hs2
        have G2 := Lib.hid hg2
        have y8 : w2.cell? ⟨g, 8, none⟩ = some (.bool true) := by rw [← hr]; exact hs2.cell 8
        have y9 : w2.cell? ⟨g, 9, none⟩ = some (.int .i64 s'.left) := hs2.cell 9
        have f9' := hs2.frozen 9
        clear hs2 hg2 z7 z9 f9 hr
        go_wp2
        go_ret
        exact ⟨rfl, H2.out.set 9 _ rfl, G2.out.trans (grown_set w2 g 9 _)⟩
      · have hE2 : tick2R s' (n - s.left) = { s' with rests := false, left := 0 } := by unfold tick2R; rw [hr, if_pos rfl, if_neg hlt]
        rw [hE2]
        clear hE2
        go_enter Try.func25, Try.ntmps25
        go_wp2_with (fail)
        refine CF.out.mono ?_
        rintro e w2 ⟨rfl, hs2, hg2⟩
        have H2 := Lib.hid hs2
        have G2 := Lib.hid hg2
        have y8 : w2.cell? ⟨g, 8, none⟩ = some (.bool true) := by rw [← hr]; exact hs2.cell 8
        have y9 : w2.cell? ⟨g, 9, none⟩ = some (.int .i64 s'.left) := hs2.cell 9
        have f8' := hs2.frozen 8
        have f9' := hs2.frozen 9
        clear hs2 hg2 z7 z9 f9 hr
        go_wp2
        go_ret
        exact ⟨rfl, (H2.out.set (s' := { s' with rests := false }) 8 _ rfl).set 9 _ rfl, G2.out.trans ((grown_set w2 g 8 _).trans (grown_set _ g 9 _))⟩
    | false =>
      have hE2 : tick2R s' (n - s.left) = s' := by unfold tick2R; rw [hr, if_neg (by decide)]
      rw [hE2]
      clear hE2
      go_enter Try.func25, Try.ntmps25
      go_wp2_with (fail)
      refine CF.out.mono ?_
      rintro e w2 ⟨rfl, hs2, hg2⟩
      have H2 := Lib.hid hs2
      have G2 := Lib.hid hg2
      have y8 : w2.cell? ⟨g, 8, none⟩ = some (.bool false) := by rw [← hr]; exact hs2.cell 8
      clear hs2 hg2 z7 z9 f9 hr
      go_wp2
      go_ret
      exact ⟨rfl, H2.out, G2.out⟩

theorem refTick (w : World) (g : Nat) (s : Ref) (n : Int) (h : IsRef w g s) (hn : 0 ≤ n) (hn2 : n ≤ 9223372036854775807) (hl : s.Left_) (ok : s.Ok) : Calls Try.prog 25 #[.pointer (some ⟨g, 0, none⟩), .int .i64 n] w
    (RefRet (.int .i64 0) g (tickRf s n) w) := by
  cases hk : s.flying with
  | true => exact refTick_fly w g s n h hn hn2 hk hl ok
  | false => exact refTick_rest w g s n h hn hk hl

/-- the document's sender that goes along with s -/
def toRef (s : Snd) : Ref := ⟨s.base, s.cap, s.timeout, s.F, s.pos, s.known, s.kind == 1, s.kind == 2, s.left, s.tries⟩
/-- what holds besides -/
structure Inv2 (s : Snd) : Prop where
  k : s.kind = 0 ∨ s.kind = 1 ∨ s.kind = 2
  z : s.kind = 0 → s.left = 0
theorem restS_inv2 (s : Snd) (n : Int) : Inv2 (restS s n) := by
  unfold restS
  split
  · exact ⟨.inl rfl, fun _ => rfl⟩
  · exact ⟨.inr (.inr rfl), fun h => absurd (show (2 : Int) = 0 from h) (by omega)⟩
theorem failS_inv2 (s : Snd) : Inv2 (failS s) := restS_inv2 _ _
theorem tickR_inv2 {s : Snd} (h : Inv2 s) (n : Int) : Inv2 (tickR s n) := by
  unfold tickR
  split
  · exact restS_inv2 _ _
  · exact h
theorem tickS_inv2 {s : Snd} (h : Inv2 s) (n : Int) : Inv2 (tickS s n) := by
  unfold tickS
  split
  · rename_i hk
    split
    · exact ⟨.inr (.inl hk), fun h0 => absurd (show s.kind = 0 from h0) (by omega)⟩
    · exact tickR_inv2 (failS_inv2 s) _
  · exact tickR_inv2 h n
theorem pollS_inv2 {s : Snd} (h : Inv2 s) : Inv2 (pollS s) := by
  unfold pollS
  split
  · exact ⟨.inr (.inl rfl), fun h0 => absurd (show (1 : Int) = 0 from h0) (by omega)⟩
  · exact h
theorem answerS_inv2 {s : Snd} (h : Inv2 s) (b : Bool) : Inv2 (answerS s b) := by
  unfold answerS
  split
  · split
    · exact ⟨.inl rfl, fun _ => rfl⟩
    · exact failS_inv2 s
  · exact h
theorem toRef_rest (s : Snd) (n : Int) (h0 : 0 ≤ n) : toRef (restS s n) = { toRef s with flying := false, rests := decide (0 < n), left := n } := by
  unfold restS
  by_cases hz : n = 0
  · rw [if_pos hz]
    subst hz
    rfl
  · rw [if_neg hz]
    have : decide (0 < n) = true := by simp; omega
    rw [this]
    rfl
theorem toRef_fail (s : Snd) (ok : s.Ok) : toRef (failS s) = failR (toRef s) := by
  have hd := nextD_bounds s.base s.cap s.F s.tries.toNat ok.2.1.1 ok.2.1.2
  unfold failS
  rw [toRef_rest _ _ hd.1]
  rfl
theorem toRef_tickR (s : Snd) (n : Int) (hn : 0 ≤ n) (hl : s.Left_) (h2 : Inv2 s) (h1 : s.kind ≠ 1) : toRef (tickR s n) = tick2R (toRef s) n := by
  have hl1 := hl.1
  unfold tickR tick2R
  by_cases hk : s.kind = 2
  · rw [if_pos hk, if_pos (show (toRef s).rests = true from by show (s.kind == 2) = true; simpa using hk)]
    have hf : (toRef s).flying = false := by show (s.kind == 1) = false; simpa using h1
    rw [toRef_rest _ _ (by omega)]
    by_cases hlt : n < s.left
    · rw [if_pos (show n < (toRef s).left from hlt)]
      have e1 : s.left - min n s.left = s.left - n := by omega
      have e2 : decide (0 < s.left - n) = (toRef s).rests := by
        show _ = (s.kind == 2)
        rw [hk]
        simp
        omega
      rw [e1, e2, ← hf]
      rfl
    · rw [if_neg (show ¬ n < (toRef s).left from hlt)]
      have e1 : s.left - min n s.left = 0 := by omega
      have e3 : ({ toRef s with rests := false, left := 0 } : Ref) = { toRef s with flying := false, rests := false, left := 0 } := by
        unfold toRef
        simp [hk]
      rw [e1, e3]
      rfl
  · rw [if_neg hk, if_neg (show ¬ (toRef s).rests = true from by show ¬ (s.kind == 2) = true; simpa using hk)]
theorem toRef_tick (s : Snd) (n : Int) (hn : 0 ≤ n) (hi : Inv s) (h2 : Inv2 s) : toRef (tickS s n) = tickRf (toRef s) n := by
  have hl1 := hi.left.1
  unfold tickS tickRf
  by_cases hk : s.kind = 1
  · rw [if_pos hk, if_pos (show (toRef s).flying = true from by show (s.kind == 1) = true; simpa using hk)]
    by_cases hlt : n < s.left
    · rw [if_pos hlt, if_pos (show n < (toRef s).left from hlt)]
      rfl
    · rw [if_neg hlt, if_neg (show ¬ n < (toRef s).left from hlt)]
      rw [toRef_tickR _ _ (by omega) (failS_left s hi.ok) (failS_inv2 s) (failS_kind s).1, toRef_fail s hi.ok]
      rfl
  · rw [if_neg hk, if_neg (show ¬ (toRef s).flying = true from by show ¬ (s.kind == 1) = true; simpa using hk)]
    exact toRef_tickR s n hn hi.left h2 hk
theorem toRef_answer (s : Snd) (b : Bool) (ok : s.Ok) : toRef (answerS s b) = answerR (toRef s) b := by
  unfold answerS answerR
  by_cases hk : s.kind = 1
  · rw [if_pos hk, if_pos (show (toRef s).flying = true from by show (s.kind == 1) = true; simpa using hk)]
    cases b
    · exact toRef_fail s ok
    · show toRef { s with pos := s.pos + 1, tries := 0, kind := 0, left := 0 } = { toRef s with flying := false, left := 0, tries := 0, pos := s.pos + 1 }
      unfold toRef
      simp [hk]
  · rw [if_neg hk, if_neg (show ¬ (toRef s).flying = true from by show ¬ (s.kind == 1) = true; simpa using hk)]
theorem toRef_ok {s : Snd} (h : s.Ok) : (toRef s).Ok := ⟨h.1, h.2.1, h.2.2⟩
end Go.Proofs.Ytcdkcaahmjchjaa
