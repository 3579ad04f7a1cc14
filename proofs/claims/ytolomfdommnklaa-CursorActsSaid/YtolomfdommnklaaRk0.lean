/- The document's disk in memory: a row of files in the order of their names; what a change leaves. -/
import Derived.Test.YtolomfdommnklaaDk2
namespace Go.Proofs.Ytolomfdommnklaa
open Go.RowKit Go.MapKept

/-- the document's disk's numbers -/
structure Rk where
  size : Int
  count : Int
  armed : Int
  keep : Int
  fail : Int
abbrev TRD : TypeId := 42
abbrev TRF : TypeId := 60
abbrev TRL : TypeId := 40
abbrev pR (G : Nat) : Value := .pointer (some ⟨G, 0, none⟩)
abbrev rkCells (v : Value) (r : Rk) : Array Value := #[v, .int .i64 r.size, .int .i64 r.count, .int .i64 r.armed, .int .i64 r.keep, .int .i64 r.fail]
abbrev rkObj (v : Value) (r : Rk) : Obj := .cells (rkCells v r) TRD
abbrev rfC (e : ByteArray × Fl) (d : Value) : List Value := [.string e.1, d, .int .i64 (e.2.safe : Int)]
def rfsC : Fs → List Value → List Value
  | e :: L, d :: P => rfC e d ++ rfsC L P
  | _, _ => []
theorem rfsC_len : ∀ {L : Fs} {P : List Value}, P.length = L.length → (rfsC L P).length = L.length * 3
  | [], [], _ => rfl
  | e :: L, d :: P, h => by
    have := rfsC_len (L := L) (P := P) (by simpa using h)
    simp only [rfsC, rfC, List.length_append, List.length_cons, List.length_nil, this]
    omega
theorem rfsC_at : ∀ {L : Fs} {P : List Value} {i : Nat} {e : ByteArray × Fl} {d : Value}, L[i]? = some e → P[i]? = some d → ∀ j, j < 3 → (rfsC L P)[i * 3 + j]? = (rfC e d)[j]?
  | [], _, _, _, _, h, _, _, _ => by simp at h
  | _ :: _, [], _, _, _, _, h, _, _ => by simp at h
  | y :: L, q :: P, 0, e, d, h, h', j, hj => by
    simp only [List.getElem?_cons_zero, Option.some.injEq] at h h'
    subst h h'
    simp only [rfsC, Nat.zero_mul, Nat.zero_add]
    rw [List.getElem?_append_left (by simp [rfC]; omega)]
  | y :: L, q :: P, i + 1, e, d, h, h', j, hj => by
    simp only [List.getElem?_cons_succ] at h h'
    have := rfsC_at h h' j hj
    simp only [rfsC]
    rw [List.getElem?_append_right (by simp [rfC]; omega), ← this]
    congr 1
    simp [rfC]
    omega
theorem rfsC_app : ∀ {L : Fs} {P : List Value} (M : Fs) (Q : List Value), P.length = L.length → rfsC (L ++ M) (P ++ Q) = rfsC L P ++ rfsC M Q
  | [], [], M, Q, _ => by simp [rfsC]
  | y :: L, q :: P, M, Q, h => by
    have := rfsC_app (L := L) (P := P) M Q (by simpa using h)
    simp only [List.cons_append, rfsC, this, List.append_assoc]
theorem frz {w : World} {g j : Nat} {C : Array Value} {t : TypeId} (h : w.heap[g]? = some (.cells C t)) : w.frozen? ⟨g, j, none⟩ = false := by
  simp only [World.frozen?, h]
  first | done | simp
/-- a slice that reads as bytes, in none of the blocks X -/
def DvX (X : Nat → Prop) (w : World) (v : Value) (l : List UInt8) : Prop := ∃ A m c, v = .slice A m c ∧ Bs w A m c l ∧ ∀ a, A = some a → m = 0 ∨ ¬ X a.block
section
variable {w w' : World} {B G : Nat} {E E' X Y : Nat → Prop} {r r' : Rk} {L L' : Fs} {v v' d : Value} {P P' : List Value}
theorem DvX.ch {l : List UInt8} (h : DvX X w v l) (hc : Ch X w w') (hY : ∀ b, b < w.heap.size → Y b → X b) : DvX Y w' v l := by
  obtain ⟨A, m, c, e, hB, hx⟩ := h
  refine ⟨A, m, c, e, ⟨hB.1, hB.2.1, hB.2.2.1, fun hn => ?_⟩, fun a ha => ?_⟩
  · obtain ⟨b, o, eA, hlt, hcell⟩ := hB.at_ hn
    refine ⟨b, o, eA, fun i x hi => ?_⟩
    have hne := (hx _ eA).resolve_left (by omega)
    have hb := hc.block b hlt hne
    have := hcell i x hi
    simp only [World.cell?, hb] at this ⊢
    exact this
  · by_cases h0 : m = 0
    · exact .inl h0
    · obtain ⟨b, o, eA, hlt, _⟩ := hB.at_ (by omega)
      rw [ha] at eA
      injection eA with eA
      subst eA
      exact .inr (fun hy => (hx _ ha).resolve_left h0 (hY _ hlt hy))
theorem Ch.wide {S S' : Nat → Prop} (h : Ch S w w') (hS : ∀ k, S k → S' k) : Ch S' w w' := ⟨h.os, h.tape, h.output, h.size, fun k hk hn => h.block k hk (fun hs => hn (hS k hs))⟩
/-- the blocks that hold the disk -/
abbrev RF (G : Nat) (v : Value) : Nat → Prop := fun k => k = G ∨ v.ownBlock = some k
structure RkAt (w : World) (B G : Nat) (E : Nat → Prop) (r : Rk) (L : Fs) (v : Value) (P : List Value) : Prop where
  hG : B ≤ G
  row : w.heap[G]? = some (rkObj v r)
  len : P.length = L.length
  own : w.ownsRow B TRF 3 v L.length (rfsC L P)
  dat : ∀ (i : Nat) (e : ByteArray × Fl) (d : Value), L[i]? = some e → P[i]? = some d → DvX (fun k => RF G v k ∨ E k) w d e.2.bs
theorem own3_ty {n : Nat} {e : TypeId} {xs : List Value} {s : Nat} (h : w.ownsRow B e s v n xs) (k : Nat) (hk : v.ownBlock = some k) : ∃ cur, w.heap[k]? = some (.cells cur e (0, 0)) := by
  rcases h.2 with ⟨rfl, _⟩ | ⟨g, cap, cur, rfl, _, h2, _⟩
  · cases hk
  · simp only [Value.ownBlock, Option.some.injEq] at hk
    subst hk
    exact ⟨cur, h2⟩
theorem own3_ch {n : Nat} {e : TypeId} {xs : List Value} {s : Nat} {S : Nat → Prop} (h : w.ownsRow B e s v n xs) (c : Ch S w w') (hS : ∀ k, v.ownBlock = some k → ¬ S k) : w'.ownsRow B e s v n xs := by
  refine ⟨h.1, ?_⟩
  rcases h.2 with hn | ⟨g, cap, cur, q, q1, q2, q3⟩
  · exact .inl hn
  · exact .inr ⟨g, cap, cur, q, q1, c.row q2 (hS g (by rw [q]; rfl)), q3⟩
theorem RkAt.lt (h : RkAt w B G E r L v P) : G < w.heap.size := (Array.getElem?_eq_some_iff.1 h.row).1
theorem RkAt.vne (h : RkAt w B G E r L v P) (k : Nat) (hk : v.ownBlock = some k) : k ≠ G := by
  rintro rfl
  obtain ⟨cur, hc⟩ := own3_ty h.own k hk
  rw [h.row] at hc
  simp only [Option.some.injEq, Obj.cells.injEq] at hc
  exact absurd hc.2.1 (by decide)
theorem RkAt.foot_lt (h : RkAt w B G E r L v P) {k : Nat} (hk : RF G v k) : B ≤ k ∧ k < w.heap.size := by
  rcases hk with rfl | hk
  · exact ⟨h.hG, h.lt⟩
  · exact World.ownsRow.lt h.own k hk
/-- others change, at a world in which they alone have -/
theorem RkAt.next {S : Nat → Prop} (h : RkAt w B G E r L v P) (c : Ch S w w') (hS : ∀ k, S k → E k) (hG : ¬ S G) (hv : ∀ k, v.ownBlock = some k → ¬ S k) (hE : ∀ k, k < w.heap.size → E' k → E k) : RkAt w' B G E' r L v P :=
  ⟨h.hG, c.row h.row hG, h.len, own3_ch h.own c hv, fun i e d h1 h2 => (h.dat i e d h1 h2).ch (c.wide (fun k hk => .inr (hS k hk))) (fun b hb hx => hx.elim .inl (fun h => .inr (hE b hb h)))⟩
theorem RkAt.below (h : RkAt w B G E r L v P) (hb : Below w.heap.size w w') : RkAt w' B G E r L v P :=
  h.next (S := fun _ => False) (Ch.of_below hb) (fun _ h => h.elim) (fun h => h) (fun _ _ h => h) (fun _ _ h => h)
/-- its numbers change -/
theorem RkAt.nums (h : RkAt w B G E r L v P) (c : Ch (At1 G) w w') (hr : w'.heap[G]? = some (rkObj v r')) : RkAt w' B G E r' L v P :=
  ⟨h.hG, hr, h.len, own3_ch h.own c (fun k hk => h.vne k hk), fun i e d h1 h2 => (h.dat i e d h1 h2).ch (c.wide (fun _ hk => .inl (.inl hk))) (fun _ _ h => h)⟩
theorem RkAt.cell (h : RkAt w B G E r L v P) (j : Nat) : w.cell? ⟨G, j, none⟩ = (rkCells v r)[j]? := cell_of_row w G j _ _ _ h.row
theorem RkAt.frozen (h : RkAt w B G E r L v P) (j : Nat) : w.frozen? ⟨G, j, none⟩ = false := by
  simp only [World.frozen?, h.row]
  simp
theorem RkAt.form (h : RkAt w B G E r L v P) : ∃ A c, v = .slice A L.length c ∧ L.length ≤ c ∧ c ≤ 9223372036854775807 := by
  rcases h.own.2 with ⟨rfl, h0⟩ | ⟨g, cap, cur, rfl, _, _, h3, h4, _⟩
  · exact ⟨none, 0, by rw [h0], by omega, by omega⟩
  · exact ⟨_, _, rfl, h3, by simpa only [maxLen] using h4⟩
theorem RkAt.at_ {A : Option Addr} {n c : Nat} (h : RkAt w B G E r L (.slice A n c) P) (hn : 0 < L.length) : ∃ g, A = some ⟨g, 0, none⟩ ∧ n = L.length ∧ (∀ i e, L[i]? = some e → ∃ d, P[i]? = some d ∧ w.cell? ⟨g, i * 3, none⟩ = some (.string e.1) ∧ w.cell? ⟨g, i * 3 + 1, none⟩ = some d ∧ w.cell? ⟨g, i * 3 + 2, none⟩ = some (.int .i64 (e.2.safe : Int))) := by
  rcases h.own.2 with ⟨_, h0⟩ | ⟨g, cap, cur, hv, _, _, _, _, _⟩
  · omega
  · injection hv with e1 e2 e3
    subst e1 e2 e3
    refine ⟨g, rfl, rfl, fun i e he => ?_⟩
    have hi : i < L.length := (List.getElem?_eq_some_iff.1 he).1
    have hp : P[i]? = some (P[i]'(by rw [h.len]; exact hi)) := List.getElem?_eq_getElem _
    refine ⟨_, hp, ?_, ?_, ?_⟩
    · have := h.own.cellAt (i * 3 + 0) (by omega)
      rw [rfsC_at he hp 0 (by omega)] at this
      exact this
    · have := h.own.cellAt (i * 3 + 1) (by omega)
      rw [rfsC_at he hp 1 (by omega)] at this
      exact this
    · have := h.own.cellAt (i * 3 + 2) (by omega)
      rw [rfsC_at he hp 2 (by omega)] at this
      exact this
end
/-- where a name stands -/
def fidx : Fs → ByteArray → Int
  | [], _ => -1
  | (m, _) :: r, n => if m = n then 0 else if fidx r n < 0 then -1 else fidx r n + 1
theorem fidx_none : ∀ {L : Fs} {n : ByteArray}, (∀ e ∈ L, e.1 ≠ n) → fidx L n = -1
  | [], _, _ => rfl
  | (m, f) :: r, n, h => by
    have ih := fidx_none (L := r) (n := n) (fun e he => h e (List.mem_cons_of_mem _ he))
    rw [fidx, if_neg (h (m, f) (by simp)), ih]
    rfl
theorem fidx_at : ∀ {A Q : Fs} {n : ByteArray} {f : Fl}, (∀ e ∈ A, e.1 ≠ n) → fidx (A ++ (n, f) :: Q) n = (A.length : Int)
  | [], Q, n, f, _ => by rw [List.nil_append, fidx, if_pos rfl]; rfl
  | (m, g) :: r, Q, n, f, h => by
    have ih := fidx_at (A := r) (Q := Q) (n := n) (f := f) (fun e he => h e (List.mem_cons_of_mem _ he))
    rw [List.cons_append, fidx, if_neg (h (m, g) (by simp)), ih, if_neg (by omega)]
    simp
theorem fs_split (L : Fs) (n : ByteArray) : (fget L n = none ∧ (∀ e ∈ L, e.1 ≠ n) ∧ fidx L n = -1) ∨ ∃ A f Q, L = A ++ (n, f) :: Q ∧ (∀ e ∈ A, e.1 ≠ n) ∧ fget L n = some f ∧ fidx L n = (A.length : Int) := by
  induction L with
  | nil => exact .inl ⟨rfl, (fun e he => by cases he), rfl⟩
  | cons p r ih =>
    obtain ⟨m, g⟩ := p
    by_cases hm : m = n
    · subst hm
      refine .inr ⟨[], g, r, rfl, (fun e he => by cases he), ?_, ?_⟩
      · simp [fget]
      · rw [fidx, if_pos rfl]; rfl
    · have hm' : ¬ n = m := fun e => hm e.symm
      rcases ih with ⟨h1, h2, h3⟩ | ⟨A, f, Q, h1, h2, h3, h4⟩
      · refine .inl ⟨?_, ?_, ?_⟩
        · simp [fget, hm', h1]
        · intro e he
          rcases List.mem_cons.1 he with rfl | he
          · exact hm
          · exact h2 e he
        · rw [fidx, if_neg hm, h3]; rfl
      · refine .inr ⟨(m, g) :: A, f, Q, by rw [h1]; rfl, ?_, ?_, ?_⟩
        · intro e he
          rcases List.mem_cons.1 he with rfl | he
          · exact hm
          · exact h2 e he
        · simp [fget, hm', h3]
        · rw [fidx, if_neg hm, h4, if_neg (by omega)]; simp
def sumB (L : Fs) : Nat := (L.map fun e => e.2.bs.length).sum
theorem sumB_take {L : Fs} {j : Nat} (h : j < L.length) : sumB (L.take (j + 1)) = sumB (L.take j) + L[j].2.bs.length := by
  unfold sumB
  rw [List.take_succ_eq_append_getElem h]
  simp only [List.map_append, List.map_cons, List.map_nil, List.sum_append, List.sum_cons, List.sum_nil, Nat.add_zero]
theorem sumB_take_le (L : Fs) (j : Nat) : sumB (L.take j) ≤ sumB L := by
  have : L = L.take j ++ L.drop j := (List.take_append_drop j L).symm
  conv => rhs; rw [this]
  unfold sumB
  simp only [List.map_append, List.sum_append]
  omega
section
variable {w w' : World} {B G : Nat} {E : Nat → Prop} {r : Rk} {L : Fs} {v : Value} {P : List Value}
set_option maxHeartbeats 4000000 in
set_option maxRecDepth 100000 in
theorem rkFind (h : RkAt w B G E r L v P) (nm : ByteArray) (hl : L.length ≤ 1000000) : Calls Try.prog 68 #[pR G, .string nm] w fun e w' => e = .returned (.int .i64 (fidx L nm)) ∧ w = w' := by
  obtain ⟨A, c, rfl, hc1, hc2⟩ := h.form
  have H := Lib.hid h
  have HL := Lib.hid hl
  have c0 : w.cell? ⟨G, 0, none⟩ = some (.slice A L.length c) := h.cell 0
  obtain ⟨n, hn⟩ : ∃ n, n = L.length := ⟨_, rfl⟩
  have HN := Lib.hid hn
  rw [← hn] at c0 hc1
  have hcc : (n : Int) ≤ (c : Int) := by omega
  clear h hl hn hc1
  go_enter Try.func68, Try.ntmps68
  go_wp2_with (fail)
  go_loopw [5] (fun i wr => ∃ k : Nat, k ≤ n ∧ i = .int .i64 k ∧ (∀ e ∈ L.take k, e.1 ≠ nm) ∧ wr = w) (fun i _ => n - (intOf i).toNat)
  case atStart => exact ⟨0, by omega, rfl, (fun e he => by cases he), rfl⟩
  case round =>
    obtain ⟨k, hk, rfl, hno, hw⟩ := hrel
    obtain rfl := hw.symm
    have HNO := Lib.hid hno
    clear hno
    by_cases hlt : k < n
    · have hkl : k < L.length := by have := HN.out; omega
      obtain ⟨e, he⟩ : ∃ e, e = L[k] := ⟨_, rfl⟩
      obtain ⟨g, rfl, _, hx⟩ := H.out.at_ (by omega)
      obtain ⟨d, _, x0, _, _⟩ := hx k e (by rw [he]; exact List.getElem?_eq_getElem hkl)
      have hw5 : IntKind.i64.wrap ((k : Int) + 1) = (k : Int) + 1 := IntWalk.i64_in _ (by have := HL.out; omega)
      have HT : Hid (L.take (k + 1) = L.take k ++ [e]) := Lib.hid (by rw [he]; exact List.take_succ_eq_append_getElem hkl)
      have HD : Hid (L = L.take k ++ e :: L.drop (k + 1)) := Lib.hid (by rw [he, List.getElem_cons_drop, List.take_append_drop])
      obtain ⟨m, f⟩ := e
      by_cases hm : m = nm
      · have e1 : (m.toList == nm.toList) = true := by rw [hm]; simp
        have HF : Hid (fidx L nm = (k : Int)) := Lib.hid (by
          rw [HD.out]
          have e2 : (m, f) = (nm, f) := by rw [hm]
          rw [e2, fidx_at HNO.out, List.length_take]
          congr 1
          omega)
        clear hx he hkl hm HT HD
        go_wp2_with (fail)
        go_ret
        exact ⟨by rw [HF.out]; rfl, rfl⟩
      · have e1 : (m.toList == nm.toList) = false := by
          rw [beq_eq_false_iff_ne]
          intro e
          apply hm
          apply ByteArray.ext
          apply Array.toList_inj.1
          simpa [Go.ByteArray.toList_eq] using e
        have HNX : Hid (∀ e ∈ L.take (k + 1), e.1 ≠ nm) := Lib.hid (by
          rw [HT.out]
          intro e he
          rcases List.mem_append.1 he with h | h
          · exact HNO.out e h
          · rw [List.mem_singleton.1 h]; exact hm)
        clear hx he hkl hm HT HD
        go_wp2_with (fail)
        exact ⟨⟨k + 1, by omega, rfl, HNX.out, trivial⟩, by simp [intOf]; omega⟩
    · have HF : Hid (fidx L nm = -1) := Lib.hid (fidx_none (fun e he => HNO.out e (by rw [List.take_of_length_le (by have := HN.out; omega)]; exact he)))
      obtain rfl : k = n := by omega
      clear hlt
      go_wp2_with (fail)
      go_ret
      exact ⟨by rw [HF.out]; rfl, rfl⟩
set_option maxHeartbeats 4000000 in
set_option maxRecDepth 100000 in
theorem rkUsed (h : RkAt w B G E r L v P) (hl : L.length ≤ 1000000) (hs : sumB L ≤ 1099511627776) : Calls Try.prog 71 #[pR G] w fun e w' => e = .returned (.int .i64 (sumB L : Int)) ∧ w = w' := by
  obtain ⟨A, c, rfl, hc1, hc2⟩ := h.form
  have H := Lib.hid h
  have HL := Lib.hid hl
  have HS := Lib.hid (fun k => Nat.le_trans (sumB_take_le L k) hs)
  have c0 : w.cell? ⟨G, 0, none⟩ = some (.slice A L.length c) := h.cell 0
  obtain ⟨n, hn⟩ : ∃ n, n = L.length := ⟨_, rfl⟩
  have HN := Lib.hid hn
  rw [← hn] at c0 hc1
  have hcc : (n : Int) ≤ (c : Int) := by omega
  clear h hl hn hc1 hs
  go_enter Try.func71, Try.ntmps71
  go_wp2_with (fail)
  go_loopw [4, 3] (fun i s wr => ∃ k : Nat, k ≤ n ∧ i = .int .i64 k ∧ s = .int .i64 (sumB (L.take k) : Nat) ∧ wr = w) (fun i _ _ => n - (intOf i).toNat)
  case atStart => exact ⟨0, by omega, rfl, rfl, rfl⟩
  case round =>
    obtain ⟨k, hk, rfl, rfl, hw⟩ := hrel
    obtain rfl := hw.symm
    by_cases hlt : k < n
    · have hkl : k < L.length := by have := HN.out; omega
      have HT := Lib.hid (sumB_take hkl)
      have HSK := Lib.hid (HS.out (k + 1))
      obtain ⟨e, he⟩ : ∃ e, e = L[k] := ⟨_, rfl⟩
      obtain ⟨g, rfl, _, hx⟩ := H.out.at_ (by omega)
      obtain ⟨d, hpd, _, x1, _⟩ := hx k e (by rw [he]; exact List.getElem?_eq_getElem hkl)
      obtain ⟨A5, m5, c5, rfl, hB5, _⟩ := H.out.dat k e d (by rw [he]; exact List.getElem?_eq_getElem hkl) hpd
      have hm5 : e.2.bs.length = m5 := hB5.len
      rw [← he, hm5] at HT
      have hw5 : IntKind.i64.wrap ((k : Int) + 1) = (k : Int) + 1 := IntWalk.i64_in _ (by have := HL.out; omega)
      have hw6 : IntKind.i64.wrap ((sumB (L.take k) : Int) + (m5 : Int)) = ((sumB (L.take (k + 1)) : Nat) : Int) := by
        rw [HT.out]
        push_cast
        exact IntWalk.i64_in _ (by have := HSK.out; have := HT.out; omega)
      obtain ⟨q, hq⟩ : ∃ q, q = sumB (L.take k) := ⟨_, rfl⟩
      obtain ⟨q', hq'⟩ : ∃ q', q' = sumB (L.take (k + 1)) := ⟨_, rfl⟩
      have HQ := Lib.hid hq'
      rw [← hq, ← hq'] at hw6
      rw [← hq]
      clear hx he hkl hpd hB5 hq hq' hm5
      go_wp2_with (fail)
      exact ⟨⟨k + 1, by omega, rfl, by rw [HQ.out], trivial⟩, by simp [intOf]; omega⟩
    · have HT : Hid (L.take k = L) := Lib.hid (List.take_of_length_le (by have := HN.out; omega))
      rw [HT.out]
      obtain rfl : k = n := by omega
      clear hlt
      go_wp2_with (fail)
      go_ret
      exact ⟨rfl, rfl⟩
def Rk.begin (r : Rk) : Rk := { r with count := r.count + 1, armed := if r.armed = 0 then 0 else r.armed - 1 }
set_option maxHeartbeats 4000000 in
theorem rkBegin (h : RkAt w B G E r L v P) (hc : 0 ≤ r.count ∧ r.count ≤ 1152921504606846976) (ha : 0 ≤ r.armed ∧ r.armed ≤ 9223372036854775807) : Calls Try.prog 69 #[pR G] w fun e w' => e = .returned (.bool (r.armed == 1)) ∧ RkAt w' B G E r.begin L v P ∧ Ch (At1 G) w w' := by
  have H := Lib.hid h
  have HA := Lib.hid ha
  have c2 : w.cell? ⟨G, 2, none⟩ = some (.int .i64 r.count) := h.cell 2
  have c3 : w.cell? ⟨G, 3, none⟩ = some (.int .i64 r.armed) := h.cell 3
  have f2 := h.frozen 2
  have f3 := h.frozen 3
  have hw1 : IntKind.i64.wrap (r.count + 1) = r.count + 1 := IntWalk.i64_in _ (by omega)
  have HR1 : Hid ((w.setCell ⟨G, 2, none⟩ (.int .i64 (r.count + 1))).heap[G]? = some (rkObj v { r with count := r.count + 1 })) := Lib.hid (heap_set_row h.row _)
  have HC1 : Hid (Ch (At1 G) w (w.setCell ⟨G, 2, none⟩ (.int .i64 (r.count + 1)))) := Lib.hid ((Ch.refl _ _).set1 2 _)
  have c3' := cell_of_row _ G 3 _ _ _ HR1.out
  have f3' : (w.setCell ⟨G, 2, none⟩ (.int .i64 (r.count + 1))).frozen? ⟨G, 3, none⟩ = false := by
    simp only [World.frozen?, HR1.out]
    simp
  simp only [List.getElem?_toArray, List.getElem?_cons_zero, List.getElem?_cons_succ] at c3'
  clear h hc
  by_cases h0 : r.armed = 0
  · have e1 : (r.armed == 0) = true := by rw [h0]; rfl
    have HB : Hid (r.begin = { r with count := r.count + 1 }) := Lib.hid (by unfold Rk.begin; rw [if_pos h0]; obtain ⟨a, b, c, d, e⟩ := r; simp only at h0; subst h0; rfl)
    have HE : Hid ((r.armed == 1) = false) := Lib.hid (by rw [h0]; rfl)
    clear h0 ha
    go_enter Try.func69, Try.ntmps69
    go_wp2_with (fail)
    go_ret
    exact ⟨by rw [HE.out]; rfl, by rw [HB.out]; exact H.out.nums HC1.out HR1.out, HC1.out⟩
  · have e1 : (r.armed == 0) = false := by rw [beq_eq_false_iff_ne]; exact h0
    have hw2 : IntKind.i64.wrap (r.armed - 1) = r.armed - 1 := IntWalk.i64_in _ (by omega)
    have HR2 : Hid (((w.setCell ⟨G, 2, none⟩ (.int .i64 (r.count + 1))).setCell ⟨G, 3, none⟩ (.int .i64 (r.armed - 1))).heap[G]? = some (rkObj v { r with count := r.count + 1, armed := r.armed - 1 })) := Lib.hid (heap_set_row HR1.out _)
    have HC2 : Hid (Ch (At1 G) w ((w.setCell ⟨G, 2, none⟩ (.int .i64 (r.count + 1))).setCell ⟨G, 3, none⟩ (.int .i64 (r.armed - 1)))) := Lib.hid (HC1.out.set1 3 _)
    have c3'' := cell_of_row _ G 3 _ _ _ HR2.out
    simp only [List.getElem?_toArray, List.getElem?_cons_zero, List.getElem?_cons_succ] at c3''
    have HB : Hid (r.begin = { r with count := r.count + 1, armed := r.armed - 1 }) := Lib.hid (by unfold Rk.begin; rw [if_neg h0])
    have HE : Hid ((r.armed - 1 == 0) = (r.armed == 1)) := Lib.hid (by rw [Bool.eq_iff_iff]; simp; omega)
    clear h0 ha
    go_enter Try.func69, Try.ntmps69
    go_wp2_with (fail)
    go_ret
    exact ⟨by rw [← HE.out]; rfl, by rw [HB.out]; exact H.out.nums HC2.out HR2.out, HC2.out⟩
end
end Go.Proofs.Ytolomfdommnklaa
