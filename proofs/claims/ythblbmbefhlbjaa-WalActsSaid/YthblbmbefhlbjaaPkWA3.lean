/- Laid together: Rk0, Rk1, Rk2, RefName, Rk3, Rk4, Rk5, Rk6, Rk7, Rk8, Rk9, DkLen, RkS, RL14, RO14, Open, OpenStruct, OpenWActs. -/
import Derived.Test.YthblbmbefhlbjaaPkWA2
import Derived.Deep.AppendLies
import Derived.Sort.Walk0
import Derived.BigQuiet
import Derived.Maps.AppendAt
import Derived.Deep.CutRange
import Derived.Deep.DeepCutAuto
import Derived.ShutString
import Derived.ChangeOld
import Derived.SizedLaws
import Derived.Deep.DeepHandedRow
import Derived.OpenShut
import Derived.Deep.Slices
import Derived.Deep.Fields
import Derived.ChangeSame

/- The document's disk in memory: a row of files in the order of their names; what a change leaves. -/
namespace Go.Proofs.Ythblbmbefhlbjaa
open Go.RowKit Go.MapKept

/-- the document's disk's numbers -/
structure Rk where
  size : Int
  count : Int
  armed : Int
  keep : Int
  fail : Int
abbrev TRD : TypeId := 69
abbrev TRF : TypeId := 103
abbrev TRL : TypeId := 67
abbrev pR (G : Nat) : Value := .pointer (some ⟨G, 0, none⟩)
abbrev rkCells (v : Value) (r : Rk) : Array Value := #[v, .int .i64 r.size, .int .i64 r.count, .int .i64 r.armed, .int .i64 r.keep, .int .i64 r.fail]
abbrev rkObj (v : Value) (r : Rk) : Obj := .cells (rkCells v r) TRD
abbrev rfC (e : ByteArray × Fl) (d : Value) : List Value := [.string e.1, d, .int .i64 (e.2.safe : Int)]
def rfsC : Fs → List Value → List Value
  | e :: L, d :: P => rfC e d ++ rfsC L P
  | _, _ => []
theorem rfsC_len : ∀ {L : Fs} {P : List Value}, P.length = L.length → (rfsC L P).length = L.length * 3
  | [], [], _ => rfl
  | e :: L, d :: P, h => by
    have := rfsC_len (L := L) (P := P) (by simpa using h)
    simp only [rfsC, rfC, List.length_append, List.length_cons, List.length_nil, this]
    omega
theorem rfsC_at : ∀ {L : Fs} {P : List Value} {i : Nat} {e : ByteArray × Fl} {d : Value}, L[i]? = some e → P[i]? = some d → ∀ j, j < 3 → (rfsC L P)[i * 3 + j]? = (rfC e d)[j]?
  | [], _, _, _, _, h, _, _, _ => by simp at h
  | _ :: _, [], _, _, _, _, h, _, _ => by simp at h
  | y :: L, q :: P, 0, e, d, h, h', j, hj => by
    simp only [List.getElem?_cons_zero, Option.some.injEq] at h h'
    subst h h'
    simp only [rfsC, Nat.zero_mul, Nat.zero_add]
    rw [List.getElem?_append_left (by simp [rfC]; omega)]
  | y :: L, q :: P, i + 1, e, d, h, h', j, hj => by
    simp only [List.getElem?_cons_succ] at h h'
    have := rfsC_at h h' j hj
    simp only [rfsC]
    rw [List.getElem?_append_right (by simp [rfC]; omega), ← this]
    congr 1
    simp [rfC]
    omega
theorem rfsC_app : ∀ {L : Fs} {P : List Value} (M : Fs) (Q : List Value), P.length = L.length → rfsC (L ++ M) (P ++ Q) = rfsC L P ++ rfsC M Q
  | [], [], M, Q, _ => by simp [rfsC]
  | y :: L, q :: P, M, Q, h => by
    have := rfsC_app (L := L) (P := P) M Q (by simpa using h)
    simp only [List.cons_append, rfsC, this, List.append_assoc]
theorem frz {w : World} {g j : Nat} {C : Array Value} {t : TypeId} (h : w.heap[g]? = some (.cells C t)) : w.frozen? ⟨g, j, none⟩ = false := by
  simp only [World.frozen?, h]
  first | done | simp
/-- a slice that reads as bytes, in none of the blocks X -/
def DvX (X : Nat → Prop) (w : World) (v : Value) (l : List UInt8) : Prop := ∃ A m c, v = .slice A m c ∧ Bs w A m c l ∧ ∀ a, A = some a → m = 0 ∨ ¬ X a.block
section
variable {w w' : World} {B G : Nat} {E E' X Y : Nat → Prop} {r r' : Rk} {L L' : Fs} {v v' d : Value} {P P' : List Value}
theorem DvX.ch {l : List UInt8} (h : DvX X w v l) (hc : Ch X w w') (hY : ∀ b, b < w.heap.size → Y b → X b) : DvX Y w' v l := by
  obtain ⟨A, m, c, e, hB, hx⟩ := h
  refine ⟨A, m, c, e, ⟨hB.1, hB.2.1, hB.2.2.1, fun hn => ?_⟩, fun a ha => ?_⟩
  · obtain ⟨b, o, eA, hlt, hcell⟩ := hB.at_ hn
    refine ⟨b, o, eA, fun i x hi => ?_⟩
    have hne := (hx _ eA).resolve_left (by omega)
    have hb := hc.block b hlt hne
    have := hcell i x hi
    simp only [World.cell?, hb] at this ⊢
    exact this
  · by_cases h0 : m = 0
    · exact .inl h0
    · obtain ⟨b, o, eA, hlt, _⟩ := hB.at_ (by omega)
      rw [ha] at eA
      injection eA with eA
      subst eA
      exact .inr (fun hy => (hx _ ha).resolve_left h0 (hY _ hlt hy))
theorem Ch.wide {S S' : Nat → Prop} (h : Ch S w w') (hS : ∀ k, S k → S' k) : Ch S' w w' := ⟨h.os, h.tape, h.output, h.size, fun k hk hn => h.block k hk (fun hs => hn (hS k hs))⟩
/-- the blocks that hold the disk -/
abbrev RF (G : Nat) (v : Value) : Nat → Prop := fun k => k = G ∨ v.ownBlock = some k
structure RkAt (w : World) (B G : Nat) (E : Nat → Prop) (r : Rk) (L : Fs) (v : Value) (P : List Value) : Prop where
  hG : B ≤ G
  row : w.heap[G]? = some (rkObj v r)
  len : P.length = L.length
  own : w.ownsRow B TRF 3 v L.length (rfsC L P)
  dat : ∀ (i : Nat) (e : ByteArray × Fl) (d : Value), L[i]? = some e → P[i]? = some d → DvX (fun k => RF G v k ∨ E k) w d e.2.bs
theorem own3_ty {n : Nat} {e : TypeId} {xs : List Value} {s : Nat} (h : w.ownsRow B e s v n xs) (k : Nat) (hk : v.ownBlock = some k) : ∃ cur, w.heap[k]? = some (.cells cur e (0, 0)) := by
  rcases h.2 with ⟨rfl, _⟩ | ⟨g, cap, cur, rfl, _, h2, _⟩
  · cases hk
  · simp only [Value.ownBlock, Option.some.injEq] at hk
    subst hk
    exact ⟨cur, h2⟩
theorem own3_ch {n : Nat} {e : TypeId} {xs : List Value} {s : Nat} {S : Nat → Prop} (h : w.ownsRow B e s v n xs) (c : Ch S w w') (hS : ∀ k, v.ownBlock = some k → ¬ S k) : w'.ownsRow B e s v n xs := by
  refine ⟨h.1, ?_⟩
  rcases h.2 with hn | ⟨g, cap, cur, q, q1, q2, q3⟩
  · exact .inl hn
  · exact .inr ⟨g, cap, cur, q, q1, c.row q2 (hS g (by rw [q]; rfl)), q3⟩
theorem RkAt.lt (h : RkAt w B G E r L v P) : G < w.heap.size := (Array.getElem?_eq_some_iff.1 h.row).1
theorem RkAt.vne (h : RkAt w B G E r L v P) (k : Nat) (hk : v.ownBlock = some k) : k ≠ G := by
  rintro rfl
  obtain ⟨cur, hc⟩ := own3_ty h.own k hk
  rw [h.row] at hc
  simp only [Option.some.injEq, Obj.cells.injEq] at hc
  exact absurd hc.2.1 (by decide)
theorem RkAt.foot_lt (h : RkAt w B G E r L v P) {k : Nat} (hk : RF G v k) : B ≤ k ∧ k < w.heap.size := by
  rcases hk with rfl | hk
  · exact ⟨h.hG, h.lt⟩
  · exact World.ownsRow.lt h.own k hk
/-- others change, at a world in which they alone have -/
theorem RkAt.next {S : Nat → Prop} (h : RkAt w B G E r L v P) (c : Ch S w w') (hS : ∀ k, S k → E k) (hG : ¬ S G) (hv : ∀ k, v.ownBlock = some k → ¬ S k) (hE : ∀ k, k < w.heap.size → E' k → E k) : RkAt w' B G E' r L v P :=
  ⟨h.hG, c.row h.row hG, h.len, own3_ch h.own c hv, fun i e d h1 h2 => (h.dat i e d h1 h2).ch (c.wide (fun k hk => .inr (hS k hk))) (fun b hb hx => hx.elim .inl (fun h => .inr (hE b hb h)))⟩
theorem RkAt.below (h : RkAt w B G E r L v P) (hb : Below w.heap.size w w') : RkAt w' B G E r L v P :=
  h.next (S := fun _ => False) (Ch.of_below hb) (fun _ h => h.elim) (fun h => h) (fun _ _ h => h) (fun _ _ h => h)
/-- its numbers change -/
theorem RkAt.nums (h : RkAt w B G E r L v P) (c : Ch (At1 G) w w') (hr : w'.heap[G]? = some (rkObj v r')) : RkAt w' B G E r' L v P :=
  ⟨h.hG, hr, h.len, own3_ch h.own c (fun k hk => h.vne k hk), fun i e d h1 h2 => (h.dat i e d h1 h2).ch (c.wide (fun _ hk => .inl (.inl hk))) (fun _ _ h => h)⟩
theorem RkAt.cell (h : RkAt w B G E r L v P) (j : Nat) : w.cell? ⟨G, j, none⟩ = (rkCells v r)[j]? := cell_of_row w G j _ _ _ h.row
theorem RkAt.frozen (h : RkAt w B G E r L v P) (j : Nat) : w.frozen? ⟨G, j, none⟩ = false := by
  simp only [World.frozen?, h.row]
  simp
theorem RkAt.form (h : RkAt w B G E r L v P) : ∃ A c, v = .slice A L.length c ∧ L.length ≤ c ∧ c ≤ 9223372036854775807 := by
  rcases h.own.2 with ⟨rfl, h0⟩ | ⟨g, cap, cur, rfl, _, _, h3, h4, _⟩
  · exact ⟨none, 0, by rw [h0], by omega, by omega⟩
  · exact ⟨_, _, rfl, h3, by simpa only [maxLen] using h4⟩
theorem RkAt.at_ {A : Option Addr} {n c : Nat} (h : RkAt w B G E r L (.slice A n c) P) (hn : 0 < L.length) : ∃ g, A = some ⟨g, 0, none⟩ ∧ n = L.length ∧ (∀ i e, L[i]? = some e → ∃ d, P[i]? = some d ∧ w.cell? ⟨g, i * 3, none⟩ = some (.string e.1) ∧ w.cell? ⟨g, i * 3 + 1, none⟩ = some d ∧ w.cell? ⟨g, i * 3 + 2, none⟩ = some (.int .i64 (e.2.safe : Int))) := by
  rcases h.own.2 with ⟨_, h0⟩ | ⟨g, cap, cur, hv, _, _, _, _, _⟩
  · omega
  · injection hv with e1 e2 e3
    subst e1 e2 e3
    refine ⟨g, rfl, rfl, fun i e he => ?_⟩
    have hi : i < L.length := (List.getElem?_eq_some_iff.1 he).1
    have hp : P[i]? = some (P[i]'(by rw [h.len]; exact hi)) := List.getElem?_eq_getElem _
    refine ⟨_, hp, ?_, ?_, ?_⟩
    · have := h.own.cellAt (i * 3 + 0) (by omega)
      rw [rfsC_at he hp 0 (by omega)] at this
      exact this
    · have := h.own.cellAt (i * 3 + 1) (by omega)
      rw [rfsC_at he hp 1 (by omega)] at this
      exact this
    · have := h.own.cellAt (i * 3 + 2) (by omega)
      rw [rfsC_at he hp 2 (by omega)] at this
      exact this
end
/-- where a name stands -/
def fidx : Fs → ByteArray → Int
  | [], _ => -1
  | (m, _) :: r, n => if m = n then 0 else if fidx r n < 0 then -1 else fidx r n + 1
theorem fidx_none : ∀ {L : Fs} {n : ByteArray}, (∀ e ∈ L, e.1 ≠ n) → fidx L n = -1
  | [], _, _ => rfl
  | (m, f) :: r, n, h => by
    have ih := fidx_none (L := r) (n := n) (fun e he => h e (List.mem_cons_of_mem _ he))
    rw [fidx, if_neg (h (m, f) (by simp)), ih]
    rfl
theorem fidx_at : ∀ {A Q : Fs} {n : ByteArray} {f : Fl}, (∀ e ∈ A, e.1 ≠ n) → fidx (A ++ (n, f) :: Q) n = (A.length : Int)
  | [], Q, n, f, _ => by rw [List.nil_append, fidx, if_pos rfl]; rfl
  | (m, g) :: r, Q, n, f, h => by
    have ih := fidx_at (A := r) (Q := Q) (n := n) (f := f) (fun e he => h e (List.mem_cons_of_mem _ he))
    rw [List.cons_append, fidx, if_neg (h (m, g) (by simp)), ih, if_neg (by omega)]
    simp
theorem fs_split (L : Fs) (n : ByteArray) : (fget L n = none ∧ (∀ e ∈ L, e.1 ≠ n) ∧ fidx L n = -1) ∨ ∃ A f Q, L = A ++ (n, f) :: Q ∧ (∀ e ∈ A, e.1 ≠ n) ∧ fget L n = some f ∧ fidx L n = (A.length : Int) := by
  induction L with
  | nil => exact .inl ⟨rfl, (fun e he => by cases he), rfl⟩
  | cons p r ih =>
    obtain ⟨m, g⟩ := p
    by_cases hm : m = n
    · subst hm
      refine .inr ⟨[], g, r, rfl, (fun e he => by cases he), ?_, ?_⟩
      · simp [fget]
      · rw [fidx, if_pos rfl]; rfl
    · have hm' : ¬ n = m := fun e => hm e.symm
      rcases ih with ⟨h1, h2, h3⟩ | ⟨A, f, Q, h1, h2, h3, h4⟩
      · refine .inl ⟨?_, ?_, ?_⟩
        · simp [fget, hm', h1]
        · intro e he
          rcases List.mem_cons.1 he with rfl | he
          · exact hm
          · exact h2 e he
        · rw [fidx, if_neg hm, h3]; rfl
      · refine .inr ⟨(m, g) :: A, f, Q, by rw [h1]; rfl, ?_, ?_, ?_⟩
        · intro e he
          rcases List.mem_cons.1 he with rfl | he
          · exact hm
          · exact h2 e he
        · simp [fget, hm', h3]
        · rw [fidx, if_neg hm, h4, if_neg (by omega)]; simp
def sumB (L : Fs) : Nat := (L.map fun e => e.2.bs.length).sum
theorem sumB_take {L : Fs} {j : Nat} (h : j < L.length) : sumB (L.take (j + 1)) = sumB (L.take j) + L[j].2.bs.length := by
  unfold sumB
  rw [List.take_succ_eq_append_getElem h]
  simp only [List.map_append, List.map_cons, List.map_nil, List.sum_append, List.sum_cons, List.sum_nil, Nat.add_zero]
theorem sumB_take_le (L : Fs) (j : Nat) : sumB (L.take j) ≤ sumB L := by
  have : L = L.take j ++ L.drop j := (List.take_append_drop j L).symm
  conv => rhs; rw [this]
  unfold sumB
  simp only [List.map_append, List.sum_append]
  omega
section
variable {w w' : World} {B G : Nat} {E : Nat → Prop} {r : Rk} {L : Fs} {v : Value} {P : List Value}
set_option maxHeartbeats 4000000 in
set_option maxRecDepth 100000 in
theorem rkFind (h : RkAt w B G E r L v P) (nm : ByteArray) (hl : L.length ≤ 1000000) : Calls Try.prog 78 #[pR G, .string nm] w fun e w' => e = .returned (.int .i64 (fidx L nm)) ∧ w = w' := by
  obtain ⟨A, c, rfl, hc1, hc2⟩ := h.form
  have H := Lib.hid h
  have HL := Lib.hid hl
  have c0 : w.cell? ⟨G, 0, none⟩ = some (.slice A L.length c) := h.cell 0
  obtain ⟨n, hn⟩ : ∃ n, n = L.length := ⟨_, rfl⟩
  have HN := Lib.hid hn
  rw [← hn] at c0 hc1
  have hcc : (n : Int) ≤ (c : Int) := by omega
  clear h hl hn hc1
  go_enter Try.func78, Try.ntmps78
  go_wp2_with (fail)
  go_loopw [5] (fun i wr => ∃ k : Nat, k ≤ n ∧ i = .int .i64 k ∧ (∀ e ∈ L.take k, e.1 ≠ nm) ∧ wr = w) (fun i _ => n - (intOf i).toNat)
  case atStart => exact ⟨0, by omega, rfl, (fun e he => by cases he), rfl⟩
  case round =>
    obtain ⟨k, hk, rfl, hno, hw⟩ := hrel
    obtain rfl := hw.symm
    have HNO := Lib.hid hno
    clear hno
    by_cases hlt : k < n
    · have hkl : k < L.length := by have := HN.out; omega
      obtain ⟨e, he⟩ : ∃ e, e = L[k] := ⟨_, rfl⟩
      obtain ⟨g, rfl, _, hx⟩ := H.out.at_ (by omega)
      obtain ⟨d, _, x0, _, _⟩ := hx k e (by rw [he]; exact List.getElem?_eq_getElem hkl)
      have hw5 : IntKind.i64.wrap ((k : Int) + 1) = (k : Int) + 1 := IntWalk.i64_in _ (by have := HL.out; omega)
      have HT : Hid (L.take (k + 1) = L.take k ++ [e]) := Lib.hid (by rw [he]; exact List.take_succ_eq_append_getElem hkl)
      have HD : Hid (L = L.take k ++ e :: L.drop (k + 1)) := Lib.hid (by rw [he, List.getElem_cons_drop, List.take_append_drop])
      obtain ⟨m, f⟩ := e
      by_cases hm : m = nm
      · have e1 : (m.toList == nm.toList) = true := by rw [hm]; simp
        have HF : Hid (fidx L nm = (k : Int)) := Lib.hid (by
          rw [HD.out]
          have e2 : (m, f) = (nm, f) := by rw [hm]
          rw [e2, fidx_at HNO.out, List.length_take]
          congr 1
          omega)
        clear hx he hkl hm HT HD
        go_wp2_with (fail)
        go_ret
        exact ⟨by rw [HF.out]; rfl, rfl⟩
      · have e1 : (m.toList == nm.toList) = false := by
          rw [beq_eq_false_iff_ne]
          intro e
          apply hm
          apply ByteArray.ext
          apply Array.toList_inj.1
          simpa [Go.ByteArray.toList_eq] using e
        have HNX : Hid (∀ e ∈ L.take (k + 1), e.1 ≠ nm) := Lib.hid (by
          rw [HT.out]
          intro e he
          rcases List.mem_append.1 he with h | h
          · exact HNO.out e h
          · rw [List.mem_singleton.1 h]; exact hm)
        clear hx he hkl hm HT HD
        go_wp2_with (fail)
        exact ⟨⟨k + 1, by omega, rfl, HNX.out, trivial⟩, by simp [intOf]; omega⟩
    · have HF : Hid (fidx L nm = -1) := Lib.hid (fidx_none (fun e he => HNO.out e (by rw [List.take_of_length_le (by have := HN.out; omega)]; exact he)))
      obtain rfl : k = n := by omega
      clear hlt
      go_wp2_with (fail)
      go_ret
      exact ⟨by rw [HF.out]; rfl, rfl⟩
set_option maxHeartbeats 4000000 in
set_option maxRecDepth 100000 in
theorem rkUsed (h : RkAt w B G E r L v P) (hl : L.length ≤ 1000000) (hs : sumB L ≤ 1099511627776) : Calls Try.prog 80 #[pR G] w fun e w' => e = .returned (.int .i64 (sumB L : Int)) ∧ w = w' := by
  obtain ⟨A, c, rfl, hc1, hc2⟩ := h.form
  have H := Lib.hid h
  have HL := Lib.hid hl
  have HS := Lib.hid (fun k => Nat.le_trans (sumB_take_le L k) hs)
  have c0 : w.cell? ⟨G, 0, none⟩ = some (.slice A L.length c) := h.cell 0
  obtain ⟨n, hn⟩ : ∃ n, n = L.length := ⟨_, rfl⟩
  have HN := Lib.hid hn
  rw [← hn] at c0 hc1
  have hcc : (n : Int) ≤ (c : Int) := by omega
  clear h hl hn hc1 hs
  go_enter Try.func80, Try.ntmps80
  go_wp2_with (fail)
  go_loopw [4, 3] (fun i s wr => ∃ k : Nat, k ≤ n ∧ i = .int .i64 k ∧ s = .int .i64 (sumB (L.take k) : Nat) ∧ wr = w) (fun i _ _ => n - (intOf i).toNat)
  case atStart => exact ⟨0, by omega, rfl, rfl, rfl⟩
  case round =>
    obtain ⟨k, hk, rfl, rfl, hw⟩ := hrel
    obtain rfl := hw.symm
    by_cases hlt : k < n
    · have hkl : k < L.length := by have := HN.out; omega
      have HT := Lib.hid (sumB_take hkl)
      have HSK := Lib.hid (HS.out (k + 1))
      obtain ⟨e, he⟩ : ∃ e, e = L[k] := ⟨_, rfl⟩
      obtain ⟨g, rfl, _, hx⟩ := H.out.at_ (by omega)
      obtain ⟨d, hpd, _, x1, _⟩ := hx k e (by rw [he]; exact List.getElem?_eq_getElem hkl)
      obtain ⟨A5, m5, c5, rfl, hB5, _⟩ := H.out.dat k e d (by rw [he]; exact List.getElem?_eq_getElem hkl) hpd
      have hm5 : e.2.bs.length = m5 := hB5.len
      rw [← he, hm5] at HT
      have hw5 : IntKind.i64.wrap ((k : Int) + 1) = (k : Int) + 1 := IntWalk.i64_in _ (by have := HL.out; omega)
      have hw6 : IntKind.i64.wrap ((sumB (L.take k) : Int) + (m5 : Int)) = ((sumB (L.take (k + 1)) : Nat) : Int) := by
        rw [HT.out]
        push_cast
        exact IntWalk.i64_in _ (by have := HSK.out; have := HT.out; omega)
      obtain ⟨q, hq⟩ : ∃ q, q = sumB (L.take k) := ⟨_, rfl⟩
      obtain ⟨q', hq'⟩ : ∃ q', q' = sumB (L.take (k + 1)) := ⟨_, rfl⟩
      have HQ := Lib.hid hq'
      rw [← hq, ← hq'] at hw6
      rw [← hq]
      clear hx he hkl hpd hB5 hq hq' hm5
      go_wp2_with (fail)
      exact ⟨⟨k + 1, by omega, rfl, by rw [HQ.out], trivial⟩, by simp [intOf]; omega⟩
    · have HT : Hid (L.take k = L) := Lib.hid (List.take_of_length_le (by have := HN.out; omega))
      rw [HT.out]
      obtain rfl : k = n := by omega
      clear hlt
      go_wp2_with (fail)
      go_ret
      exact ⟨rfl, rfl⟩
def Rk.begin (r : Rk) : Rk := { r with count := r.count + 1, armed := if r.armed = 0 then 0 else r.armed - 1 }
set_option maxHeartbeats 4000000 in
theorem rkBegin (h : RkAt w B G E r L v P) (hc : 0 ≤ r.count ∧ r.count ≤ 1152921504606846976) (ha : 0 ≤ r.armed ∧ r.armed ≤ 9223372036854775807) : Calls Try.prog 77 #[pR G] w fun e w' => e = .returned (.bool (r.armed == 1)) ∧ RkAt w' B G E r.begin L v P ∧ Ch (At1 G) w w' := by
  have H := Lib.hid h
  have HA := Lib.hid ha
  have c2 : w.cell? ⟨G, 2, none⟩ = some (.int .i64 r.count) := h.cell 2
  have c3 : w.cell? ⟨G, 3, none⟩ = some (.int .i64 r.armed) := h.cell 3
  have f2 := h.frozen 2
  have f3 := h.frozen 3
  have hw1 : IntKind.i64.wrap (r.count + 1) = r.count + 1 := IntWalk.i64_in _ (by omega)
  have HR1 : Hid ((w.setCell ⟨G, 2, none⟩ (.int .i64 (r.count + 1))).heap[G]? = some (rkObj v { r with count := r.count + 1 })) := Lib.hid (heap_set_row h.row _)
  have HC1 : Hid (Ch (At1 G) w (w.setCell ⟨G, 2, none⟩ (.int .i64 (r.count + 1)))) := Lib.hid ((Ch.refl _ _).set1 2 _)
  have c3' := cell_of_row _ G 3 _ _ _ HR1.out
  have f3' : (w.setCell ⟨G, 2, none⟩ (.int .i64 (r.count + 1))).frozen? ⟨G, 3, none⟩ = false := by
    simp only [World.frozen?, HR1.out]
    simp
  simp only [List.getElem?_toArray, List.getElem?_cons_zero, List.getElem?_cons_succ] at c3'
  clear h hc
  by_cases h0 : r.armed = 0
  · have e1 : (r.armed == 0) = true := by rw [h0]; rfl
    have HB : Hid (r.begin = { r with count := r.count + 1 }) := Lib.hid (by unfold Rk.begin; rw [if_pos h0]; obtain ⟨a, b, c, d, e⟩ := r; simp only at h0; subst h0; rfl)
    have HE : Hid ((r.armed == 1) = false) := Lib.hid (by rw [h0]; rfl)
    clear h0 ha
    go_enter Try.func77, Try.ntmps77
    go_wp2_with (fail)
    go_ret
    exact ⟨by rw [HE.out]; rfl, by rw [HB.out]; exact H.out.nums HC1.out HR1.out, HC1.out⟩
  · have e1 : (r.armed == 0) = false := by rw [beq_eq_false_iff_ne]; exact h0
    have hw2 : IntKind.i64.wrap (r.armed - 1) = r.armed - 1 := IntWalk.i64_in _ (by omega)
    have HR2 : Hid (((w.setCell ⟨G, 2, none⟩ (.int .i64 (r.count + 1))).setCell ⟨G, 3, none⟩ (.int .i64 (r.armed - 1))).heap[G]? = some (rkObj v { r with count := r.count + 1, armed := r.armed - 1 })) := Lib.hid (heap_set_row HR1.out _)
    have HC2 : Hid (Ch (At1 G) w ((w.setCell ⟨G, 2, none⟩ (.int .i64 (r.count + 1))).setCell ⟨G, 3, none⟩ (.int .i64 (r.armed - 1)))) := Lib.hid (HC1.out.set1 3 _)
    have c3'' := cell_of_row _ G 3 _ _ _ HR2.out
    simp only [List.getElem?_toArray, List.getElem?_cons_zero, List.getElem?_cons_succ] at c3''
    have HB : Hid (r.begin = { r with count := r.count + 1, armed := r.armed - 1 }) := Lib.hid (by unfold Rk.begin; rw [if_neg h0])
    have HE : Hid ((r.armed - 1 == 0) = (r.armed == 1)) := Lib.hid (by rw [Bool.eq_iff_iff]; simp; omega)
    clear h0 ha
    go_enter Try.func77, Try.ntmps77
    go_wp2_with (fail)
    go_ret
    exact ⟨by rw [← HE.out]; rfl, by rw [HB.out]; exact H.out.nums HC2.out HR2.out, HC2.out⟩
end
end Go.Proofs.Ythblbmbefhlbjaa
/- The document's disk: a file laid at its place, walked. -/
namespace Go.Proofs.Ythblbmbefhlbjaa
open Go.RowKit Go.MapKept

theorem rfInfo : (Try.prog.info? TRF).map (fun i => (i.zero, i.size, i.bytes)) = some (some (.agg #[.string ⟨#[]⟩, .slice none 0 0, .int .i64 0]), 3, 48) := by kernel_rfl
theorem step_appR {ops : Array Oper} {o : Oper} {a : Act} {W : World} {K : Act → World → Prop} {Q : Exit → Act → World → Prop} {E : Prop} (hgd : o.guard = none) (s x : Operand) (t : TypeId)
    (ho : o.op = .call { callee := .builtin .append, args := #[s, x], argTypes := #[t, t] }) (base : Nat) (ht : Try.prog.underlying t = some (.slice TRF))
    (v : Value) (n : Nat) (xs : List Value) (hs : a.eval s = v) (hown : W.ownsRow base TRF 3 v n xs) (cs : List Value) (c gx : Nat) (hcell : W.heap[gx]? = some (.cells cs.toArray TRF)) (hx : a.eval x = .slice (some ⟨gx, 0, none⟩) 1 c) (hl : cs.length = 3) (h1 : ∀ u ∈ cs, u.oneCell' = true)
    (h63 : n + 1 ≤ 1000000000) (hbase : base ≤ W.heap.size)
    (h : ∀ g cap w', w'.ownsRow base TRF 3 (.slice (some ⟨g, 0, none⟩) (n + 1) cap) (n + 1) (xs ++ cs) → W.grownBy w' v.ownBlock → (v.ownBlock = some g ∨ g = W.heap.size) → g < w'.heap.size → K (a.put o.dst (.slice (some ⟨g, 0, none⟩) (n + 1) cap)) w') :
    if Region.wanted o (yielded ops a.tmps) = true then Oper.wp Try.prog o a W K Q else E := by
  obtain ⟨i, hi, hzz⟩ := Option.map_eq_some_iff.1 rfInfo
  simp only [Prod.mk.injEq] at hzz
  obtain ⟨hz, hsize, hby⟩ := hzz
  have hnews : ∀ j u, cs[j]? = some u → W.cell? ((⟨gx, 0, none⟩ : Addr).add j) = some u := by
    intro j u hj
    have hadd : (⟨gx, 0, none⟩ : Addr).add j = ⟨gx, j, none⟩ := by unfold Addr.add; split <;> simp_all
    rw [hadd, cell_of_row _ _ _ _ _ _ hcell]
    simpa using hj
  have h2 : (n + 1) * 48 ≤ 1000000000 * 48 := Nat.mul_le_mul_right 48 h63
  exact step_append_lies _ hgd s x t ho base TRF i (.agg #[.string ⟨#[]⟩, .slice none 0 0, .int .i64 0]) 3 48 ht hi hz hsize hby rfl (by decide) v n xs hs hown ⟨gx, 0, none⟩ 1 c cs hx (by omega) hnews h1 (by decide) (by simp only [maxLen]; omega) (by omega) hbase W.heap.size rfl h
theorem Ch.trim {S : Nat → Prop} {w w' : World} (h : Ch (fun k => S k ∨ w.heap.size ≤ k) w w') : Ch S w w' := ⟨h.os, h.tape, h.output, h.size, fun k hk hn => h.block k hk (fun hs => hs.elim hn (fun h => by omega))⟩
theorem set_two {α : Type} (A C : List α) (a0 a1 a2 b0 b1 b2 : α) {m : Nat} (h : A.length = m) :
    ((((((A ++ (a0 :: a1 :: a2 :: b0 :: b1 :: b2 :: C)).set (m + 3) a0).set (m + 3 + 1) a1).set (m + 3 + 2) a2).set m b0).set (m + 1) b1).set (m + 2) b2 = A ++ (b0 :: b1 :: b2 :: a0 :: a1 :: a2 :: C) := by
  subst h
  have key : ∀ (D : List α) (k : Nat) (x : α), (A ++ D).set (A.length + k) x = A ++ D.set k x := by
    intro D k x
    rw [List.set_append, if_neg (by omega), Nat.add_sub_cancel_left]
  rw [key, show A.length + 3 + 1 = A.length + 4 from rfl, key, show A.length + 3 + 2 = A.length + 5 from rfl, key]
  have k0 := key (((((a0 :: a1 :: a2 :: b0 :: b1 :: b2 :: C).set 3 a0).set 4 a1).set 5 a2)) 0 b0
  rw [Nat.add_zero] at k0
  rw [k0, key, key]
  rfl
/-- less, as names -/
abbrev bl (a b : ByteArray) : Bool := Op.bytesLess a.toList b.toList
abbrev rfV (e : ByteArray × Fl) (d : Value) : Value := .agg #[.string e.1, d, .int .i64 (e.2.safe : Int)]
/-- L with e laid at its place -/
def PutsTo (L : Fs) (e : ByteArray × Fl) (L' : Fs) : Prop := ∃ Pl Ql, L = Pl ++ Ql ∧ L' = Pl ++ e :: Ql ∧ (∀ q ∈ Ql, bl e.1 q.1 = true) ∧ (∀ y, Pl.getLast? = some y → bl e.1 y.1 = false)

set_option maxHeartbeats 16000000 in
set_option maxRecDepth 100000 in
theorem rkPut {w : World} {B G : Nat} {E : Nat → Prop} {r : Rk} {L : Fs} {v : Value} {P : List Value} (h : RkAt w B G E r L v P) (e : ByteArray × Fl) (A5 : Option Addr) (m5 c5 : Nat) (hd : DvX (fun k => RF G v k ∨ E k) w (.slice A5 m5 c5) e.2.bs) (hl : L.length ≤ 1000000) (hBw : B ≤ w.heap.size) :
    Calls Try.prog 79 #[pR G, rfV e (.slice A5 m5 c5)] w fun x w' => x = .returned (.tuple #[]) ∧ ∃ L' v' P', PutsTo L e L' ∧ RkAt w' B G E r L' v' P' ∧ Ch (RF G v) w w' ∧ (∀ k, v'.ownBlock = some k → v.ownBlock = some k ∨ w.heap.size ≤ k) := by
  obtain ⟨A, c, rfl, hc1, hc2⟩ := h.form
  have H := Lib.hid h
  have HD := Lib.hid hd
  have HL := Lib.hid hl
  obtain ⟨wb, hwb⟩ : ∃ wb, wb = w.alloc (.cells #[.string e.1, .slice A5 m5 c5, .int .i64 (e.2.safe : Int)] TRF) := ⟨_, rfl⟩
  have hbb : Below w.heap.size w (w.alloc (.cells #[.string e.1, .slice A5 m5 c5, .int .i64 (e.2.safe : Int)] TRF)) := (Below.refl _ w).alloc (Nat.le_refl _) _
  have HBB := Lib.hid hbb
  have HZ : Hid ((w.alloc (.cells #[.string e.1, .slice A5 m5 c5, .int .i64 (e.2.safe : Int)] TRF)).heap[w.heap.size]? = some (.cells #[.string e.1, .slice A5 m5 c5, .int .i64 (e.2.safe : Int)] TRF)) := Lib.hid (heap_alloc_new w _)
  have HW := Lib.hid (h.below hbb)
  clear h hd hl hbb hwb
  go_enter Try.func79, Try.ntmps79
  go_wp2_with (fail)
  obtain ⟨X, hX⟩ : ∃ X, X = w.heap.size := ⟨_, rfl⟩
  have HX := Lib.hid hX
  rw [← hX] at HZ ⊢
  clear hX
  generalize w.alloc (.cells #[.string e.1, .slice A5 m5 c5, .int .i64 (e.2.safe : Int)] TRF) = wb at *
  obtain ⟨n, hn⟩ : ∃ n, n = L.length := ⟨_, rfl⟩
  have HN := Lib.hid hn
  have c0 : wb.cell? ⟨G, 0, none⟩ = some (.slice A L.length c) := HW.out.cell 0
  have z0 := cell_of_row _ X 0 _ _ _ HZ.out
  have z1 := cell_of_row _ X 1 _ _ _ HZ.out
  have z2 := cell_of_row _ X 2 _ _ _ HZ.out
  simp only [List.getElem?_toArray, List.getElem?_cons_zero, List.getElem?_cons_succ] at z0 z1 z2
  have HBA : Hid (Below wb.heap.size wb (wb.alloc (.cells #[.string e.1, .slice A5 m5 c5, .int .i64 (e.2.safe : Int)] TRF)).drew) := Lib.hid ((Below.refl _ _).alloc (Nat.le_refl _) _).drew
  have HWA := Lib.hid (HW.out.below HBA.out)
  have HC : Hid ((wb.alloc (.cells #[.string e.1, .slice A5 m5 c5, .int .i64 (e.2.safe : Int)] TRF)).heap[wb.heap.size]? = some (.cells [.string e.1, .slice A5 m5 c5, .int .i64 (e.2.safe : Int)].toArray TRF)) := Lib.hid (heap_alloc_new wb _)
  have HOWN := Lib.hid HWA.out.own
  have HSZ : Hid (B ≤ (wb.alloc (.cells #[.string e.1, .slice A5 m5 c5, .int .i64 (e.2.safe : Int)] TRF)).drew.heap.size) := Lib.hid (by have h1 := HBB.out.size; have h2 := HBA.out.size; omega)
  have HN1 : Hid (n ≤ 1000000) := Lib.hid (by rw [hn]; exact HL.out)
  have HVN : Hid (∀ k, (Value.slice A n c).ownBlock = some k → k ≠ G) := Lib.hid (by rw [hn]; exact fun k hk => H.out.vne k hk)
  have HROW : Hid ((wb.alloc (.cells #[.string e.1, .slice A5 m5 c5, .int .i64 (e.2.safe : Int)] TRF)).drew.heap[G]? = some (rkObj (.slice A n c) r)) := Lib.hid (by rw [hn]; exact HWA.out.row)
  have c0' : (wb.alloc (.cells #[.string e.1, .slice A5 m5 c5, .int .i64 (e.2.safe : Int)] TRF)).cell? ⟨G, 0, none⟩ = some (.slice A n c) := cell_of_row _ G 0 _ _ _ HROW.out
  rw [← hn] at c0 HOWN
  have tok1 : Hid True := Lib.hid trivial
  clear hn
  go_region_law (first | (have _t := tok1; refine step_appR rfl (.tmp 10) (.tmp 12) TRL rfl B Try.underlying67 (.slice A n c) n (rfsC L P) rfl HOWN.out [.string e.1, .slice A5 m5 c5, .int .i64 (e.2.safe : Int)] _ wb.heap.size HC.out rfl rfl (by intro u hu; simp only [List.mem_cons, List.not_mem_nil, or_false] at hu; rcases hu with rfl | rfl | rfl <;> rfl) (by have := HN1.out; omega) HSZ.out ?_; intro gO cO w5 ho5 hg5 hat5 hlt5; have HO5 := Lib.hid ho5; have HG5 := Lib.hid hg5; have HW5 : Hid (w5.heap[G]? = some (rkObj (.slice A n c) r)) := Lib.hid ((Ch.of_grown (S := fun k => k ≠ G) hg5 (fun k hk => HVN.out k hk)).row HROW.out (fun h => h rfl)); have s4 : w5.cell? ⟨G, 0, none⟩ = some (.slice A n c) := cell_of_row _ G 0 _ _ _ HW5.out; have t4 : w5.frozen? ⟨G, 0, none⟩ = false := frz HW5.out; have HAT := Lib.hid hat5; clear tok1 _t ho5 hg5 hat5))
  all_goals
    obtain ⟨v1, hv1⟩ : ∃ v1 : Value, v1 = .slice (some ⟨gO, 0, none⟩) (n + 1) cO := ⟨_, rfl⟩
    have HV1 := Lib.hid hv1
    have HR6 : Hid ((w5.setCell ⟨G, 0, none⟩ (.slice (some ⟨gO, 0, none⟩) (n + 1) cO)).heap[G]? = some (rkObj (.slice (some ⟨gO, 0, none⟩) (n + 1) cO) r)) := Lib.hid (heap_set_row HW5.out _)
    have HGO : Hid (gO ≠ G) := Lib.hid (by
      rintro rfl
      obtain ⟨cur, hcur⟩ := own3_ty HO5.out gO rfl
      rw [HW5.out] at hcur
      simp only [Option.some.injEq, Obj.cells.injEq] at hcur
      exact absurd hcur.2.1 (by decide))
    have HO6 : Hid ((w5.setCell ⟨G, 0, none⟩ (.slice (some ⟨gO, 0, none⟩) (n + 1) cO)).ownsRow B TRF 3 (.slice (some ⟨gO, 0, none⟩) (n + 1) cO) (n + 1) (rfsC (L ++ [e]) (P ++ [.slice A5 m5 c5]))) := Lib.hid (by
      rw [rfsC_app _ _ H.out.len]
      refine own3_ch (S := At1 G) (by simpa [rfsC] using HO5.out) ((Ch.refl _ _).set1 0 _) (fun k hk => ?_)
      simp only [Value.ownBlock, Option.some.injEq] at hk
      subst hk
      exact HGO.out)
    have HS6 : Hid (Ch (fun k => RF G (.slice A n c) k ∨ w.heap.size ≤ k) w (w5.setCell ⟨G, 0, none⟩ (.slice (some ⟨gO, 0, none⟩) (n + 1) cO))) := Lib.hid (by
      have h1 : Ch (fun k => RF G (.slice A n c) k ∨ w.heap.size ≤ k) w (wb.alloc (.cells #[.string e.1, .slice A5 m5 c5, .int .i64 (e.2.safe : Int)] TRF)).drew := Ch.of_below (HBB.out.trans (HBA.out.mono HBB.out.size))
      have h2 := h1.trans (Ch.of_grown (S := fun k => (Value.slice A n c).ownBlock = some k) HG5.out (fun k hk => hk)) (fun k _ hk => .inl (.inr hk))
      exact h2.set (a := ⟨G, 0, none⟩) (.inl (.inl rfl)) _)
    have HGF : Hid ((Value.slice A n c).ownBlock = some gO ∨ w.heap.size ≤ gO) := Lib.hid (HAT.out.imp id (fun h => Nat.le_trans (Nat.le_trans HBB.out.size HBA.out.size) (Nat.le_of_eq h.symm)))
    have HCO : Hid (n + 1 ≤ cO ∧ cO ≤ maxLen) := Lib.hid (by
      rcases HO5.out.2 with ⟨h0, _⟩ | ⟨g', cap', cur', hv', _, _, h3, h4, _⟩
      · cases h0
      · injection hv' with _ _ e3
        subst e3
        exact ⟨h3, h4⟩)
    clear c0 c0' z0 z1 z2 s4 t4 hv1
    generalize w5.setCell ⟨G, 0, none⟩ (.slice (some ⟨gO, 0, none⟩) (n + 1) cO) = w6 at *
    have c0 : w6.cell? ⟨G, 0, none⟩ = some (.slice (some ⟨gO, 0, none⟩) (n + 1) cO) := cell_of_row _ G 0 _ _ _ HR6.out
    have hwn : IntKind.i64.wrap (n : Int) = (n : Int) := IntWalk.i64_in _ (by have := HN1.out; omega)
    go_wp2_with (fail)
    clear c0 hwn
    go_loopw [4, 5] (fun i _ wr => ∃ (Pl Ql : Fs) (P1 P2 : List Value), L = Pl ++ Ql ∧ P = P1 ++ P2 ∧ P1.length = Pl.length ∧ i = .int .i64 (Pl.length : Int) ∧ (∀ q ∈ Ql, bl e.1 q.1 = true) ∧ wr.heap[G]? = some (rkObj (.slice (some ⟨gO, 0, none⟩) (n + 1) cO) r) ∧ wr.ownsRow B TRF 3 (.slice (some ⟨gO, 0, none⟩) (n + 1) cO) (n + 1) (rfsC (Pl ++ e :: Ql) (P1 ++ .slice A5 m5 c5 :: P2)) ∧ Ch (fun k => RF G (.slice A n c) k ∨ w.heap.size ≤ k) w wr) (fun i _ _ => (intOf i).toNat)
    case atStart => exact ⟨L, [], P, [], by simp, by simp, H.out.len, by rw [HN.out], (fun q hq => by cases hq), HR6.out, HO6.out, HS6.out⟩
    case round =>
      obtain ⟨wo, rfl⟩ : ∃ wo : World, wo = wr := ⟨_, rfl⟩
      obtain ⟨Pl, Ql, P1, P2, hL1, hP1, hlp, rfl, hq, hr6, ho6, hs6⟩ := hrel
      have HL1 := Lib.hid hL1
      have HP1 := Lib.hid hP1
      have HLP := Lib.hid hlp
      have HQ := Lib.hid hq
      have HR7 := Lib.hid hr6
      have HO7 := Lib.hid ho6
      have HS7 := Lib.hid hs6
      have c0 : wo.cell? ⟨G, 0, none⟩ = some (.slice (some ⟨gO, 0, none⟩) (n + 1) cO) := cell_of_row _ G 0 _ _ _ hr6
      have HLQ : Hid (Pl.length + Ql.length = n) := Lib.hid (by rw [HN.out, hL1, List.length_append])
      have hcn : (n : Int) + 1 ≤ (cO : Int) := by have := HCO.out.1; omega
      have hcm : cO ≤ 9223372036854775807 := by have := HCO.out.2; simpa only [maxLen] using this
      have HFIN : Hid ((∀ y, Pl.getLast? = some y → bl e.1 y.1 = false) → ∀ W, Below wo.heap.size wo W → ∃ L' v' P', PutsTo L e L' ∧ RkAt W B G E r L' v' P' ∧ Ch (RF G (.slice A n c)) w W ∧ (∀ k, v'.ownBlock = some k → (Value.slice A n c).ownBlock = some k ∨ w.heap.size ≤ k)) := Lib.hid (fun hlast W hWb => by
        refine ⟨Pl ++ e :: Ql, .slice (some ⟨gO, 0, none⟩) (n + 1) cO, P1 ++ .slice A5 m5 c5 :: P2, ⟨Pl, Ql, HL1.out, rfl, HQ.out, hlast⟩, RkAt.below ?_ hWb, HS7.out.trim.trans (Ch.of_below (S := fun _ => False) hWb) (fun _ _ h => h.elim), ?_⟩
        · have hll : (Pl ++ e :: Ql).length = n + 1 := by have := HLQ.out; simp; omega
          refine ⟨H.out.hG, HR7.out, ?_, by rw [hll]; exact HO7.out, ?_⟩
          · have := H.out.len
            rw [HL1.out, HP1.out] at this
            have h1 := HLP.out
            simp only [List.length_append, List.length_cons] at this ⊢
            omega
          · have hY : ∀ b, b < w.heap.size → (RF G (.slice (some ⟨gO, 0, none⟩) (n + 1) cO) b ∨ E b) → (RF G (.slice A n c) b ∨ E b) := by
              rintro b hb ((rfl | h) | h)
              · exact .inl (.inl rfl)
              · simp only [Value.ownBlock, Option.some.injEq] at h
                subst h
                rcases HGF.out with h | h
                · exact .inl (.inr h)
                · omega
              · exact .inr h
            intro i x d hx hd
            have hold : ∀ j, L[j]? = some x → P[j]? = some d → DvX (fun k => RF G (.slice (some ⟨gO, 0, none⟩) (n + 1) cO) k ∨ E k) wo d x.2.bs := fun j h1 h2 => by
              have := H.out.dat j x d h1 h2
              rw [← HN.out] at this
              exact this.ch (HS7.out.trim.wide (fun k hk => .inl hk)) hY
            by_cases hi : i < Pl.length
            · rw [List.getElem?_append_left hi] at hx
              rw [List.getElem?_append_left (by rw [HLP.out]; exact hi)] at hd
              exact hold i (by rw [HL1.out, List.getElem?_append_left hi]; exact hx) (by rw [HP1.out, List.getElem?_append_left (by rw [HLP.out]; exact hi)]; exact hd)
            · rw [List.getElem?_append_right (by omega)] at hx
              rw [List.getElem?_append_right (by rw [HLP.out]; omega), HLP.out] at hd
              by_cases h0 : i - Pl.length = 0
              · rw [h0] at hx hd
                simp only [List.getElem?_cons_zero, Option.some.injEq] at hx hd
                subst hx hd
                have := HD.out
                rw [← HN.out] at this
                exact this.ch (HS7.out.trim.wide (fun k hk => .inl hk)) hY
              · obtain ⟨k, hk⟩ : ∃ k, i - Pl.length = k + 1 := ⟨i - Pl.length - 1, by omega⟩
                rw [hk, List.getElem?_cons_succ] at hx hd
                exact hold (Pl.length + k) (by rw [HL1.out, List.getElem?_append_right (by omega), Nat.add_sub_cancel_left]; exact hx) (by rw [HP1.out, List.getElem?_append_right (by rw [HLP.out]; omega), HLP.out, Nat.add_sub_cancel_left]; exact hd)
        · intro k hk
          simp only [Value.ownBlock, Option.some.injEq] at hk
          subst hk
          exact HGF.out)
      clear hL1 hP1 hlp hq hr6 ho6 hs6
      rcases List.eq_nil_or_concat Pl with rfl | ⟨Pl', y, hpl⟩
      · clear HLQ
        simp only [List.length_nil]
        go_wp2_with (fail)
        go_quiet (fail)
        go_wp2_with (fail)
        go_end0
        rw [← HN.out]
        exact ⟨rfl, HFIN.out (fun y hy => by cases hy) _ (drawN_below (Below.refl _ _) nq)⟩
      · have hpl : Pl = Pl' ++ [y] := by rw [hpl, List.concat_eq_append]
        subst hpl
        obtain ⟨j, hj⟩ : ∃ j, j = Pl'.length := ⟨_, rfl⟩
        have hlen1 : (Pl' ++ [y]).length = j + 1 := by simp [hj]
        have HJ := Lib.hid hj
        have hjn : j + 1 ≤ n := by have := HLQ.out; rw [hlen1] at this; omega
        obtain ⟨P1', dy, hp1, hpl1⟩ : ∃ P1' dy, P1 = P1' ++ [dy] ∧ P1'.length = j := by
          have h1 := HLP.out
          rw [hlen1] at h1
          rcases List.eq_nil_or_concat P1 with rfl | ⟨Q, d, hq⟩
          · simp at h1
          · exact ⟨Q, d, by rw [hq, List.concat_eq_append], by rw [hq] at h1; simp at h1; omega⟩
        subst hp1
        obtain ⟨A7, m7, c7, rfl, _, _⟩ := H.out.dat j y dy (by rw [HL1.out, List.getElem?_append_left (by rw [hlen1]; omega), List.getElem?_append_right (by omega), hj]; simp) (by rw [HP1.out, List.getElem?_append_left (by simp; omega), List.getElem?_append_right (by omega), hpl1]; simp)
        have HROWS : Hid (rfsC (Pl' ++ [y] ++ e :: Ql) (P1' ++ [.slice A7 m7 c7] ++ .slice A5 m5 c5 :: P2) = rfsC Pl' P1' ++ (.string y.1 :: .slice A7 m7 c7 :: .int .i64 (y.2.safe : Int) :: .string e.1 :: .slice A5 m5 c5 :: .int .i64 (e.2.safe : Int) :: rfsC Ql P2)) := Lib.hid (by
          rw [show Pl' ++ [y] ++ e :: Ql = Pl' ++ (y :: e :: Ql) from by simp, show P1' ++ [.slice A7 m7 c7] ++ Value.slice A5 m5 c5 :: P2 = P1' ++ (Value.slice A7 m7 c7 :: Value.slice A5 m5 c5 :: P2) from by simp, rfsC_app _ _ (by rw [hpl1, hj])]
          rfl)
        have HROWN : Hid (rfsC (Pl' ++ e :: y :: Ql) (P1' ++ .slice A5 m5 c5 :: .slice A7 m7 c7 :: P2) = rfsC Pl' P1' ++ (.string e.1 :: .slice A5 m5 c5 :: .int .i64 (e.2.safe : Int) :: .string y.1 :: .slice A7 m7 c7 :: .int .i64 (y.2.safe : Int) :: rfsC Ql P2)) := Lib.hid (by
          rw [rfsC_app _ _ (by rw [hpl1, hj])]
          rfl)
        have hl3 : (rfsC Pl' P1').length = j * 3 := by rw [rfsC_len (by rw [hpl1, hj]), hj]
        have HL3 := Lib.hid hl3
        have hcell : ∀ (W : World), W.ownsRow B TRF 3 (.slice (some ⟨gO, 0, none⟩) (n + 1) cO) (n + 1) (rfsC Pl' P1' ++ (.string y.1 :: .slice A7 m7 c7 :: .int .i64 (y.2.safe : Int) :: .string e.1 :: .slice A5 m5 c5 :: .int .i64 (e.2.safe : Int) :: rfsC Ql P2)) → ∀ i, i < 6 → W.cell? ⟨gO, j * 3 + i, none⟩ = (Value.string y.1 :: .slice A7 m7 c7 :: .int .i64 (y.2.safe : Int) :: .string e.1 :: .slice A5 m5 c5 :: .int .i64 (e.2.safe : Int) :: rfsC Ql P2)[i]? := fun W hW i hi => by
          rw [hW.cellAt (j * 3 + i) (by omega), List.getElem?_append_right (by omega), hl3, Nat.add_sub_cancel_left]
        have ho7 := HO7.out
        rw [HROWS.out] at ho7
        have HO8 := Lib.hid ho7
        have x0 := hcell wo ho7 0 (by omega)
        have x1 := hcell wo ho7 1 (by omega)
        have x2 := hcell wo ho7 2 (by omega)
        have x3 := hcell wo ho7 3 (by omega)
        have x4 := hcell wo ho7 4 (by omega)
        have x5 := hcell wo ho7 5 (by omega)
        simp only [List.getElem?_cons_zero, List.getElem?_cons_succ, Nat.add_zero] at x0 x1 x2 x3 x4 x5
        rw [hlen1]
        have hwj : IntKind.i64.wrap (j : Int) = (j : Int) := IntWalk.i64_in _ (by have := HN1.out; omega)
        have hj1 : (j : Int) + 1 < (n : Int) + 1 := by omega
        have hj0 : (j : Int) < (n : Int) + 1 := by omega
        have hjp : (0 : Int) < (j : Int) + 1 := by omega
        have e3 : (j + 1) * 3 = j * 3 + 3 := by omega
        have HCELL := Lib.hid hcell
        have HPL1 : Hid (P1'.length = Pl'.length) := Lib.hid (by rw [hpl1, hj])
        clear hcell ho7 hj hpl1 hl3
        by_cases hle : bl e.1 y.1 = true
        · have hle' : Op.bytesLess e.1.toList y.1.toList = true := hle
          have HLEY := Lib.hid hle
          clear hle
          go_wp2_with (fail)
          go_quiet (fail)
          have HBQ : Hid (Below wo.heap.size wo (wo.drewN nq)) := Lib.hid (drawN_below (Below.refl _ _) nq)
          have HR9 := Lib.hid ((HBQ.out.block _ (Array.getElem?_eq_some_iff.1 HR7.out).1).trans HR7.out)
          have HO9 := Lib.hid (own3_ch (S := fun _ => False) HO8.out (Ch.of_below HBQ.out) (fun _ _ h => h))
          have HS9 := Lib.hid (HS7.out.trans (Ch.of_below (S := fun _ => False) HBQ.out) (fun _ _ h => h.elim))
          clear x0 x1 x2 x3 x4 x5 c0 hle'
          generalize wo.drewN nq = wq at *
          have c0 : wq.cell? ⟨G, 0, none⟩ = some (.slice (some ⟨gO, 0, none⟩) (n + 1) cO) := cell_of_row _ G 0 _ _ _ HR9.out
          have x3 := HCELL.out wq HO9.out 3 (by omega)
          have x4 := HCELL.out wq HO9.out 4 (by omega)
          have x5 := HCELL.out wq HO9.out 5 (by omega)
          simp only [List.getElem?_cons_zero, List.getElem?_cons_succ] at x3 x4 x5
          go_wp2_with (fail)
          have HBX := Lib.hid ((Below.refl wq.heap.size wq).alloc (Nat.le_refl _) (.cells #[.string e.1, .slice A5 m5 c5, .int .i64 (e.2.safe : Int)] TRF))
          have HRX := Lib.hid ((HBX.out.block _ (Array.getElem?_eq_some_iff.1 HR9.out).1).trans HR9.out)
          have HOX := Lib.hid (own3_ch (S := fun _ => False) HO9.out (Ch.of_below HBX.out) (fun _ _ h => h))
          have HSX := Lib.hid (HS9.out.trans (Ch.of_below (S := fun _ => False) HBX.out) (fun _ _ h => h.elim))
          have HZX := Lib.hid (heap_alloc_new wq (.cells #[.string e.1, .slice A5 m5 c5, .int .i64 (e.2.safe : Int)] TRF))
          have HGX : Hid (gO ≠ wq.heap.size) := Lib.hid (by have := (World.ownsRow.lt HO9.out gO rfl).2; omega)
          obtain ⟨X2, hX2⟩ : ∃ X2, X2 = wq.heap.size := ⟨_, rfl⟩
          rw [← hX2] at HZX HGX ⊢
          clear c0 x3 x4 x5 hX2
          generalize wq.alloc (.cells #[.string e.1, .slice A5 m5 c5, .int .i64 (e.2.safe : Int)] TRF) = wx at *
          have c0 : wx.cell? ⟨G, 0, none⟩ = some (.slice (some ⟨gO, 0, none⟩) (n + 1) cO) := cell_of_row _ G 0 _ _ _ HRX.out
          have x0 := HCELL.out wx HOX.out 0 (by omega)
          have x1 := HCELL.out wx HOX.out 1 (by omega)
          have x2 := HCELL.out wx HOX.out 2 (by omega)
          have x3 := HCELL.out wx HOX.out 3 (by omega)
          have x4 := HCELL.out wx HOX.out 4 (by omega)
          have x5 := HCELL.out wx HOX.out 5 (by omega)
          simp only [List.getElem?_cons_zero, List.getElem?_cons_succ, Nat.add_zero] at x0 x1 x2 x3 x4 x5
          have f3 := HOX.out.frozenAt (j * 3 + 3)
          have f4 := HOX.out.frozenAt (j * 3 + 3 + 1)
          have f5 := HOX.out.frozenAt (j * 3 + 3 + 2)
          go_region
          all_goals
            have HOY := Lib.hid (World.ownsRow.stored (World.ownsRow.stored (World.ownsRow.stored HOX.out (j * 3 + 3) (.string y.1)).1 (j * 3 + 3 + 1) (.slice A7 m7 c7)).1 (j * 3 + 3 + 2) (.int .i64 (y.2.safe : Int))).1
            have HCY : Hid (Ch (At1 gO) wx (((wx.setCell ⟨gO, j * 3 + 3, none⟩ (.string y.1)).setCell ⟨gO, j * 3 + 3 + 1, none⟩ (.slice A7 m7 c7)).setCell ⟨gO, j * 3 + 3 + 2, none⟩ (.int .i64 (y.2.safe : Int)))) := Lib.hid ((((Ch.refl _ _).set1 _ _).set1 _ _).set1 _ _)
            have HRY := Lib.hid (HCY.out.row HRX.out (fun h => HGO.out h.symm))
            have HZY := Lib.hid (HCY.out.row HZX.out (fun h => HGX.out h.symm))
            clear c0 x0 x1 x2 x3 x4 x5 f3 f4 f5
            replace HOY := Lib.hid (own3_ch (S := fun _ => False) HOY.out (Ch.refl _ _).drew (fun _ _ h => h))
            replace HRY := Lib.hid ((show ((((wx.setCell ⟨gO, j * 3 + 3, none⟩ (.string y.1)).setCell ⟨gO, j * 3 + 3 + 1, none⟩ (.slice A7 m7 c7)).setCell ⟨gO, j * 3 + 3 + 2, none⟩ (.int .i64 (y.2.safe : Int))).drew).heap[G]? = _ from HRY.out))
            replace HZY := Lib.hid ((show ((((wx.setCell ⟨gO, j * 3 + 3, none⟩ (.string y.1)).setCell ⟨gO, j * 3 + 3 + 1, none⟩ (.slice A7 m7 c7)).setCell ⟨gO, j * 3 + 3 + 2, none⟩ (.int .i64 (y.2.safe : Int))).drew).heap[X2]? = _ from HZY.out))
            replace HCY := Lib.hid (HCY.out.drew)
            generalize (((wx.setCell ⟨gO, j * 3 + 3, none⟩ (.string y.1)).setCell ⟨gO, j * 3 + 3 + 1, none⟩ (.slice A7 m7 c7)).setCell ⟨gO, j * 3 + 3 + 2, none⟩ (.int .i64 (y.2.safe : Int))).drew = wy at *
            have c0 : wy.cell? ⟨G, 0, none⟩ = some (.slice (some ⟨gO, 0, none⟩) (n + 1) cO) := cell_of_row _ G 0 _ _ _ HRY.out
            have z0 := cell_of_row _ X2 0 _ _ _ HZY.out
            have z1 := cell_of_row _ X2 1 _ _ _ HZY.out
            have z2 := cell_of_row _ X2 2 _ _ _ HZY.out
            simp only [List.getElem?_toArray, List.getElem?_cons_zero, List.getElem?_cons_succ] at z0 z1 z2
            have x0 := HOY.out.cellAt (j * 3) (by omega)
            have x1 := HOY.out.cellAt (j * 3 + 1) (by omega)
            have x2 := HOY.out.cellAt (j * 3 + 2) (by omega)
            rw [List.getElem?_set_ne (by omega), List.getElem?_set_ne (by omega), List.getElem?_set_ne (by omega), List.getElem?_append_right (by have := HL3.out; omega), HL3.out] at x0 x1 x2
            simp only [Nat.sub_self, Nat.add_sub_cancel_left, List.getElem?_cons_zero, List.getElem?_cons_succ] at x0 x1 x2
            have f0 := HOY.out.frozenAt (j * 3)
            have f1 := HOY.out.frozenAt (j * 3 + 1)
            have f2 := HOY.out.frozenAt (j * 3 + 2)
            have HOZ := Lib.hid (World.ownsRow.stored (World.ownsRow.stored (World.ownsRow.stored HOY.out (j * 3) (.string e.1)).1 (j * 3 + 1) (.slice A5 m5 c5)).1 (j * 3 + 2) (.int .i64 (e.2.safe : Int))).1
            rw [set_two _ _ _ _ _ _ _ _ HL3.out] at HOZ
            have HCZ : Hid (Ch (At1 gO) wx (((wy.setCell ⟨gO, j * 3, none⟩ (.string e.1)).setCell ⟨gO, j * 3 + 1, none⟩ (.slice A5 m5 c5)).setCell ⟨gO, j * 3 + 2, none⟩ (.int .i64 (e.2.safe : Int)))) := Lib.hid (((HCY.out.set1 _ _).set1 _ _).set1 _ _)
            have HRZ := Lib.hid (HCZ.out.row HRX.out (fun h => HGO.out h.symm))
            go_wp2_with (fail)
            go_region
            all_goals
              go_wp2_with (fail)
              rw [← HROWN.out] at HOZ
              have HSZ : Hid (Ch (fun k => RF G (.slice A n c) k ∨ w.heap.size ≤ k) w (((wy.setCell ⟨gO, j * 3, none⟩ (.string e.1)).setCell ⟨gO, j * 3 + 1, none⟩ (.slice A5 m5 c5)).setCell ⟨gO, j * 3 + 2, none⟩ (.int .i64 (e.2.safe : Int)))) := Lib.hid (HSX.out.trans HCZ.out (fun k _ hk => by
                subst hk
                rcases HGF.out with h | h
                · exact .inl (.inr h)
                · exact .inr h))
              have HQY : Hid (∀ q ∈ y :: Ql, bl e.1 q.1 = true) := Lib.hid (fun q hq => by
                rcases List.mem_cons.1 hq with rfl | hq
                · exact HLEY.out
                · exact HQ.out q hq)
              exact ⟨⟨Pl', y :: Ql, P1', .slice A7 m7 c7 :: P2, by rw [HL1.out]; simp, by rw [HP1.out]; simp, HPL1.out, by rw [HJ.out], HQY.out, HRZ.out, HOZ.out, HSZ.out.drew⟩, by simp [intOf]⟩
        · have hle' : Op.bytesLess e.1.toList y.1.toList = false := by simpa using hle
          have HLE := Lib.hid hle
          clear hle
          go_wp2_with (fail)
          go_quiet (fail)
          go_wp2_with (fail)
          go_end0
          rw [← HN.out]
          exact ⟨rfl, HFIN.out (fun z hz => by simp at hz; subst hz; simpa using HLE.out) _ (drawN_below (Below.refl _ _) nq)⟩
end Go.Proofs.Ythblbmbefhlbjaa
/- The document's disk: a file taken out, walked. -/
namespace Go.Proofs.Ythblbmbefhlbjaa
open Go.RowKit Go.MapKept

def SrcR (w : World) (A : Option Addr) (m : Nat) (L : Fs) (P : List Value) : Prop := L.length = m ∧ P.length = m ∧ (0 < m → ∃ b o, A = some ⟨b, o, none⟩ ∧ ∀ i x p, L[i]? = some x → P[i]? = some p → ∀ j, j < 3 → w.cell? ⟨b, o + i * 3 + j, none⟩ = (rfC x p)[j]?)
theorem SrcR.below {w w' : World} {A : Option Addr} {m : Nat} {L : Fs} {P : List Value} (h : SrcR w A m L P) (hb : Below w.heap.size w w') : SrcR w' A m L P :=
  ⟨h.1, h.2.1, fun hm => by
    obtain ⟨b, o, e, hc⟩ := h.2.2 hm
    refine ⟨b, o, e, fun i x p h1 h2 j hj => ?_⟩
    have h3 := hc i x p h1 h2 j hj
    have h4 : ((rfC x p)[j]?).isSome = true := by
      rw [List.getElem?_eq_getElem (by simpa [rfC] using hj)]; rfl
    rw [← h3] at h4
    obtain ⟨u, hu⟩ := Option.isSome_iff_exists.1 h4
    rw [← h3, hu]
    exact (hb.cell (p := ⟨b, o + i * 3 + j, none⟩) (World.block_lt_of_cell? w _ hu)).trans hu⟩
end Go.Proofs.Ythblbmbefhlbjaa
/- The document's answer: is it a name, walked. -/
namespace Go.Proofs.Ythblbmbefhlbjaa
open Go.RowKit Go.MapKept

set_option maxHeartbeats 4000000 in
set_option maxRecDepth 100000 in
theorem refName (x : ByteArray) (w : World) (hx : x.size ≤ 140737488355328) : Calls Try.prog 19 #[.string x] w fun e w' => e = .returned (.bool (nameD x)) ∧ w = w' := by
  go_enter Try.func19, Try.ntmps19
  by_cases h1 : x.size < 1
  · have d1 : decide ((x.size : Int) < 1) = true := by simp; omega
    have HN : Hid (nameD x = false) := Lib.hid (by unfold nameD; simp; omega)
    clear h1
    go_wp2
    go_ret
    exact ⟨by rw [HN.out]; rfl, rfl⟩
  have d1 : decide ((x.size : Int) < 1) = false := by simp; omega
  by_cases h2 : 32 < x.size
  · have d2 : decide ((32 : Int) < (x.size : Int)) = true := by simp; omega
    have HN : Hid (nameD x = false) := Lib.hid (by unfold nameD; simp; omega)
    clear h1 h2
    go_wp2
    go_ret
    exact ⟨by rw [HN.out]; rfl, rfl⟩
  have d2 : decide ((32 : Int) < (x.size : Int)) = false := by simp; omega
  have HND : Hid (nameD x = x.data.toList.all nameB) := Lib.hid (by
    unfold nameD
    rw [decide_eq_true (show 1 ≤ x.size by omega), decide_eq_true (show x.size ≤ 32 by omega)]
    simp)
  have H32 : Hid (x.size ≤ 32) := Lib.hid (by omega)
  clear h1 h2
  go_wp2_with (fail)
  go_loopw [3] (fun i wr => ∃ k : Nat, k ≤ x.size ∧ i = .int .i64 k ∧ (x.data.toList.take k).all nameB = true ∧ wr = w) (fun i _ => x.size - (intOf i).toNat)
  case atStart => exact ⟨0, Nat.zero_le _, rfl, rfl, rfl⟩
  case round =>
    obtain ⟨k, hk, rfl, hal, rfl⟩ := hrel
    have HAL := Lib.hid hal
    clear hal
    by_cases hlt : k < x.size
    · have e1 : (k : Int) < (x.size : Int) := by omega
      have e2 : decide ((k : Int) < (x.size : Int)) = true := by simpa using e1
      have HX : Hid (x.data.toList.take (k + 1) = x.data.toList.take k ++ [x[k]]) := Lib.hid (by rw [List.take_succ_eq_append_getElem (by simpa using hlt)]; rfl)
      have HME : Hid (x[k] ∈ x.data.toList) := Lib.hid (List.getElem_mem (l := x.data.toList) (n := k) (by simpa using hlt))
      have HV : Hid (nameB x[k] = ((decide (97 ≤ x[k].toNat) && decide (x[k].toNat ≤ 122)) || (decide (48 ≤ x[k].toNat) && decide (x[k].toNat ≤ 57)) || x[k].toNat == 46)) := Lib.hid rfl
      have HC : Hid (∀ c : Nat, x[k].toNat = c → nameB x[k] = ((decide (97 ≤ c) && decide (c ≤ 122)) || (decide (48 ≤ c) && decide (c ≤ 57)) || c == 46)) := Lib.hid (fun c hc => by rw [HV.out, hc])
      obtain ⟨c, hc⟩ : ∃ c, x[k].toNat = c := ⟨_, rfl⟩
      have HB : Hid (nameB x[k] = ((decide (97 ≤ c) && decide (c ≤ 122)) || (decide (48 ≤ c) && decide (c ≤ 57)) || c == 46)) := Lib.hid (HC.out c hc)
      have HIX : Hid (∀ W : World, (Instr.index 9 (.string x) (.int .i64 (k : Int))).run Try.prog W = .ok (.int .u8 (c : Int)) W) := Lib.hid (fun W => by rw [← hc]; simp [Instr.index, asIntOf, run_underlying Try.underlying9, go_sem, hlt])
      have hix := HIX.out
      clear HV HC
      have hcase : (97 ≤ c ∧ c ≤ 122) ∨ (97 ≤ c ∧ 122 < c) ∨ (c < 97 ∧ 48 ≤ c ∧ c ≤ 57) ∨ (c < 97 ∧ 48 ≤ c ∧ 57 < c) ∨ (c < 48 ∧ c = 46) ∨ (c < 48 ∧ c ≠ 46) := by omega
      clear hc
      rcases hcase with h | h | h | h | h | h

      · have hb : nameB x[k] = true := by rw [HB.out]; simp; omega
        have f0 : decide ((97 : Int) ≤ (c : Int)) = true := by simp; omega
        have f1 : decide ((c : Int) ≤ 122) = true := by simp; omega
        have HBB := Lib.hid hb
        clear hb h
        go_wp2_with (fail)
        exact ⟨⟨k + 1, by omega, by go_num, by rw [HX.out, List.all_append, HAL.out]; simp [HBB.out], trivial⟩, by simp [intOf]; omega⟩
      · have hb : nameB x[k] = false := by rw [HB.out]; simp; omega
        have f0 : decide ((97 : Int) ≤ (c : Int)) = true := by simp; omega
        have f1 : decide ((c : Int) ≤ 122) = false := by simp; omega
        have f2 : decide ((48 : Int) ≤ (c : Int)) = true := by simp; omega
        have f3 : decide ((c : Int) ≤ 57) = false := by simp; omega
        have g1 : ((c : Int) != 46) = true := by simp; omega
        have HN : Hid (nameD x = false) := Lib.hid (by rw [HND.out, List.all_eq_false]; exact ⟨x[k], HME.out, by rw [hb]; decide⟩)
        clear hb h
        go_wp2_with (fail)
        go_ret
        exact ⟨by rw [HN.out]; rfl, rfl⟩
      · have hb : nameB x[k] = true := by rw [HB.out]; simp; omega
        have f0 : decide ((97 : Int) ≤ (c : Int)) = false := by simp; omega
        have f1 : decide ((48 : Int) ≤ (c : Int)) = true := by simp; omega
        have f2 : decide ((c : Int) ≤ 57) = true := by simp; omega
        have HBB := Lib.hid hb
        clear hb h
        go_wp2_with (fail)
        exact ⟨⟨k + 1, by omega, by go_num, by rw [HX.out, List.all_append, HAL.out]; simp [HBB.out], trivial⟩, by simp [intOf]; omega⟩
      · have hb : nameB x[k] = false := by rw [HB.out]; simp; omega
        have f0 : decide ((97 : Int) ≤ (c : Int)) = false := by simp; omega
        have f1 : decide ((48 : Int) ≤ (c : Int)) = true := by simp; omega
        have f2 : decide ((c : Int) ≤ 57) = false := by simp; omega
        have g1 : ((c : Int) != 46) = true := by simp; omega
        have HN : Hid (nameD x = false) := Lib.hid (by rw [HND.out, List.all_eq_false]; exact ⟨x[k], HME.out, by rw [hb]; decide⟩)
        clear hb h
        go_wp2_with (fail)
        go_ret
        exact ⟨by rw [HN.out]; rfl, rfl⟩
      · have hb : nameB x[k] = true := by rw [HB.out]; simp; omega
        have f0 : decide ((97 : Int) ≤ (c : Int)) = false := by simp; omega
        have f1 : decide ((48 : Int) ≤ (c : Int)) = false := by simp; omega
        have g1 : ((c : Int) != 46) = false := by simp; omega
        have HBB := Lib.hid hb
        clear hb h
        go_wp2_with (fail)
        exact ⟨⟨k + 1, by omega, by go_num, by rw [HX.out, List.all_append, HAL.out]; simp [HBB.out], trivial⟩, by simp [intOf]; omega⟩
      · have hb : nameB x[k] = false := by rw [HB.out]; simp; omega
        have f0 : decide ((97 : Int) ≤ (c : Int)) = false := by simp; omega
        have f1 : decide ((48 : Int) ≤ (c : Int)) = false := by simp; omega
        have g1 : ((c : Int) != 46) = true := by simp; omega
        have HN : Hid (nameD x = false) := Lib.hid (by rw [HND.out, List.all_eq_false]; exact ⟨x[k], HME.out, by rw [hb]; decide⟩)
        clear hb h
        go_wp2_with (fail)
        go_ret
        exact ⟨by rw [HN.out]; rfl, rfl⟩
    · obtain rfl : k = x.size := by omega
      have e2 : decide ((x.size : Int) < (x.size : Int)) = false := by simp
      have HN : Hid (nameD x = true) := Lib.hid (by have h1 := HAL.out; rw [List.take_of_length_le (by simp)] at h1; rw [HND.out]; exact h1)
      clear hlt
      go_wp2_with (fail)
      go_ret
      exact ⟨by rw [HN.out]; rfl, rfl⟩
end Go.Proofs.Ythblbmbefhlbjaa
/- The document's disk: bytes laid behind a file's, walked. -/
namespace Go.Proofs.Ythblbmbefhlbjaa
open Go.RowKit Go.MapKept

theorem rfsC_mid {A0 Q0 : Fs} {e : ByteArray × Fl} {P1 P2 : List Value} {d : Value} (h : P1.length = A0.length) : rfsC (A0 ++ e :: Q0) (P1 ++ d :: P2) = rfsC A0 P1 ++ (rfC e d ++ rfsC Q0 P2) := by
  rw [rfsC_app _ _ h]
  rfl
theorem p_split {A0 Q0 : Fs} {e : ByteArray × Fl} {P : List Value} (h : P.length = (A0 ++ e :: Q0).length) : ∃ P1 d P2, P = P1 ++ d :: P2 ∧ P1.length = A0.length := by
  have hl : A0.length < P.length := by rw [h]; simp
  exact ⟨P.take A0.length, P[A0.length], P.drop (A0.length + 1), by rw [List.getElem_cons_drop, List.take_append_drop], by rw [List.length_take]; omega⟩
section
variable {w : World} {B G g n c : Nat} {E : Nat → Prop} {r : Rk} {A0 Q0 : Fs} {e : ByteArray × Fl} {v : Value} {P1 P2 : List Value} {d : Value}
theorem setc_row (h : RkAt w B G E r (A0 ++ e :: Q0) (.slice (some ⟨g, 0, none⟩) n c) (P1 ++ d :: P2)) (hp : P1.length = A0.length) (j : Nat) (u : Value) (hj : j < 3) :
    (w.setCell ⟨g, A0.length * 3 + j, none⟩ u).ownsRow B TRF 3 (.slice (some ⟨g, 0, none⟩) n c) (A0 ++ e :: Q0).length (rfsC A0 P1 ++ ((rfC e d).set j u ++ rfsC Q0 P2)) := by
  have hn : n = (A0 ++ e :: Q0).length := by
    obtain ⟨A', c', e', _⟩ := h.form
    injection e'
  have ho := h.own
  rw [rfsC_mid hp, ← hn] at ho
  have h2 := (World.ownsRow.stored ho (A0.length * 3 + j) u).1
  rw [List.set_append, if_neg (by rw [rfsC_len hp]; omega), rfsC_len hp, Nat.add_sub_cancel_left, List.set_append, if_pos (by simp [rfC]; omega)] at h2
  rw [← hn]
  exact h2
theorem gne (h : RkAt w B G E r (A0 ++ e :: Q0) (.slice (some ⟨g, 0, none⟩) n c) (P1 ++ d :: P2)) : g ≠ G := h.vne g rfl
/-- the bytes of a file anew -/
theorem RkAt.setD (h : RkAt w B G E r (A0 ++ e :: Q0) (.slice (some ⟨g, 0, none⟩) n c) (P1 ++ d :: P2)) (hp : P1.length = A0.length) (dv : Value) (b : List UInt8) (hd : DvX (fun k => RF G (.slice (some ⟨g, 0, none⟩) n c) k ∨ E k) w dv b) :
    RkAt (w.setCell ⟨g, A0.length * 3 + 1, none⟩ dv) B G E r (A0 ++ (e.1, ⟨b, e.2.safe⟩) :: Q0) (.slice (some ⟨g, 0, none⟩) n c) (P1 ++ dv :: P2) := by
  have hc : Ch (At1 g) w (w.setCell ⟨g, A0.length * 3 + 1, none⟩ dv) := (Ch.refl _ w).set1 _ _
  have hX : Ch (fun k => RF G (.slice (some ⟨g, 0, none⟩) n c) k ∨ E k) w (w.setCell ⟨g, A0.length * 3 + 1, none⟩ dv) := hc.wide (fun k hk => .inl (.inr (by rw [hk]; rfl)))
  have hl := h.len
  refine ⟨h.hG, hc.row h.row (fun hh => gne h hh.symm), by simpa using hl, ?_, fun i x q hx hq => ?_⟩
  · have := setc_row h hp 1 dv (by omega)
    rw [rfsC_mid hp]
    simpa [rfC] using this
  · by_cases hi : i = A0.length
    · subst hi
      rw [List.getElem?_append_right (Nat.le_refl _), Nat.sub_self] at hx
      rw [List.getElem?_append_right (by omega), hp, Nat.sub_self] at hq
      simp only [List.getElem?_cons_zero, Option.some.injEq] at hx hq
      subst hx hq
      exact hd.ch hX (fun _ _ h => h)
    · have h1 : (A0 ++ e :: Q0)[i]? = some x := by
        by_cases hlt : i < A0.length
        · rw [List.getElem?_append_left hlt] at hx ⊢; exact hx
        · rw [List.getElem?_append_right (by omega)] at hx ⊢
          rw [show i - A0.length = (i - A0.length - 1) + 1 from by omega, List.getElem?_cons_succ] at hx ⊢
          exact hx
      have h2 : (P1 ++ d :: P2)[i]? = some q := by
        by_cases hlt : i < A0.length
        · rw [List.getElem?_append_left (by omega)] at hq ⊢; exact hq
        · rw [List.getElem?_append_right (by omega)] at hq ⊢
          rw [show i - P1.length = (i - P1.length - 1) + 1 from by omega, List.getElem?_cons_succ] at hq ⊢
          exact hq
      exact (h.dat i x q h1 h2).ch hX (fun _ _ h => h)
/-- how many are safe anew -/
theorem RkAt.setS (h : RkAt w B G E r (A0 ++ e :: Q0) (.slice (some ⟨g, 0, none⟩) n c) (P1 ++ d :: P2)) (hp : P1.length = A0.length) (s : Nat) :
    RkAt (w.setCell ⟨g, A0.length * 3 + 2, none⟩ (.int .i64 (s : Int))) B G E r (A0 ++ (e.1, ⟨e.2.bs, s⟩) :: Q0) (.slice (some ⟨g, 0, none⟩) n c) (P1 ++ d :: P2) := by
  have hc : Ch (At1 g) w (w.setCell ⟨g, A0.length * 3 + 2, none⟩ (.int .i64 (s : Int))) := (Ch.refl _ w).set1 _ _
  have hX : Ch (fun k => RF G (.slice (some ⟨g, 0, none⟩) n c) k ∨ E k) w (w.setCell ⟨g, A0.length * 3 + 2, none⟩ (.int .i64 (s : Int))) := hc.wide (fun k hk => .inl (.inr (by rw [hk]; rfl)))
  have hl := h.len
  refine ⟨h.hG, hc.row h.row (fun hh => gne h hh.symm), by simpa using hl, ?_, fun i x q hx hq => ?_⟩
  · have := setc_row h hp 2 (.int .i64 (s : Int)) (by omega)
    rw [rfsC_mid hp]
    simpa [rfC] using this
  · by_cases hi : i = A0.length
    · subst hi
      have h2 := h.dat A0.length e q (by rw [List.getElem?_append_right (Nat.le_refl _), Nat.sub_self]; rfl) hq
      rw [List.getElem?_append_right (Nat.le_refl _), Nat.sub_self] at hx
      simp only [List.getElem?_cons_zero, Option.some.injEq] at hx
      subst hx
      exact h2.ch hX (fun _ _ h => h)
    · have h1 : (A0 ++ e :: Q0)[i]? = some x := by
        by_cases hlt : i < A0.length
        · rw [List.getElem?_append_left hlt] at hx ⊢; exact hx
        · rw [List.getElem?_append_right (by omega)] at hx ⊢
          rw [show i - A0.length = (i - A0.length - 1) + 1 from by omega, List.getElem?_cons_succ] at hx ⊢
          exact hx
      exact (h.dat i x q h1 hq).ch hX (fun _ _ h => h)
end
theorem slice_fr (A : Option Addr) (m c N : Nat) (h : N ≤ c) (W : World) : (Instr.sliceAt 27 (.slice A m c) none (some (.int .i64 (N : Int))) none).run Try.prog W = .ok (.slice A N c) W := by
  have he : Try.prog.elem 27 = 5 := by kernel_rfl
  have hu : Try.prog.underlying 27 = some (.slice (Try.prog.elem 27)) := by rw [he]; exact Try.underlying27
  rw [run_sliceAt_slice (h := hu), run_slice_h (ht := hu) (h0 := by omega) (h2 := by omega), he]
  rcases A with _ | a
  · simp [go_sem, sliced, Result.andThen]
  · simp [go_sem, sliced, Result.andThen, Addr.add]
theorem Bs.front {w : World} {A : Option Addr} {m c N : Nat} {l : List UInt8} (h : Bs w A m c l) (hN : N ≤ m) : Bs w A N c (l.take N) := by
  refine ⟨by rw [List.length_take, h.len]; omega, by have := h.2.1; omega, h.2.2.1, fun h0 => ?_⟩
  obtain ⟨b, o, e, _, hc⟩ := h.at_ (by omega)
  exact ⟨b, o, e, fun i x hx => hc i x (by
    rw [List.getElem?_take] at hx
    split at hx
    · exact hx
    · cases hx)⟩
def appM (r : Rk) (u m : Nat) : Nat := min m (r.size - (u : Int)).toNat
def appR (r : Rk) (u m : Nat) : Nat := if r.armed = 1 then min (appM r u m) r.keep.toNat else appM r u m
/-- what Append makes of the files -/
def AppTo (r : Rk) (L : Fs) (nm : ByteArray) (l : List UInt8) (L' : Fs) : Prop :=
  ∃ L1 A f Q, (fget L nm ≠ none ∧ L1 = L ∨ fget L nm = none ∧ PutsTo L (nm, ⟨[], 0⟩) L1) ∧ L1 = A ++ (nm, f) :: Q ∧ (∀ e ∈ A, e.1 ≠ nm) ∧ L' = A ++ (nm, ⟨f.bs ++ l.take (appR r (sumB L) l.length), f.safe⟩) :: Q
structure Rk.Ok (r : Rk) : Prop where
  size : 0 ≤ r.size ∧ r.size ≤ 1099511627776
  count : 0 ≤ r.count ∧ r.count ≤ 1152921504606846976
  armed : 0 ≤ r.armed ∧ r.armed ≤ 9223372036854775807
  keep : -9223372036854775808 ≤ r.keep ∧ r.keep ≤ 9223372036854775807
  fail : 0 ≤ r.fail ∧ r.fail ≤ 9223372036854775807
abbrev ret3 (n e : Int) (g : Bool) : Ending := .returned (.tuple #[.int .i64 n, .int .i64 e, .bool g])

set_option maxHeartbeats 16000000 in
set_option maxRecDepth 100000 in
theorem rkAppend_name {w : World} {G : Nat} (nm : ByteArray) (hs : nm.size ≤ 140737488355328) (hn : nameD nm = false) (A : Option Addr) (m c : Nat) :
    Calls Try.prog 56 #[pR G, .string nm, .slice A m c] w fun x w' => x = ret3 0 16 false ∧ w = w' := by
  have HN := Lib.hid hn
  clear hn
  go_enter Try.func56, Try.ntmps56
  go_wp2_with (fail)
  refine (refName nm w hs).mono ?_
  rw [HN.out]
  rintro e w1 ⟨rfl, rfl⟩
  go_wp2_with (fail)
  refine bodyPost_ret (v := .tuple #[.int .i64 0, .int .i64 16, .bool false]) (results_tmp3 Try.results56 _ _ _) rfl ?_
  exact ⟨rfl, rfl⟩

theorem puts_sum {L L' : Fs} {nm : ByteArray} (h : PutsTo L (nm, ⟨[], 0⟩) L') : sumB L' = sumB L ∧ L'.length = L.length + 1 := by
  obtain ⟨A, Q, rfl, rfl, _⟩ := h
  exact ⟨by simp [sumB], by simp; omega⟩
theorem puts_split {L L' : Fs} {e : ByteArray × Fl} (h : PutsTo L e L') (hn : ∀ x ∈ L, x.1 ≠ e.1) : ∃ A Q, L' = A ++ e :: Q ∧ (∀ x ∈ A, x.1 ≠ e.1) := by
  obtain ⟨A, Q, rfl, rfl, _⟩ := h
  exact ⟨A, Q, rfl, fun x hx => hn x (by simp [hx])⟩
def RetApp (w : World) (B G : Nat) (E : Nat → Prop) (r : Rk) (L : Fs) (v : Value) (nm : ByteArray) (l : List UInt8) (x : Ending) (w' : World) : Prop :=
  ∃ L' v' P', AppTo r L nm l L' ∧ x = (if r.armed = 1 then ret3 0 0 true else ret3 ((appR r (sumB L) l.length : Nat) : Int) (if appR r (sumB L) l.length < l.length then 4 else 0) false) ∧ RkAt w' B G E r.begin L' v' P' ∧ Ch (RF G v) w w' ∧ (∀ k, v'.ownBlock = some k → v.ownBlock = some k ∨ w.heap.size ≤ k)
set_option maxHeartbeats 16000000 in
set_option maxRecDepth 100000 in
theorem rkAppend {w : World} {B G : Nat} {E : Nat → Prop} {r : Rk} {L : Fs} {v : Value} {P : List Value} (h : RkAt w B G E r L v P) (ok : r.Ok) (nm : ByteArray) (hs : nm.size ≤ 140737488355328) (hn : nameD nm = true) (A : Option Addr) (m c : Nat) (l : List UInt8) (hl : DvX (RF G v) w (.slice A m c) l) (hm : m ≤ 140737488355328)
    (hL : L.length ≤ 100000) (hsum : sumB L ≤ 1099511627776) (hBw : B ≤ w.heap.size) (hE : ∀ k, E k → k < w.heap.size) :
    Calls Try.prog 56 #[pR G, .string nm, .slice A m c] w (RetApp w B G E r L v nm l) := by
  have H := Lib.hid h
  have HOK := Lib.hid ok
  have HL := Lib.hid hL
  have HSU := Lib.hid hsum
  have HBW := Lib.hid hBw
  have HE := Lib.hid hE
  have HM := Lib.hid hm
  have HLD := Lib.hid hl
  have HNM := Lib.hid hn
  have hml : l.length = m := by obtain ⟨A', m', c', e', hB, _⟩ := hl; injection e' with _ e2; rw [e2]; exact hB.len
  have HML := Lib.hid hml
  clear h ok hL hsum hBw hE hm hl hn hml
  go_enter Try.func56, Try.ntmps56
  go_wp2_with (fail)
  refine (refName nm w hs).mono ?_
  rw [HNM.out]
  rintro e w1 ⟨rfl, rfl⟩
  go_wp2_with (fail)
  refine (rkBegin H.out HOK.out.count HOK.out.armed).mono ?_
  rintro e w1 ⟨rfl, h1, hc1⟩
  have H1 := Lib.hid h1
  have HC1 := Lib.hid hc1
  clear h1 hc1
  obtain ⟨gone, hgone⟩ : ∃ g, g = (r.armed == 1) := ⟨_, rfl⟩
  have HGONE := Lib.hid hgone
  rw [← hgone]
  clear hgone
  go_wp2_with (fail)
  refine (rkFind H1.out nm (by have := HL.out; omega)).mono ?_
  rintro e w2 ⟨rfl, rfl⟩
  have HFS := Lib.hid (fs_split L nm)
  obtain ⟨I, hI⟩ : ∃ I, I = fidx L nm := ⟨_, rfl⟩
  rw [← hI] at HFS ⊢
  clear hI
  go_upto_if 20 with (fail)
  go_cut [] (fun wx => ∃ L1 v1 P1 A0 f Q0, (fget L nm ≠ none ∧ L1 = L ∨ fget L nm = none ∧ PutsTo L (nm, ⟨[], 0⟩) L1) ∧ L1 = A0 ++ (nm, f) :: Q0 ∧ (∀ e ∈ A0, e.1 ≠ nm) ∧ sumB L1 = sumB L ∧ L1.length ≤ L.length + 1 ∧ RkAt wx B G E r.begin L1 v1 P1 ∧ Ch (RF G v) w wx ∧ (∀ k, v1.ownBlock = some k → v.ownBlock = some k ∨ w.heap.size ≤ k))
  case first =>
    rcases HFS.out with ⟨hg, hno, hi⟩ | ⟨A0, f, Q0, hL1, hno, hg, hi⟩
    · have HG := Lib.hid hg
      have HNO := Lib.hid hno
      have d1 : decide (I < 0) = true := by rw [hi]; rfl
      clear hg hno hi
      rw [d1]
      go_wp2_with (fail)
      refine Calls.mono (show Calls Try.prog 79 #[pR G, .agg #[.string nm, .slice none 0 0, .int .i64 0]] w1 _ from rkPut H1.out (nm, ⟨[], 0⟩) none 0 0 ⟨none, 0, 0, rfl, Bs.none_ _, fun a ha => by cases ha⟩ (by have := HL.out; omega) (Nat.le_trans HBW.out HC1.out.size)) ?_
      rintro e w3 ⟨rfl, L1, v1, P1, hp, h3, hc3, hv3⟩
      have HX : Hid (∃ L1 v1 P1 A0 f Q0, (fget L nm ≠ none ∧ L1 = L ∨ fget L nm = none ∧ PutsTo L (nm, ⟨[], 0⟩) L1) ∧ L1 = A0 ++ (nm, f) :: Q0 ∧ (∀ e ∈ A0, e.1 ≠ nm) ∧ sumB L1 = sumB L ∧ L1.length ≤ L.length + 1 ∧ RkAt w3 B G E r.begin L1 v1 P1 ∧ Ch (RF G v) w w3 ∧ (∀ k, v1.ownBlock = some k → v.ownBlock = some k ∨ w.heap.size ≤ k)) := Lib.hid (by
        obtain ⟨A0, Q0, hl1, hno1⟩ := puts_split hp HNO.out
        refine ⟨L1, v1, P1, A0, ⟨[], 0⟩, Q0, .inr ⟨HG.out, hp⟩, hl1, hno1, (puts_sum hp).1, by rw [(puts_sum hp).2]; omega, h3, (HC1.out.wide (fun k hk => .inl hk)).trans hc3 (fun _ _ h => h), fun k hk => ?_⟩
        rcases hv3 k hk with h | h
        · exact .inl h
        · exact .inr (Nat.le_trans HC1.out.size h))
      clear hp h3 hc3 hv3
      go_wp2_with (fail)
      go_meet
      exact HX.out
    · have HX : Hid (∃ L1 v1 P1 A0 f Q0, (fget L nm ≠ none ∧ L1 = L ∨ fget L nm = none ∧ PutsTo L (nm, ⟨[], 0⟩) L1) ∧ L1 = A0 ++ (nm, f) :: Q0 ∧ (∀ e ∈ A0, e.1 ≠ nm) ∧ sumB L1 = sumB L ∧ L1.length ≤ L.length + 1 ∧ RkAt w1 B G E r.begin L1 v1 P1 ∧ Ch (RF G v) w w1 ∧ (∀ k, v1.ownBlock = some k → v.ownBlock = some k ∨ w.heap.size ≤ k)) := Lib.hid ⟨L, v, P, A0, f, Q0, .inl ⟨by rw [hg]; simp, rfl⟩, hL1, hno, rfl, by omega, H1.out, HC1.out.wide (fun k hk => .inl hk), fun k hk => .inl hk⟩
      have d1 : decide (I < 0) = false := by rw [hi, decide_eq_false_iff_not]; omega
      clear hg hno hL1 hi
      rw [d1]
      go_wp2_with (fail)
      go_meet
      exact HX.out
  case rest =>
    obtain ⟨L1, v1, P1, A0, f, Q0, hwhy, hL1, hno, hsu, hlen, h2, hc2, hv2⟩ := hcut
    have HWHY := Lib.hid hwhy
    have HL1 := Lib.hid hL1
    have HNO := Lib.hid hno
    have HSUM := Lib.hid hsu
    have HLEN := Lib.hid hlen
    have H2 := Lib.hid h2
    have HC2 := Lib.hid hc2
    have HV2 := Lib.hid hv2
    have HUS : Hid (∀ W, Below wc.heap.size wc W → Calls Try.prog 80 #[pR G] W fun e w' => e = .returned (.int .i64 (sumB L : Int)) ∧ W = w') := Lib.hid (fun W hW => by
      have := rkUsed (H2.out.below hW) (by have := HLEN.out; have := HL.out; omega) (by rw [HSUM.out]; exact HSU.out)
      rw [HSUM.out] at this
      exact this)
    have c1 : wc.cell? ⟨G, 1, none⟩ = some (.int .i64 r.size) := h2.cell 1
    obtain ⟨U, hU⟩ : ∃ U, U = sumB L := ⟨_, rfl⟩
    have HU := Lib.hid hU
    have HUB : Hid (U ≤ 1099511627776) := Lib.hid (by rw [hU]; exact HSU.out)
    rw [← hU] at HUS
    have hwx : IntKind.i64.wrap (r.size - (U : Int)) = r.size - (U : Int) := IntWalk.i64_in _ (by have := HUB.out; have := HOK.out.size; omega)
    clear hwhy hL1 hno hsu hlen h2 hc2 hv2 hU
    go_wp2_with (fail)
    go_quiet ((go_at_call 80; exact Calls.quiet_sym (HUS.out _ (drawN_below (Below.refl _ _) _))))
    have HBQ : Hid (Below wc.heap.size wc (wc.drewN nq)) := Lib.hid (drawN_below (Below.refl _ _) nq)
    have H3 := Lib.hid (H2.out.below HBQ.out)
    have HC3 := Lib.hid (HC2.out.trans (Ch.of_below (S := fun _ => False) HBQ.out) (fun _ _ h => h.elim))
    clear c1 hwx H2 HC2 HUS HBQ
    generalize wc.drewN nq = w3 at *
    obtain ⟨X, hX⟩ : ∃ X, X = r.size - (U : Int) := ⟨_, rfl⟩
    have HX := Lib.hid hX
    rw [← hX]
    clear hX
    go_upto_if 35 with (fail)
    go_cut [10] (fun x wx => x = .int .i64 (min X (m : Int)) ∧ wx = w3)
    case first =>
      by_cases hc : (decide ((m : Int) < X)) = true
      · have HMIN : Hid (min X (m : Int) = (m : Int)) := Lib.hid (by simp at hc; omega)
        rw [hc]
        clear hc
        go_wp2_with (fail)
        go_meet
        exact ⟨by first | (rw [HMIN.out]; done) | (rw [HMIN.out]; rfl), rfl⟩
      · have hc : (decide ((m : Int) < X)) = false := by simpa using hc
        have HMIN : Hid (min X (m : Int) = X) := Lib.hid (by simp at hc; omega)
        rw [hc]
        clear hc
        go_wp2_with (fail)
        go_meet
        exact ⟨by first | (rw [HMIN.out]; done) | (rw [HMIN.out]; rfl), rfl⟩
    case rest =>
      obtain ⟨rfl, hw⟩ := hcut
      obtain rfl := hw.symm
      obtain ⟨N0, hN0⟩ : ∃ N0, N0 = appM r U m := ⟨_, rfl⟩
      have HN0 := Lib.hid hN0
      obtain ⟨M1, hM1⟩ : ∃ M1, M1 = min X (m : Int) := ⟨_, rfl⟩
      have HM1 : Hid ((N0 : Int) = max 0 M1) := Lib.hid (by rw [hN0, hM1, HX.out]; unfold appM; omega)
      have HNM : Hid (N0 ≤ m) := Lib.hid (by rw [hN0]; unfold appM; omega)
      rw [← hM1]
      clear hN0 hM1
      go_upto_if 39 with (fail)
      go_cut [10] (fun x wx => x = .int .i64 ((N0 : Nat)) ∧ wx = w3)
      case first =>
        by_cases hc : (decide (M1 < 0)) = true
        · have HMIN : Hid ((N0 : Nat) = 0) := Lib.hid (by have := HM1.out; simp at hc; omega)
          rw [hc]
          clear hc
          go_wp2_with (fail)
          go_meet
          exact ⟨by first | (rw [HMIN.out]; done) | (rw [HMIN.out]; rfl), rfl⟩
        · have hc : (decide (M1 < 0)) = false := by simpa using hc
          have HMIN : Hid ((N0 : Nat) = M1) := Lib.hid (by have := HM1.out; simp at hc; omega)
          rw [hc]
          clear hc
          go_wp2_with (fail)
          go_meet
          exact ⟨by first | (rw [HMIN.out]; done) | (rw [HMIN.out]; rfl), rfl⟩
      case rest =>
        obtain ⟨rfl, hw⟩ := hcut
        obtain rfl := hw.symm
        obtain ⟨N1, hN1⟩ : ∃ N1, N1 = appR r U m := ⟨_, rfl⟩
        have HN1 := Lib.hid hN1
        have c4 : w3.cell? ⟨G, 4, none⟩ = some (.int .i64 r.keep) := H3.out.cell 4
        have HGT : Hid (gone = true → r.armed = 1) := Lib.hid (fun h => by have := HGONE.out; rw [h] at this; simpa using this.symm)
        have HGF : Hid (gone = false → ¬ r.armed = 1) := Lib.hid (fun h => by have := HGONE.out; rw [h] at this; simpa using this.symm)
        obtain ⟨M3, hM3⟩ : ∃ M3 : Int, M3 = if gone then min (N0 : Int) r.keep else (N0 : Int) := ⟨_, rfl⟩
        have HM3 : Hid ((N1 : Int) = max 0 M3) := Lib.hid (by
          rw [hN1, hM3]
          unfold appR
          rw [← HN0.out]
          cases hg : gone
          · rw [if_neg (HGF.out hg)]; simp
          · rw [if_pos (HGT.out hg)]; simp; omega)
        have HN1B : Hid (N1 ≤ 1099511627776) := Lib.hid (by
          have h1 := HOK.out.size
          have h2 : N1 ≤ appM r U m := by rw [hN1]; unfold appR; split <;> omega
          unfold appM at h2
          omega)
        have HNM1 : Hid (N1 ≤ m) := Lib.hid (by rw [hN1]; unfold appR; rw [← HN0.out]; have := HNM.out; split <;> omega)
        have HM3' := Lib.hid hM3
        clear hN1 hM3
        go_upto_region 11 with (fail)
        go_cut [48] (fun x wx => x = .bool (gone && decide (r.keep < (N0 : Int))) ∧ wx = w3)
        case first =>
          cases gone
          · go_wp2_with (fail)
            go_meet
            exact ⟨rfl, rfl⟩
          · go_wp2_with (fail)
            go_meet
            exact ⟨by simp, rfl⟩
        case rest =>
          obtain ⟨rfl, hw⟩ := hcut
          obtain rfl := hw.symm
          go_upto_if 48 with (fail)
          go_cut [10] (fun x wx => x = .int .i64 (M3) ∧ wx = w3)
          case first =>
            by_cases hc : (gone && decide (r.keep < (N0 : Int))) = true
            · have HMIN : Hid (M3 = r.keep) := Lib.hid (by rw [HM3'.out]; simp at hc; obtain ⟨h1, h2⟩ := hc; rw [h1]; simp; omega)
              rw [hc]
              clear hc
              go_wp2_with (fail)
              go_meet
              exact ⟨by first | (rw [HMIN.out]; done) | (rw [HMIN.out]; rfl), rfl⟩
            · have hc : (gone && decide (r.keep < (N0 : Int))) = false := by simpa using hc
              have HMIN : Hid (M3 = (N0 : Int)) := Lib.hid (by rw [HM3'.out]; cases gone <;> simp at hc ⊢; omega)
              rw [hc]
              clear hc
              go_wp2_with (fail)
              go_meet
              exact ⟨by first | (rw [HMIN.out]; done) | (rw [HMIN.out]; rfl), rfl⟩
          case rest =>
            obtain ⟨rfl, hw⟩ := hcut
            obtain rfl := hw.symm
            go_upto_if 54 with (fail)
            go_cut [10] (fun x wx => x = .int .i64 ((N1 : Nat)) ∧ wx = w3)
            case first =>
              by_cases hc : (decide (M3 < 0)) = true
              · have HMIN : Hid ((N1 : Nat) = 0) := Lib.hid (by have := HM3.out; simp at hc; omega)
                rw [hc]
                clear hc
                go_wp2_with (fail)
                go_meet
                exact ⟨by first | (rw [HMIN.out]; done) | (rw [HMIN.out]; rfl), rfl⟩
              · have hc : (decide (M3 < 0)) = false := by simpa using hc
                have HMIN : Hid ((N1 : Nat) = M3) := Lib.hid (by have := HM3.out; simp at hc; omega)
                rw [hc]
                clear hc
                go_wp2_with (fail)
                go_meet
                exact ⟨by first | (rw [HMIN.out]; done) | (rw [HMIN.out]; rfl), rfl⟩
            case rest =>
              obtain ⟨rfl, hw⟩ := hcut
              obtain rfl := hw.symm
              clear c4
              go_wp2_with (fail)
              refine (rkFind H3.out nm (by have := HLEN.out; have := HL.out; omega)).mono ?_
              have hfx : fidx L1 nm = (A0.length : Int) := by rw [HL1.out]; exact fidx_at HNO.out
              rw [hfx]
              clear hfx
              rintro e w4 ⟨rfl, hw4⟩
              obtain rfl := hw4
              obtain ⟨i, hi⟩ : ∃ i, i = A0.length := ⟨_, rfl⟩
              have HI := Lib.hid hi
              rw [← hi]
              clear hi
              obtain rfl := HL1.out
              obtain ⟨Av, cv, rfl, hcv1, hcv2⟩ := H3.out.form
              obtain ⟨g, rfl, _, hxx⟩ := H3.out.at_ (by simp only [List.length_append, List.length_cons]; omega)
              obtain ⟨Pa, d, Pb, rfl, hpa⟩ := p_split H3.out.len
              have HPA := Lib.hid hpa
              obtain ⟨n1, hn1⟩ : ∃ n1, n1 = (A0 ++ (nm, f) :: Q0).length := ⟨_, rfl⟩
              have HN1' := Lib.hid hn1
              have hei : (A0 ++ (nm, f) :: Q0)[i]? = some (nm, f) := by rw [HI.out, List.getElem?_append_right (Nat.le_refl _), Nat.sub_self]; rfl
              have hdi : (Pa ++ d :: Pb)[i]? = some d := by rw [HI.out, ← hpa, List.getElem?_append_right (Nat.le_refl _), Nat.sub_self]; rfl
              obtain ⟨d', hd', _, x1, _⟩ := hxx i _ hei
              rw [hdi] at hd'
              injection hd' with hd'
              subst hd'
              obtain ⟨A7, m7, c7, rfl, hB7, _⟩ := H3.out.dat i _ _ hei hdi
              have HB7 := Lib.hid hB7
              have HCX : Hid (∀ W, Below w3.heap.size w3 W → W.cell? ⟨G, 0, none⟩ = some (.slice (some ⟨g, 0, none⟩) n1 cv) ∧ W.cell? ⟨g, i * 3 + 1, none⟩ = some (.slice A7 m7 c7) ∧ W.frozen? ⟨g, i * 3 + 1, none⟩ = false) := Lib.hid (fun W hW => by
                have hK := H3.out.below hW
                refine ⟨by have := hK.cell 0; rw [← HN1'.out] at this; exact this, (hW.cell (p := ⟨g, i * 3 + 1, none⟩) (World.block_lt_of_cell? w3 _ x1)).trans x1, hK.own.frozenAt _⟩)
              have hin : (i : Int) < (n1 : Int) := by rw [hn1]; simp only [List.length_append, List.length_cons]; have := HI.out; omega
              rw [← hn1] at hcv1
              have hnc : (n1 : Int) ≤ (cv : Int) := by omega
              have HLB : Hid (Bs w3 A m c l ∧ ∀ a, A = some a → m = 0 ∨ ¬ RF G v a.block) := Lib.hid (by
                obtain ⟨A', m', c', e', hB, hx⟩ := HLD.out
                injection e' with e1 e2 e3
                subst e1 e2 e3
                have := DvX.ch ⟨A, m, c, rfl, hB, hx⟩ HC3.out (fun _ _ h => h)
                obtain ⟨A', m', c', e', hB', _⟩ := this
                injection e' with e1 e2 e3
                subst e1 e2 e3
                exact ⟨hB', hx⟩)
              have hmc : m ≤ c := HLB.out.1.2.1
              have sl1 : ∀ W, (Instr.sliceAt 27 (.slice A m c) none (some (.int .i64 ((N1 : Nat) : Int))) none).run Try.prog W = .ok (.slice A N1 c) W := fun W => slice_fr A m c N1 (by have := HNM1.out; omega) W
              have HB4 : Hid (Below w3.heap.size w3 (w3.alloc (.cells #[] 5)).drew) := Lib.hid ((Below.refl _ _).alloc (Nat.le_refl _) _).drew
              have HB4' : Hid (Below w3.heap.size w3 (w3.alloc (.cells #[] 5))) := Lib.hid ((Below.refl _ _).alloc (Nat.le_refl _) _)
              obtain ⟨c0, y1, _⟩ := HCX.out w3 (Below.refl _ _)
              obtain ⟨c0', y1', _⟩ := HCX.out _ HB4'.out
              have HLIT : Hid (Own 5 (w3.alloc (.cells #[] 5)).drew w3.heap.size (.slice (some ⟨w3.heap.size, 0, none⟩) 0 0) []) := Lib.hid ((Own.lit 5 w3 [] (Nat.le_refl _) (by simp [maxLen])).below ((Below.refl _ _).drew))
              have HML7 : Hid (m7 ≤ 1099511627776) := Lib.hid (by
                have h1 := hB7.len
                have h2 := HSU.out
                rw [← HSUM.out] at h2
                have h3 : f.bs.length ≤ sumB (A0 ++ (nm, f) :: Q0) := by simp [sumB]; omega
                have h4 : f.bs.length = m7 := h1
                omega)
              have tok1 : Hid True := Lib.hid trivial
              have tok2 : Hid True := Lib.hid trivial
              clear hxx hei hdi hB7 hpa x1 hn1
              go_upto_region 16 with (fail)
              obtain ⟨vv, hvv⟩ : ∃ vv : Value, vv = .slice (some ⟨g, 0, none⟩) n1 cv := ⟨_, rfl⟩
              go_cut [] (fun wx => ∃ P', RkAt wx B G E r.begin (A0 ++ (nm, ⟨f.bs ++ l.take N1, f.safe⟩) :: Q0) (.slice (some ⟨g, 0, none⟩) n1 cv) P' ∧ Ch (RF G v) w wx)
              case first =>
               go_region_law (first
                 | (have _t := tok1; refine step_app rfl (.tmp 63) (.tmp 71) rfl w3.heap.size _ [] rfl HLIT.out A7 m7 c7 f.bs rfl (HB7.out.below HB4.out) (by have := HML7.out; simp; omega) (by simp) ?_; intro v5 w5 ho5 hb5 hg5; have HO5 := Lib.hid ho5; have HB5 : Hid (Below w3.heap.size w3 w5) := Lib.hid (HB4.out.trans hb5); obtain ⟨s0, s1, _⟩ := HCX.out w5 HB5.out; clear tok1 _t ho5 hb5 hg5)
                 | (have _t := tok2; refine step_app rfl (.tmp 72) (.tmp 75) rfl w3.heap.size v5 ([] ++ f.bs) rfl HO5.out A N1 c (l.take N1) rfl ((HLB.out.1.below HB5.out).front HNM1.out) (by have := HML7.out; have := HB7.out.len; have := HN1B.out; have := HNM1.out; simp; omega) HB5.out.size ?_; intro v6 w6 ho6 hb6 hg6; obtain ⟨A6, c6, rfl⟩ := own_form ho6; have HO6 := Lib.hid ho6; have HB6 : Hid (Below w3.heap.size w3 w6) := Lib.hid (HB5.out.trans hb6); obtain ⟨t0, t1, u1⟩ := HCX.out w6 HB6.out; clear tok2 _t ho6 hb6 hg6))
               all_goals
                have HPL := Lib.hid hvv
                have HN6 : Hid (f.bs.length + min N1 l.length = (f.bs ++ l.take N1).length) := Lib.hid (by simp)
                have HRK : Hid (RkAt w6 B G E r.begin (A0 ++ (nm, f) :: Q0) (.slice (some ⟨g, 0, none⟩) n1 cv) (Pa ++ .slice A7 m7 c7 :: Pb)) := Lib.hid (by have := H3.out.below HB6.out; rw [← HN1'.out] at this; exact this)
                have HDN : Hid (DvX (fun k => RF G (.slice (some ⟨g, 0, none⟩) n1 cv) k ∨ E k) w6 (.slice A6 (f.bs.length + min N1 l.length) c6) (f.bs ++ l.take N1)) := Lib.hid (by
                  obtain ⟨A9, c9, e9, hB9, hx9⟩ := HO6.out.bs
                  simp only [List.nil_append, List.length_append, List.length_take] at e9
                  injection e9 with e1 e2 e3
                  subst e1 e3
                  refine ⟨A6, _, c6, rfl, by simpa using hB9, fun a ha => .inr ?_⟩
                  have h1 := hx9 a ha
                  rintro (h | h)
                  · have h2 := (H3.out.foot_lt (k := a.block) (by rw [← HN1'.out]; exact h)).2; omega
                  · have h2 := HE.out _ h; have h3 := HC3.out.size; omega)
                have HFN : Hid (∃ P', RkAt (w6.setCell ⟨g, i * 3 + 1, none⟩ (.slice A6 (f.bs.length + min N1 l.length) c6)) B G E r.begin (A0 ++ (nm, ⟨f.bs ++ l.take N1, f.safe⟩) :: Q0) (.slice (some ⟨g, 0, none⟩) n1 cv) P' ∧ Ch (RF G v) w (w6.setCell ⟨g, i * 3 + 1, none⟩ (.slice A6 (f.bs.length + min N1 l.length) c6))) := Lib.hid (by
                  have h1 := HRK.out.setD HPA.out (.slice A6 (f.bs.length + min N1 l.length) c6) (f.bs ++ l.take N1) HDN.out
                  rw [← HI.out] at h1
                  refine ⟨_, h1, ?_⟩
                  have h2 : Ch (fun k => RF G v k ∨ w.heap.size ≤ k) w w6 := (HC3.out.wide (fun k hk => .inl hk)).trans (Ch.of_below (S := fun _ => False) HB6.out) (fun _ _ h => h.elim)
                  exact (h2.set (a := ⟨g, i * 3 + 1, none⟩) ((HV2.out g (by rfl)).imp .inr id) _).trim)
                clear c0 y1 c0' y1' s0 s1 t0 t1 u1 sl1
                go_wp2_with (fail)
                go_meet
                exact HFN.out
              case rest =>
               clear c0 y1 c0' y1' sl1
               obtain ⟨P', hk, hcc⟩ := hcut
               have HAPP : Hid (appR r (sumB L) l.length = N1) := Lib.hid (by rw [HN1.out, HU.out, HML.out])
               have HOUT : Hid (∃ L' v' P', AppTo r L nm l L' ∧ RkAt wc B G E r.begin L' v' P' ∧ Ch (RF G v) w wc ∧ (∀ k, v'.ownBlock = some k → v.ownBlock = some k ∨ w.heap.size ≤ k)) := Lib.hid ⟨_, _, P', ⟨_, A0, f, Q0, HWHY.out, rfl, HNO.out, by rw [HAPP.out]⟩, hk, hcc, HV2.out⟩
               clear hk hcc hvv
               cases gone
               · have HF : Hid (¬ r.armed = 1) := Lib.hid (HGF.out rfl)
                 by_cases hnm : N1 < m
                 · have d1 : decide (((N1 : Nat) : Int) < (m : Int)) = true := by rw [decide_eq_true_iff]; omega
                   have d2 : decide (N1 < m) = true := decide_eq_true hnm
                   have HE4 : Hid ((if r.armed = 1 then ret3 0 0 true else ret3 ((appR r (sumB L) l.length : Nat) : Int) (if appR r (sumB L) l.length < l.length then 4 else 0) false) = ret3 ((N1 : Nat) : Int) 4 false) := Lib.hid (by rw [if_neg HF.out, HAPP.out, HML.out, if_pos hnm])
                   clear hnm
                   go_wp2_with (fail)
                   refine bodyPost_ret (v := .tuple #[.int .i64 ((N1 : Nat) : Int), .int .i64 4, .bool false]) (results_tmp3 Try.results56 _ _ _) rfl ?_
                   obtain ⟨L', v', P', q1, q2, q3, q4⟩ := HOUT.out
                   exact ⟨L', v', P', q1, HE4.out.symm, q2, q3, q4⟩
                 · have d1 : decide (((N1 : Nat) : Int) < (m : Int)) = false := by rw [decide_eq_false_iff_not]; omega
                   have d2 : decide (N1 < m) = false := decide_eq_false hnm
                   have HE4 : Hid ((if r.armed = 1 then ret3 0 0 true else ret3 ((appR r (sumB L) l.length : Nat) : Int) (if appR r (sumB L) l.length < l.length then 4 else 0) false) = ret3 ((N1 : Nat) : Int) 0 false) := Lib.hid (by rw [if_neg HF.out, HAPP.out, HML.out, if_neg hnm])
                   clear hnm
                   go_wp2_with (fail)
                   refine bodyPost_ret (v := .tuple #[.int .i64 ((N1 : Nat) : Int), .int .i64 0, .bool false]) (results_tmp3 Try.results56 _ _ _) rfl ?_
                   obtain ⟨L', v', P', q1, q2, q3, q4⟩ := HOUT.out
                   exact ⟨L', v', P', q1, HE4.out.symm, q2, q3, q4⟩
               · have HE4 : Hid ((if r.armed = 1 then ret3 0 0 true else ret3 ((appR r (sumB L) l.length : Nat) : Int) (if appR r (sumB L) l.length < l.length then 4 else 0) false) = ret3 0 0 true) := Lib.hid (if_pos (HGT.out rfl))
                 go_wp2_with (fail)
                 refine bodyPost_ret (v := .tuple #[.int .i64 0, .int .i64 0, .bool true]) (results_tmp3 Try.results56 _ _ _) rfl ?_
                 obtain ⟨L', v', P', q1, q2, q3, q4⟩ := HOUT.out
                 exact ⟨L', v', P', q1, HE4.out.symm, q2, q3, q4⟩
end Go.Proofs.Ythblbmbefhlbjaa
/- The document's disk: bytes cut off, made safe, a file removed, walked. -/
namespace Go.Proofs.Ythblbmbefhlbjaa
open Go.RowKit Go.MapKept

section
variable {w : World} {B G : Nat} {E : Nat → Prop} {r : Rk} {A0 Q0 : Fs} {nm : ByteArray} {f : Fl} {v : Value} {P : List Value}
theorem RkAt.mid (h : RkAt w B G E r (A0 ++ (nm, f) :: Q0) v P) : ∃ g n1 cv Pa A7 m7 c7 Pb, v = .slice (some ⟨g, 0, none⟩) n1 cv ∧ n1 = (A0 ++ (nm, f) :: Q0).length ∧ n1 ≤ cv ∧ cv ≤ 9223372036854775807 ∧ P = Pa ++ .slice A7 m7 c7 :: Pb ∧ Pa.length = A0.length ∧ Bs w A7 m7 c7 f.bs ∧ DvX (fun k => RF G v k ∨ E k) w (.slice A7 m7 c7) f.bs ∧ w.cell? ⟨G, 0, none⟩ = some v ∧ w.cell? ⟨g, A0.length * 3 + 1, none⟩ = some (.slice A7 m7 c7) ∧ w.cell? ⟨g, A0.length * 3 + 2, none⟩ = some (.int .i64 (f.safe : Int)) ∧ (∀ j, w.frozen? ⟨g, j, none⟩ = false) := by
  obtain ⟨Av, cv, rfl, hcv1, hcv2⟩ := h.form
  obtain ⟨g, rfl, _, hxx⟩ := h.at_ (by simp only [List.length_append, List.length_cons]; omega)
  obtain ⟨Pa, d, Pb, rfl, hpa⟩ := p_split h.len
  have hei : (A0 ++ (nm, f) :: Q0)[A0.length]? = some (nm, f) := by rw [List.getElem?_append_right (Nat.le_refl _), Nat.sub_self]; rfl
  have hdi : (Pa ++ d :: Pb)[A0.length]? = some d := by rw [← hpa, List.getElem?_append_right (Nat.le_refl _), Nat.sub_self]; rfl
  obtain ⟨d', hd', _, x1, x2⟩ := hxx _ _ hei
  rw [hdi] at hd'
  injection hd' with hd'
  subst hd'
  obtain ⟨A7, m7, c7, rfl, hB7, hx7⟩ := h.dat _ _ _ hei hdi
  exact ⟨g, _, cv, Pa, A7, m7, c7, Pb, rfl, rfl, hcv1, hcv2, rfl, hpa, hB7, ⟨A7, m7, c7, rfl, hB7, hx7⟩, h.cell 0, x1, x2, fun j => h.own.frozenAt j⟩
end
abbrev ret2 (e : Int) (g : Bool) : Ending := .returned (.tuple #[.int .i64 e, .bool g])
theorem results_two {fn : Func} {t u : Tmp} (h : fn.results = #[.tmp t, .tmp u]) (tmps : Array Value) (P : Program) (w : World) :
    (results fn tmps).run P w = .ok (.tuple #[tmps.getD t undef, tmps.getD u undef]) w := by
  simp [results, h]
def rOdd (r : Rk) : Bool := r.keep.tmod 2 != 0
/-- is a change made, although the power may go? -/
def rDo (r : Rk) : Bool := !(r.armed == 1) || rOdd r
def cutL (r : Rk) (A0 : Fs) (nm : ByteArray) (f : Fl) (Q0 : Fs) (n : Nat) : Fs := if rDo r = true then A0 ++ (nm, ⟨f.bs.take n, min f.safe n⟩) :: Q0 else A0 ++ (nm, f) :: Q0
/-- what an answer of an error, and whether the power went, comes to -/
def Ret2 (w : World) (B G : Nat) (E : Nat → Prop) (r' : Rk) (L' : Fs) (v : Value) (e : Int) (g : Bool) (x : Ending) (w' : World) : Prop :=
  ∃ v' P', x = ret2 e g ∧ RkAt w' B G E r' L' v' P' ∧ Ch (RF G v) w w' ∧ (∀ k, v'.ownBlock = some k → v.ownBlock = some k ∨ w.heap.size ≤ k)
theorem Ret2.same {w w' : World} {B G : Nat} {E : Nat → Prop} {r' : Rk} {L' : Fs} {v : Value} {P : List Value} (e : Int) (g : Bool) (h : RkAt w' B G E r' L' v P) (c : Ch (RF G v) w w') : Ret2 w B G E r' L' v e g (ret2 e g) w' := ⟨v, P, rfl, h, c, fun _ hk => .inl hk⟩

section
variable {w : World} {B G : Nat} {E : Nat → Prop} {r : Rk} {L : Fs} {v : Value} {P : List Value}
set_option maxHeartbeats 8000000 in
set_option maxRecDepth 100000 in
theorem rkTrunc_none (h : RkAt w B G E r L v P) (nm : ByteArray) (hL : L.length ≤ 100000) (n : Int) (hg : fget L nm = none) :
    Calls Try.prog 74 #[pR G, .string nm, .int .i64 n] w (Ret2 w B G E r L v 6 false) := by
  have H := Lib.hid h
  have HL := Lib.hid hL
  have HI : Hid (fidx L nm = -1) := Lib.hid (by rcases fs_split L nm with ⟨_, _, hi⟩ | ⟨_, _, _, _, _, hg', _⟩; exact hi; rw [hg] at hg'; cases hg')
  clear h hL hg
  go_enter Try.func74, Try.ntmps74
  go_wp2_with (fail)
  refine (rkFind H.out nm (by have := HL.out; omega)).mono ?_
  rw [HI.out]
  rintro e w1 ⟨rfl, rfl⟩
  go_wp2_with (fail)
  refine bodyPost_ret (v := .tuple #[.int .i64 6, .bool false]) (results_two Try.results74 _ _ _) rfl ?_
  exact Ret2.same 6 false H.out (Ch.refl _ _)
set_option maxHeartbeats 8000000 in
set_option maxRecDepth 100000 in
theorem rkTrunc_bad {A0 Q0 : Fs} {nm : ByteArray} {f : Fl} (h : RkAt w B G E r (A0 ++ (nm, f) :: Q0) v P) (hno : ∀ e ∈ A0, e.1 ≠ nm) (hL : (A0 ++ (nm, f) :: Q0).length ≤ 100000) (n : Int) (hn : n < 0 ∨ (f.bs.length : Int) < n) :
    Calls Try.prog 74 #[pR G, .string nm, .int .i64 n] w (Ret2 w B G E r (A0 ++ (nm, f) :: Q0) v 3 false) := by
  have H := Lib.hid h
  have HL := Lib.hid hL
  have HI : Hid (fidx (A0 ++ (nm, f) :: Q0) nm = (A0.length : Int)) := Lib.hid (fidx_at hno)
  obtain ⟨g, n1, cv, Pa, A7, m7, c7, Pb, rfl, hn1, hnc, hcm, rfl, hpa, hB7, hdv, c0, x1, x2, fz⟩ := h.mid
  have hin : (A0.length : Int) < (n1 : Int) := by rw [hn1]; simp only [List.length_append, List.length_cons]; omega
  have hnc' : (n1 : Int) ≤ (cv : Int) := by omega
  have hm7 : f.bs.length = m7 := hB7.len
  rw [hm7] at hn
  obtain ⟨i, hi⟩ : ∃ i, i = A0.length := ⟨_, rfl⟩
  rw [← hi] at HI x1 x2 hin
  have hge : ¬ ((i : Int) < 0) := by omega
  have HNN := Lib.hid hn
  clear h hL hn hdv hB7 hpa hn1 fz hm7 hno x2 hi
  go_enter Try.func74, Try.ntmps74
  go_wp2_with (fail)
  refine (rkFind H.out nm (by have := HL.out; omega)).mono ?_
  rw [HI.out]
  rintro e w1 ⟨rfl, rfl⟩
  by_cases h0 : n < 0
  · have d0 : decide (n < 0) = true := decide_eq_true h0
    clear h0
    go_wp2_with (fail)
    refine bodyPost_ret (v := .tuple #[.int .i64 3, .bool false]) (results_two Try.results74 _ _ _) rfl ?_
    exact Ret2.same 3 false H.out (Ch.refl _ _)
  · have d0 : decide (n < 0) = false := decide_eq_false h0
    have d1 : decide ((m7 : Int) < n) = true := decide_eq_true (HNN.out.resolve_left h0)
    clear h0
    go_wp2_with (fail)
    refine bodyPost_ret (v := .tuple #[.int .i64 3, .bool false]) (results_two Try.results74 _ _ _) rfl ?_
    exact Ret2.same 3 false H.out (Ch.refl _ _)
set_option maxHeartbeats 16000000 in
set_option maxRecDepth 100000 in
theorem rkTrunc_do {A0 Q0 : Fs} {nm : ByteArray} {f : Fl} (h : RkAt w B G E r (A0 ++ (nm, f) :: Q0) v P) (ok : r.Ok) (hno : ∀ e ∈ A0, e.1 ≠ nm) (hL : (A0 ++ (nm, f) :: Q0).length ≤ 100000) (hE : ∀ k, E k → k < w.heap.size) (n : Nat) (hn : n ≤ f.bs.length) :
    Calls Try.prog 74 #[pR G, .string nm, .int .i64 (n : Int)] w (Ret2 w B G E r.begin (cutL r A0 nm f Q0 n) v 0 (r.armed == 1)) := by
  have H := Lib.hid h
  have HL := Lib.hid hL
  have HOK := Lib.hid ok
  have HE := Lib.hid hE
  have HI : Hid (fidx (A0 ++ (nm, f) :: Q0) nm = (A0.length : Int)) := Lib.hid (fidx_at hno)
  obtain ⟨g, n1, cv, Pa, A7, m7, c7, Pb, rfl, hn1, hnc, hcm, rfl, hpa, hB7, hdv, c0, x1, x2, fz⟩ := h.mid
  have HN1 := Lib.hid hn1
  have HPA := Lib.hid hpa
  have HB7 := Lib.hid hB7
  have HDV := Lib.hid hdv
  have hin : (A0.length : Int) < (n1 : Int) := by rw [hn1]; simp only [List.length_append, List.length_cons]; omega
  have hnc' : (n1 : Int) ≤ (cv : Int) := by omega
  have hm7 : f.bs.length = m7 := hB7.len
  have hc7 : m7 ≤ c7 := hB7.2.1
  rw [hm7] at hn
  have HM7 := Lib.hid hm7
  have HNM := Lib.hid hn
  obtain ⟨i, hi⟩ : ∃ i, i = A0.length := ⟨_, rfl⟩
  have HII := Lib.hid hi
  rw [← hi] at HI x1 x2 hin
  have hge : ¬ ((i : Int) < 0) := by omega
  have d0 : decide ((n : Int) < 0) = false := by rw [decide_eq_false_iff_not]; omega
  have d1 : decide ((m7 : Int) < (n : Int)) = false := by rw [decide_eq_false_iff_not]; omega
  have d1' : decide (m7 < n) = false := by rw [decide_eq_false_iff_not]; omega
  have d2 : ¬ (m7 < n) := by omega
  have HC7 := Lib.hid hc7
  clear h hL hdv hB7 hpa hn1 fz hm7 hno hi hE ok
  go_enter Try.func74, Try.ntmps74
  go_wp2_with (fail)
  refine (rkFind H.out nm (by have := HL.out; omega)).mono ?_
  rw [HI.out]
  rintro e w1 ⟨rfl, rfl⟩
  go_wp2_with (fail)
  refine (rkBegin H.out HOK.out.count HOK.out.armed).mono ?_
  rintro e w1 ⟨rfl, h1, hc1⟩
  have H1 := Lib.hid h1
  have HC1 := Lib.hid hc1
  clear h1 hc1 c0 x1 x2 d0 d1 d1' d2 hge hn hc7
  obtain ⟨gone, hgone⟩ : ∃ g, g = (r.armed == 1) := ⟨_, rfl⟩
  have HGONE := Lib.hid hgone
  have HRD : Hid (rDo r = (!gone || rOdd r)) := Lib.hid (by unfold rDo; rw [hgone])
  rw [← hgone]
  clear hgone
  have c4 : w1.cell? ⟨G, 4, none⟩ = some (.int .i64 r.keep) := H1.out.cell 4
  go_upto_region 7 with (fail)
  go_cut [41] (fun x wx => x = .bool (!gone || rOdd r) ∧ wx = w1)
  case first =>
    cases gone
    · go_wp2_with (fail)
      go_meet
      exact ⟨rfl, rfl⟩
    · go_wp2_with (fail)
      go_meet
      exact ⟨by first | rfl | (unfold rOdd; rfl) | (unfold rOdd; simp), rfl⟩
  case rest =>
    obtain ⟨rfl, hw⟩ := hcut
    obtain rfl := hw.symm
    rw [← HRD.out]
    clear c4
    obtain ⟨dd, hdd⟩ : ∃ dd, dd = rDo r := ⟨_, rfl⟩
    rw [← hdd] at HRD ⊢
    have HDD := Lib.hid hdd
    clear hdd
    cases dd
    · have HCL : Hid (cutL r A0 nm f Q0 n = A0 ++ (nm, f) :: Q0) := Lib.hid (by unfold cutL; rw [← HDD.out]; rfl)
      go_wp2_with (fail)
      refine bodyPost_ret (v := .tuple #[.int .i64 0, .bool gone]) (results_two Try.results74 _ _ _) rfl ?_
      rw [HCL.out, ← HGONE.out]
      exact Ret2.same 0 gone H1.out (HC1.out.wide (fun k hk => .inl hk))
    · have HCL : Hid (cutL r A0 nm f Q0 n = A0 ++ (nm, ⟨f.bs.take n, min f.safe n⟩) :: Q0) := Lib.hid (by unfold cutL; rw [← HDD.out]; rfl)
      have HCX : Hid (w1.cell? ⟨G, 0, none⟩ = some (.slice (some ⟨g, 0, none⟩) n1 cv) ∧ w1.cell? ⟨g, i * 3 + 1, none⟩ = some (.slice A7 m7 c7) ∧ w1.cell? ⟨g, i * 3 + 2, none⟩ = some (.int .i64 (f.safe : Int)) ∧ (∀ j, w1.frozen? ⟨g, j, none⟩ = false)) := Lib.hid (by
        have ho := H1.out.own
        refine ⟨H1.out.cell 0, ?_, ?_, fun j => by rw [← HN1.out] at ho; exact ho.frozenAt j⟩
        · rw [rfsC_mid HPA.out] at ho
          rw [HN1.out] at ho
          rw [ho.cellAt (i * 3 + 1) (by simp only [List.length_append, List.length_cons]; have := HII.out; omega), List.getElem?_append_right (by rw [rfsC_len HPA.out]; have := HII.out; omega), rfsC_len HPA.out, HII.out, Nat.add_sub_cancel_left]
          rfl
        · rw [rfsC_mid HPA.out] at ho
          rw [HN1.out] at ho
          rw [ho.cellAt (i * 3 + 2) (by simp only [List.length_append, List.length_cons]; have := HII.out; omega), List.getElem?_append_right (by rw [rfsC_len HPA.out]; have := HII.out; omega), rfsC_len HPA.out, HII.out, Nat.add_sub_cancel_left]
          rfl)
      obtain ⟨c0, x1, x2, fz⟩ := HCX.out
      have f1 := fz (i * 3 + 1)
      have sl1 : ∀ W, (Instr.sliceAt 27 (.slice A7 m7 c7) none (some (.int .i64 ((n : Nat) : Int))) none).run Try.prog W = .ok (.slice A7 n c7) W := fun W => slice_fr A7 m7 c7 n (by have := HC7.out; have := HNM.out; omega) W
      have HK2 : Hid (RkAt (w1.setCell ⟨g, i * 3 + 1, none⟩ (.slice A7 n c7)) B G E r.begin (A0 ++ (nm, ⟨f.bs.take n, f.safe⟩) :: Q0) (.slice (some ⟨g, 0, none⟩) n1 cv) (Pa ++ .slice A7 n c7 :: Pb)) := Lib.hid (by
        obtain ⟨A8, m8, c8, e8, hB8, hx8⟩ := H1.out.dat A0.length (nm, f) (.slice A7 m7 c7) (by rw [List.getElem?_append_right (Nat.le_refl _), Nat.sub_self]; rfl) (by rw [List.getElem?_append_right (by have := HPA.out; omega), HPA.out, Nat.sub_self]; rfl)
        cases e8
        have := H1.out.setD HPA.out (.slice A7 n c7) (f.bs.take n) ⟨A7, n, c7, rfl, hB8.front HNM.out, fun a ha => (hx8 a ha).imp (fun h0 => by have := HNM.out; omega) id⟩
        rw [← HII.out] at this
        exact this)
      have HY2 : Hid ((w1.setCell ⟨g, i * 3 + 1, none⟩ (.slice A7 n c7)).drew.cell? ⟨g, i * 3 + 2, none⟩ = some (.int .i64 (f.safe : Int)) ∧ (w1.setCell ⟨g, i * 3 + 1, none⟩ (.slice A7 n c7)).drew.frozen? ⟨g, i * 3 + 2, none⟩ = false) := Lib.hid (by
        have ho := (HK2.out.below (Below.drew (Below.refl _ _))).own
        have hln : (A0 ++ (nm, (⟨f.bs.take n, f.safe⟩ : Fl)) :: Q0).length = n1 := by rw [HN1.out]; simp
        refine ⟨?_, by rw [hln] at ho; exact ho.frozenAt _⟩
        rw [rfsC_mid HPA.out] at ho
        rw [← hln] at ho
        rw [ho.cellAt (i * 3 + 2) (by simp only [List.length_append, List.length_cons]; have := HII.out; omega), List.getElem?_append_right (by rw [rfsC_len HPA.out]; have := HII.out; omega), rfsC_len HPA.out, HII.out, Nat.add_sub_cancel_left]
        rfl)
      have HC2 : Hid (Ch (RF G (.slice (some ⟨g, 0, none⟩) n1 cv)) w (w1.setCell ⟨g, i * 3 + 1, none⟩ (.slice A7 n c7)).drew) := Lib.hid (((HC1.out.wide (fun k hk => .inl hk)).trans ((Ch.refl _ _).set1 _ _) (fun k _ hk => .inr (by rw [hk]; rfl))).trans (Ch.of_below (S := fun _ => False) (Below.drew (Below.refl _ _))) (fun _ _ h => h.elim))
      have y2 := HY2.out.1
      have yf := HY2.out.2
      clear x2 fz
      go_wp2_with (fail)
      go_region
      all_goals
        clear c0 x1 f1 sl1
        have c0 := (HK2.out.below (Below.drew (Below.refl _ _))).cell 0
        by_cases hs : (n : Int) < (f.safe : Int)
        · have d3 : decide ((n : Int) < (f.safe : Int)) = true := decide_eq_true hs
          have HS : Hid (min f.safe n = n) := Lib.hid (by omega)
          have d4 : n < f.safe := by omega
          have d5 : decide (n < f.safe) = true := decide_eq_true d4
          clear hs
          go_wp2_with (fail)
          refine bodyPost_ret (v := .tuple #[.int .i64 0, .bool gone]) (results_two Try.results74 _ _ _) rfl ?_
          rw [HCL.out, HS.out, ← HGONE.out]
          have h5 := HK2.out.setS HPA.out n
          rw [← HII.out] at h5
          have hc5 : Ch (RF G (.slice (some ⟨g, 0, none⟩) n1 cv)) w ((w1.setCell ⟨g, i * 3 + 1, none⟩ (.slice A7 n c7)).setCell ⟨g, i * 3 + 2, none⟩ (.int .i64 (n : Int))) := ((HC1.out.wide (fun k hk => .inl hk)).trans ((Ch.refl _ w1).set1 (i * 3 + 1) (.slice A7 n c7)) (fun k _ hk => .inr (by rw [hk]; rfl))).trans ((Ch.refl _ _).set1 (i * 3 + 2) (.int .i64 (n : Int))) (fun k _ hk => .inr (by rw [hk]; rfl))
          exact Ret2.same 0 gone (h5.below (Below.drew (Below.refl _ _))) (hc5.trans (Ch.of_below (S := fun _ => False) (Below.drew (Below.refl _ _))) (fun _ _ h => h.elim))
        · have d3 : decide ((n : Int) < (f.safe : Int)) = false := decide_eq_false hs
          have HS : Hid (min f.safe n = f.safe) := Lib.hid (by omega)
          have d4 : ¬ n < f.safe := by omega
          have d5 : decide (n < f.safe) = false := decide_eq_false d4
          clear hs
          go_wp2_with (fail)
          refine bodyPost_ret (v := .tuple #[.int .i64 0, .bool gone]) (results_two Try.results74 _ _ _) rfl ?_
          rw [HCL.out, HS.out, ← HGONE.out]
          exact Ret2.same 0 gone (HK2.out.below (Below.drew (Below.refl _ _))) HC2.out
end
end Go.Proofs.Ythblbmbefhlbjaa
/- The document's disk: a file removed, a file made safe, walked. -/
namespace Go.Proofs.Ythblbmbefhlbjaa
open Go.RowKit Go.MapKept

def synL (r : Rk) (A0 : Fs) (nm : ByteArray) (f : Fl) (Q0 : Fs) : Fs := if (r.fail == 1) = false ∧ rDo r = true then A0 ++ (nm, ⟨f.bs, f.bs.length⟩) :: Q0 else A0 ++ (nm, f) :: Q0
def synE (r : Rk) : Int := if (r.fail == 1) = true ∧ (r.armed == 1) = false then 5 else 0
def Rk.fall (r : Rk) : Rk := { r with fail := if 0 < r.fail then r.fail - 1 else r.fail }
section
variable {w : World} {B G : Nat} {E : Nat → Prop} {r : Rk} {L : Fs} {v : Value} {P : List Value}
set_option maxHeartbeats 8000000 in
set_option maxRecDepth 100000 in
theorem rkSync_none (h : RkAt w B G E r L v P) (nm : ByteArray) (hL : L.length ≤ 100000) (hg : fget L nm = none) :
    Calls Try.prog 58 #[pR G, .string nm] w (Ret2 w B G E r L v 6 false) := by
  have H := Lib.hid h
  have HL := Lib.hid hL
  have HI : Hid (fidx L nm = -1) := Lib.hid (by rcases fs_split L nm with ⟨_, _, hi⟩ | ⟨_, _, _, _, _, hg', _⟩; exact hi; rw [hg] at hg'; cases hg')
  clear h hL hg
  go_enter Try.func58, Try.ntmps58
  go_wp2_with (fail)
  refine (rkFind H.out nm (by have := HL.out; omega)).mono ?_
  rw [HI.out]
  rintro e w1 ⟨rfl, rfl⟩
  go_wp2_with (fail)
  refine bodyPost_ret (v := .tuple #[.int .i64 6, .bool false]) (results_two Try.results58 _ _ _) rfl ?_
  exact Ret2.same 6 false H.out (Ch.refl _ _)
set_option maxHeartbeats 16000000 in
set_option maxRecDepth 100000 in
theorem rkSync_do {A0 Q0 : Fs} {nm : ByteArray} {f : Fl} (h : RkAt w B G E r (A0 ++ (nm, f) :: Q0) v P) (ok : r.Ok) (hno : ∀ e ∈ A0, e.1 ≠ nm) (hL : (A0 ++ (nm, f) :: Q0).length ≤ 100000) :
    Calls Try.prog 58 #[pR G, .string nm] w (Ret2 w B G E r.begin.fall (synL r A0 nm f Q0) v (synE r) (r.armed == 1)) := by
  have H := Lib.hid h
  have HL := Lib.hid hL
  have HOK := Lib.hid ok
  have HI : Hid (fidx (A0 ++ (nm, f) :: Q0) nm = (A0.length : Int)) := Lib.hid (fidx_at hno)
  obtain ⟨g, n1, cv, Pa, A7, m7, c7, Pb, rfl, hn1, hnc, hcm, rfl, hpa, hB7, hdv, c0, x1, x2, fz⟩ := h.mid
  have HN1 := Lib.hid hn1
  have HPA := Lib.hid hpa
  have hin : (A0.length : Int) < (n1 : Int) := by rw [hn1]; simp only [List.length_append, List.length_cons]; omega
  have hnc' : (n1 : Int) ≤ (cv : Int) := by omega
  have hm7 : f.bs.length = m7 := hB7.len
  have HM7 := Lib.hid hm7
  obtain ⟨i, hi⟩ : ∃ i, i = A0.length := ⟨_, rfl⟩
  have HII := Lib.hid hi
  rw [← hi] at HI hin
  have hge : ¬ ((i : Int) < 0) := by omega
  have d0 : decide ((i : Int) < 0) = false := by rw [decide_eq_false_iff_not]; omega
  clear h hL hdv hB7 hpa hn1 fz hm7 hno hi ok c0 x1 x2
  go_enter Try.func58, Try.ntmps58
  go_wp2_with (fail)
  refine (rkFind H.out nm (by have := HL.out; omega)).mono ?_
  rw [HI.out]
  rintro e w1 ⟨rfl, rfl⟩
  go_wp2_with (fail)
  refine (rkBegin H.out HOK.out.count HOK.out.armed).mono ?_
  rintro e w1 ⟨rfl, h1, hc1⟩
  have H1 := Lib.hid h1
  have HC1 := Lib.hid hc1
  clear h1 hc1 d0
  obtain ⟨gone, hgone⟩ : ∃ g, g = (r.armed == 1) := ⟨_, rfl⟩
  have HGONE := Lib.hid hgone
  have HRD : Hid (rDo r = (!gone || rOdd r)) := Lib.hid (by unfold rDo; rw [hgone])
  rw [← hgone]
  clear hgone
  have c5 : w1.cell? ⟨G, 5, none⟩ = some (.int .i64 r.fail) := H1.out.cell 5
  have f5 := H1.out.frozen 5
  go_upto_if 25 with (fail)
  go_cut [] (fun wx => RkAt wx B G E r.begin.fall (A0 ++ (nm, f) :: Q0) (.slice (some ⟨g, 0, none⟩) n1 cv) (Pa ++ .slice A7 m7 c7 :: Pb) ∧ Ch (At1 G) w wx)
  case first =>
    have hw5 : IntKind.i64.wrap (r.fail - 1) = r.fail - 1 := IntWalk.i64_in _ (by have := HOK.out.fail; omega)
    by_cases h0 : 0 < r.fail
    · have d0 : decide (0 < r.fail) = true := decide_eq_true h0
      have HR1 : Hid ((w1.setCell ⟨G, 5, none⟩ (.int .i64 (r.fail - 1))).heap[G]? = some (rkObj (.slice (some ⟨g, 0, none⟩) n1 cv) r.begin.fall)) := Lib.hid (by
        have hf : r.begin.fall = { r.begin with fail := r.fail - 1 } := by
          unfold Rk.fall
          rw [if_pos (show 0 < r.begin.fail from h0)]
          rfl
        rw [hf]
        exact heap_set_row H1.out.row _)
      have HX : Hid (RkAt (w1.setCell ⟨G, 5, none⟩ (.int .i64 (r.fail - 1))) B G E r.begin.fall (A0 ++ (nm, f) :: Q0) (.slice (some ⟨g, 0, none⟩) n1 cv) (Pa ++ .slice A7 m7 c7 :: Pb) ∧ Ch (At1 G) w (w1.setCell ⟨G, 5, none⟩ (.int .i64 (r.fail - 1)))) := Lib.hid ⟨H1.out.nums ((Ch.refl _ _).set1 5 _) HR1.out, HC1.out.set1 5 _⟩
      go_wp2_with (fail)
      go_meet
      exact HX.out
    · have d0 : decide (0 < r.fail) = false := decide_eq_false h0
      have HX : Hid (RkAt w1 B G E r.begin.fall (A0 ++ (nm, f) :: Q0) (.slice (some ⟨g, 0, none⟩) n1 cv) (Pa ++ .slice A7 m7 c7 :: Pb) ∧ Ch (At1 G) w w1) := Lib.hid (by
        refine ⟨?_, HC1.out⟩
        have : r.begin.fall = r.begin := by
          unfold Rk.fall
          rw [if_neg (show ¬ 0 < r.begin.fail from h0)]
        rw [this]
        exact H1.out)
      go_wp2_with (fail)
      go_meet
      exact HX.out
  case rest =>
    obtain ⟨h3, hc3⟩ := hcut
    have H3 := Lib.hid h3
    have HC3 := Lib.hid hc3
    clear h3 hc3 c5 f5 H1 HC1
    obtain ⟨fb, hfb⟩ : ∃ g, g = (r.fail == 1) := ⟨_, rfl⟩
    have HFB := Lib.hid hfb
    rw [← hfb]
    clear hfb
    cases fb
    · have HSE : Hid (synE r = 0) := Lib.hid (by unfold synE; rw [← HFB.out]; rfl)
      have c4 : wc.cell? ⟨G, 4, none⟩ = some (.int .i64 r.keep) := H3.out.cell 4
      go_upto_region 8 with (fail)
      go_cut [46] (fun x wx => x = .bool (!gone || rOdd r) ∧ wx = wc)
      case first =>
        cases gone
        · go_wp2_with (fail)
          go_meet
          exact ⟨rfl, rfl⟩
        · go_wp2_with (fail)
          go_meet
          exact ⟨by first | rfl | (unfold rOdd; rfl) | (unfold rOdd; simp), rfl⟩
      case rest =>
        obtain ⟨rfl, hw⟩ := hcut
        obtain rfl := hw.symm
        rw [← HRD.out]
        clear c4
        obtain ⟨dd, hdd⟩ : ∃ dd, dd = rDo r := ⟨_, rfl⟩
        rw [← hdd] at HRD ⊢
        have HDD := Lib.hid hdd
        clear hdd
        cases dd
        · have HCL : Hid (synL r A0 nm f Q0 = A0 ++ (nm, f) :: Q0) := Lib.hid (by unfold synL; rw [← HDD.out]; simp)
          go_wp2_with (fail)
          refine bodyPost_ret (v := .tuple #[.int .i64 0, .bool gone]) (results_two Try.results58 _ _ _) rfl ?_
          rw [HCL.out, ← HGONE.out, HSE.out]
          exact Ret2.same 0 gone H3.out (HC3.out.wide (fun k hk => .inl hk))
        · have HCL : Hid (synL r A0 nm f Q0 = A0 ++ (nm, ⟨f.bs, m7⟩) :: Q0) := Lib.hid (by unfold synL; rw [← HDD.out, ← HFB.out, HM7.out]; simp)
          have HK2 : Hid (RkAt (wc.setCell ⟨g, i * 3 + 2, none⟩ (.int .i64 (m7 : Int))) B G E r.begin.fall (A0 ++ (nm, ⟨f.bs, m7⟩) :: Q0) (.slice (some ⟨g, 0, none⟩) n1 cv) (Pa ++ .slice A7 m7 c7 :: Pb)) := Lib.hid (by
            have := H3.out.setS HPA.out m7
            rw [← HII.out] at this
            exact this)
          have HC2 : Hid (Ch (RF G (.slice (some ⟨g, 0, none⟩) n1 cv)) w (wc.setCell ⟨g, i * 3 + 2, none⟩ (.int .i64 (m7 : Int)))) := Lib.hid ((HC3.out.wide (fun k hk => .inl hk)).trans ((Ch.refl _ wc).set1 (i * 3 + 2) _) (fun k _ hk => .inr (by rw [hk]; rfl)))
          have HCX : Hid (wc.cell? ⟨G, 0, none⟩ = some (.slice (some ⟨g, 0, none⟩) n1 cv) ∧ wc.cell? ⟨g, i * 3 + 1, none⟩ = some (.slice A7 m7 c7) ∧ wc.cell? ⟨g, i * 3 + 2, none⟩ = some (.int .i64 (f.safe : Int)) ∧ (∀ j, wc.frozen? ⟨g, j, none⟩ = false)) := Lib.hid (by
            have ho := H3.out.own
            refine ⟨H3.out.cell 0, ?_, ?_, fun j => by rw [← HN1.out] at ho; exact ho.frozenAt j⟩
            · rw [rfsC_mid HPA.out] at ho
              rw [HN1.out] at ho
              rw [ho.cellAt (i * 3 + 1) (by simp only [List.length_append, List.length_cons]; have := HII.out; omega), List.getElem?_append_right (by rw [rfsC_len HPA.out]; have := HII.out; omega), rfsC_len HPA.out, HII.out, Nat.add_sub_cancel_left]
              rfl
            · rw [rfsC_mid HPA.out] at ho
              rw [HN1.out] at ho
              rw [ho.cellAt (i * 3 + 2) (by simp only [List.length_append, List.length_cons]; have := HII.out; omega), List.getElem?_append_right (by rw [rfsC_len HPA.out]; have := HII.out; omega), rfsC_len HPA.out, HII.out, Nat.add_sub_cancel_left]
              rfl)
          obtain ⟨c0, x1, x2, fz⟩ := HCX.out
          have f2 := fz (i * 3 + 2)
          clear fz
          go_wp2_with (fail)
          go_region
          all_goals
            clear c0 x1 x2 f2
            go_wp2_with (fail)
            refine bodyPost_ret (v := .tuple #[.int .i64 0, .bool gone]) (results_two Try.results58 _ _ _) rfl ?_
            rw [HCL.out, ← HGONE.out, HSE.out]
            exact Ret2.same 0 gone (HK2.out.below (Below.drew (Below.refl _ _))) (HC2.out.trans (Ch.of_below (S := fun _ => False) (Below.drew (Below.refl _ _))) (fun _ _ h => h.elim))
    · have HCL : Hid (synL r A0 nm f Q0 = A0 ++ (nm, f) :: Q0) := Lib.hid (by unfold synL; rw [← HFB.out]; simp)
      cases gone
      · have HSE : Hid (synE r = 5) := Lib.hid (by unfold synE; rw [← HFB.out, ← HGONE.out]; rfl)
        go_wp2_with (fail)
        refine bodyPost_ret (v := .tuple #[.int .i64 5, .bool false]) (results_two Try.results58 _ _ _) rfl ?_
        rw [HCL.out, ← HGONE.out, HSE.out]
        exact Ret2.same 5 false H3.out (HC3.out.wide (fun k hk => .inl hk))
      · have HSE : Hid (synE r = 0) := Lib.hid (by unfold synE; rw [← HFB.out, ← HGONE.out]; rfl)
        go_wp2_with (fail)
        refine bodyPost_ret (v := .tuple #[.int .i64 0, .bool true]) (results_two Try.results58 _ _ _) rfl ?_
        rw [HCL.out, ← HGONE.out, HSE.out]
        exact Ret2.same 0 true H3.out (HC3.out.wide (fun k hk => .inl hk))
end
end Go.Proofs.Ythblbmbefhlbjaa
/- The document's disk: a file's name changed, walked. -/
namespace Go.Proofs.Ythblbmbefhlbjaa
open Go.RowKit Go.MapKept

/-- L without what bears a name -/
def Drops (L : Fs) (nm : ByteArray) (L1 : Fs) : Prop := fget L nm = none ∧ L1 = L ∨ ∃ A f Q, L = A ++ (nm, f) :: Q ∧ (∀ e ∈ A, e.1 ≠ nm) ∧ L1 = A ++ Q
theorem fget_app {A Q : Fs} {old nm : ByteArray} {f : Fl} (hne : old ≠ nm) : fget (A ++ (nm, f) :: Q) old = fget (A ++ Q) old := by
  induction A with
  | nil => simp [fget, hne]
  | cons x A ih => obtain ⟨m, g⟩ := x; simp only [List.cons_append, fget, ih]
theorem Drops.get {L L1 : Fs} {old nm : ByteArray} (h : Drops L nm L1) (hne : old ≠ nm) : fget L1 old = fget L old := by
  rcases h with ⟨_, rfl⟩ | ⟨A, f, Q, rfl, _, rfl⟩
  · rfl
  · exact (fget_app hne).symm
theorem Drops.len {L L1 : Fs} {nm : ByteArray} (h : Drops L nm L1) : L1.length ≤ L.length := by
  rcases h with ⟨_, rfl⟩ | ⟨A, f, Q, rfl, _, rfl⟩
  · omega
  · simp
section
variable {w : World} {B G : Nat} {E : Nat → Prop} {r : Rk} {L : Fs} {v : Value} {P : List Value}
end
end Go.Proofs.Ythblbmbefhlbjaa
/- The document's disk: the power goes, walked. -/
namespace Go.Proofs.Ythblbmbefhlbjaa
open Go.RowKit Go.MapKept

/-- how many bytes behind the safe ones stay -/
def powK (kp : Int) (f : Fl) : Nat := (min kp ((f.bs.length : Int) - (f.safe : Int))).toNat
def powF (kp : Int) (f : Fl) : Fl := ⟨f.bs.take (f.safe + powK kp f), f.safe + powK kp f⟩
def powL (kp : Int) (L : Fs) : Fs := L.map fun e => (e.1, powF kp e.2)
def Rk.power (r : Rk) : Rk := { r with armed := 0, fail := 0 }
theorem powK_le {kp : Int} {f : Fl} (h : f.safe ≤ f.bs.length) : f.safe + powK kp f ≤ f.bs.length := by unfold powK; omega
theorem powL_len {kp : Int} {L : Fs} : (powL kp L).length = L.length := by simp [powL]
theorem powL_take {kp : Int} {L : Fs} {j : Nat} (h : j < L.length) : powL kp (L.take (j + 1)) = powL kp (L.take j) ++ [(L[j].1, powF kp L[j].2)] := by
  unfold powL
  rw [List.take_succ_eq_append_getElem h, List.map_append]
  rfl
section
variable {w : World} {B G : Nat} {E : Nat → Prop} {r : Rk} {L : Fs} {v : Value} {P : List Value}
set_option maxHeartbeats 16000000 in
set_option maxRecDepth 100000 in
theorem rkPower (h : RkAt w B G E r L v P) (hL : L.length ≤ 100000) (hsa : ∀ e ∈ L, e.2.safe ≤ e.2.bs.length) (hby : ∀ e ∈ L, e.2.bs.length ≤ 1099511627776) (kp : Int) :
    Calls Try.prog 37 #[pR G, .int .i64 kp] w (fun x w' => x = .returned (.tuple #[]) ∧ ∃ P', RkAt w' B G E r.power (powL kp L) v P' ∧ Ch (RF G v) w w') := by
  obtain ⟨A, c, rfl, hc1, hc2⟩ := h.form
  have H := Lib.hid h
  have HL := Lib.hid hL
  have HSA := Lib.hid hsa
  have HBY := Lib.hid hby
  have HC2 := Lib.hid hc2
  obtain ⟨n, hn⟩ : ∃ n, n = L.length := ⟨_, rfl⟩
  have HN := Lib.hid hn
  rw [← hn] at hc1 H ⊢
  have hcc : (n : Int) ≤ (c : Int) := by omega
  clear h hL hsa hby hn hc1 hc2
  go_enter Try.func37, Try.ntmps37
  go_wp2_with (fail)
  go_loopw [4] (fun i wr => ∃ k : Nat, k ≤ n ∧ i = .int .i64 k ∧ ∃ Q, RkAt wr B G E r (powL kp (L.take k) ++ L.drop k) (.slice A n c) Q ∧ Ch (RF G (.slice A n c)) w wr) (fun i _ => n - (intOf i).toNat)
  case atStart => exact ⟨0, by omega, rfl, P, by simpa [powL] using H.out, Ch.refl _ _⟩
  case round =>
    obtain ⟨k, hk, rfl, Q, hq, hch⟩ := hrel
    have c0 : wr.cell? ⟨G, 0, none⟩ = some (.slice A n c) := hq.cell 0
    have HQ := Lib.hid hq
    have HCH := Lib.hid hch
    clear hq hch
    by_cases hlt : k < n
    · have hkl : k < L.length := by have := HN.out; omega
      have HT := Lib.hid (powL_take (kp := kp) hkl)
      obtain ⟨e, he⟩ : ∃ e, e = L[k] := ⟨_, rfl⟩
      rw [← he] at HT
      obtain ⟨nm, f⟩ := e
      have HD : Hid (L.drop k = (nm, f) :: L.drop (k + 1)) := Lib.hid (by rw [he, List.getElem_cons_drop])
      have HM : Hid (f.safe ≤ f.bs.length ∧ f.bs.length ≤ 1099511627776) := Lib.hid ⟨HSA.out (nm, f) (by rw [he]; exact List.getElem_mem _), HBY.out (nm, f) (by rw [he]; exact List.getElem_mem _)⟩
      obtain ⟨A0, hA0⟩ : ∃ A0, A0 = powL kp (L.take k) := ⟨_, rfl⟩
      obtain ⟨Q0, hQ0⟩ : ∃ Q0, Q0 = L.drop (k + 1) := ⟨_, rfl⟩
      have HAL : Hid (A0.length = k) := Lib.hid (by rw [hA0, powL_len, List.length_take]; omega)
      have hq := HQ.out
      rw [HD.out, ← hA0, ← hQ0] at hq
      obtain ⟨g, n1, cv, Pa, A7, m7, c7, Pb, hvv, hn1, hnc, hcm, rfl, hpa, hB7, hdv, _, x1, x2, fz⟩ := hq.mid
      injection hvv with hv1 hv2 hv3
      subst hv1 hv2 hv3
      have HQ2 := Lib.hid hq
      have HPA := Lib.hid hpa
      have HN1 := Lib.hid hn1
      have HDV := Lib.hid hdv
      have hm7 : f.bs.length = m7 := hB7.len
      have hc7 : m7 ≤ c7 := hB7.2.1
      have HM7 := Lib.hid hm7
      have HC7 := Lib.hid hc7
      have HA0 := Lib.hid hA0
      have HQ0 := Lib.hid hQ0
      rw [HAL.out] at x1 x2
      have hw5 : IntKind.i64.wrap ((k : Int) + 1) = (k : Int) + 1 := IntWalk.i64_in _ (by have := HL.out; omega)
      have hw6 : IntKind.i64.wrap ((m7 : Int) - (f.safe : Int)) = (m7 : Int) - (f.safe : Int) := IntWalk.i64_in _ (by have := HM.out; have := HM7.out; omega)
      clear hq hpa hn1 hdv hm7 hc7 hA0 hQ0 HQ he hkl hB7 fz hnc hcm
      have hin : (k : Int) < (n : Int) := by omega
      go_wp2_with (fail)
      go_quiet (fail)
      have HBQ : Hid (Below wr.heap.size wr (wr.drewN nq)) := Lib.hid (drawN_below (Below.refl _ _) nq)
      have HQ3 := Lib.hid (HQ2.out.below HBQ.out)
      have HCH3 := Lib.hid (HCH.out.trans (Ch.of_below (S := fun _ => False) HBQ.out) (fun _ _ h => h.elim))
      clear c0 x1 x2 HQ2 HCH HBQ hw6
      generalize wr.drewN nq = w3 at *
      obtain ⟨D, hD⟩ : ∃ D, D = (m7 : Int) - (f.safe : Int) := ⟨_, rfl⟩
      have HD2 := Lib.hid hD
      rw [← hD]
      clear hD
      go_upto_if 35 with (fail)
      go_cut [5] (fun x wx => x = .int .i64 (min kp D) ∧ wx = w3)
      case first =>
        by_cases hc : kp < D
        · have d1 : decide (kp < D) = true := decide_eq_true hc
          have HMIN : Hid (min kp D = kp) := Lib.hid (by omega)
          go_wp2_with (fail)
          go_meet
          exact ⟨by rw [HMIN.out], rfl⟩
        · have d1 : decide (kp < D) = false := decide_eq_false hc
          have HMIN : Hid (min kp D = D) := Lib.hid (by omega)
          go_wp2_with (fail)
          go_meet
          exact ⟨by rw [HMIN.out], rfl⟩
      case rest =>
        obtain ⟨rfl, hw⟩ := hcut
        obtain rfl := hw.symm
        obtain ⟨K, hK⟩ : ∃ K, K = min kp D := ⟨_, rfl⟩
        have HK := Lib.hid hK
        rw [← hK]
        clear hK
        obtain ⟨M, hM⟩ : ∃ M, M = powK kp f := ⟨_, rfl⟩
        have HMM := Lib.hid hM
        clear hM
        have HKM : Hid (M = K.toNat) := Lib.hid (by rw [HMM.out, HK.out, HD2.out, ← HM7.out]; rfl)
        go_upto_if 38 with (fail)
        go_cut [5] (fun x wx => x = .int .i64 ((M : Nat) : Int) ∧ wx = w3)
        case first =>
          by_cases hc : K < 0
          · have d1 : decide (K < 0) = true := decide_eq_true hc
            have HMIN : Hid (((M : Nat) : Int) = 0) := Lib.hid (by have := HKM.out; omega)
            go_wp2_with (fail)
            go_meet
            exact ⟨by rw [HMIN.out], rfl⟩
          · have d1 : decide (K < 0) = false := decide_eq_false hc
            have HMIN : Hid (((M : Nat) : Int) = K) := Lib.hid (by have := HKM.out; omega)
            go_wp2_with (fail)
            go_meet
            exact ⟨by rw [HMIN.out], rfl⟩
        case rest =>
          obtain ⟨rfl, hw⟩ := hcut
          obtain rfl := hw.symm
          obtain ⟨N, hN⟩ : ∃ N, N = f.safe + M := ⟨_, rfl⟩
          have HNN := Lib.hid hN
          have HNM : Hid (N ≤ m7) := Lib.hid (by have := powK_le (kp := kp) HM.out.1; rw [← HMM.out] at this; have := HM7.out; omega)
          have HPF : Hid (powF kp f = ⟨f.bs.take N, N⟩) := Lib.hid (by rw [hN, HMM.out]; rfl)
          have hw6 : IntKind.i64.wrap ((f.safe : Int) + (M : Int)) = ((N : Nat) : Int) := by
            rw [hN]
            push_cast
            exact IntWalk.i64_in _ (by have := HM.out; have := HM7.out; have := HNM.out; omega)
          clear hN
          have sl1 : ∀ W, (Instr.sliceAt 27 (.slice A7 m7 c7) none (some (.int .i64 ((N : Nat) : Int))) none).run Try.prog W = .ok (.slice A7 N c7) W := fun W => slice_fr A7 m7 c7 N (by have := HC7.out; have := HNM.out; omega) W
          have HCX : Hid (w3.cell? ⟨G, 0, none⟩ = some (.slice (some ⟨g, 0, none⟩) n c) ∧ w3.cell? ⟨g, k * 3 + 1, none⟩ = some (.slice A7 m7 c7) ∧ w3.cell? ⟨g, k * 3 + 2, none⟩ = some (.int .i64 (f.safe : Int)) ∧ (∀ j, w3.frozen? ⟨g, j, none⟩ = false)) := Lib.hid (by
            obtain ⟨g', n1, cv, Pa', A8, m8, c8, Pb', hvv, hn1, _, _, hpp, hpa', _, _, y0, y1, y2, fz⟩ := HQ3.out.mid
            rw [HAL.out] at y1 y2
            injection hvv with hv1 hv2 hv3
            injection hv1 with hv1
            injection hv1 with hv1
            subst hv1 hv2 hv3
            have hd : (Value.slice A7 m7 c7) = .slice A8 m8 c8 := by
              have := congrArg (fun l => l[A0.length]?) hpp
              rw [List.getElem?_append_right (by have := HPA.out; omega), List.getElem?_append_right (by omega), HPA.out, hpa', Nat.sub_self] at this
              simpa using this
            rw [← hd] at y1
            exact ⟨y0, y1, y2, fz⟩)
          obtain ⟨c0, x1, x2, fz⟩ := HCX.out
          have f1 := fz (k * 3 + 1)
          have HQ4 : Hid (RkAt (w3.setCell ⟨g, k * 3 + 1, none⟩ (.slice A7 N c7)) B G E r (A0 ++ (nm, ⟨f.bs.take N, f.safe⟩) :: Q0) (.slice (some ⟨g, 0, none⟩) n c) (Pa ++ .slice A7 N c7 :: Pb)) := Lib.hid (by
            obtain ⟨A8, m8, c8, e8, hB8, hx8⟩ := HQ3.out.dat A0.length (nm, f) (.slice A7 m7 c7) (by rw [List.getElem?_append_right (Nat.le_refl _), Nat.sub_self]; rfl) (by rw [List.getElem?_append_right (by have := HPA.out; omega), HPA.out, Nat.sub_self]; rfl)
            cases e8
            have := HQ3.out.setD HPA.out (.slice A7 N c7) (f.bs.take N) ⟨A7, N, c7, rfl, hB8.front HNM.out, fun a ha => (hx8 a ha).imp (fun h0 => by have := HNM.out; omega) id⟩
            rw [HAL.out] at this
            exact this)
          have HQ5 : Hid (RkAt ((w3.setCell ⟨g, k * 3 + 1, none⟩ (.slice A7 N c7)).setCell ⟨g, k * 3 + 2, none⟩ (.int .i64 (N : Int))) B G E r (A0 ++ (nm, ⟨f.bs.take N, N⟩) :: Q0) (.slice (some ⟨g, 0, none⟩) n c) (Pa ++ .slice A7 N c7 :: Pb)) := Lib.hid (by
            have := HQ4.out.setS HPA.out N
            rw [HAL.out] at this
            exact this)
          have HC5 : Hid (Ch (RF G (.slice (some ⟨g, 0, none⟩) n c)) w ((w3.setCell ⟨g, k * 3 + 1, none⟩ (.slice A7 N c7)).setCell ⟨g, k * 3 + 2, none⟩ (.int .i64 (N : Int)))) := Lib.hid ((HCH3.out.trans ((Ch.refl _ w3).set1 (k * 3 + 1) (.slice A7 N c7)) (fun k _ hk => .inr (by rw [hk]; rfl))).trans ((Ch.refl _ _).set1 (k * 3 + 2) (.int .i64 (N : Int))) (fun k _ hk => .inr (by rw [hk]; rfl)))
          have HY : Hid ((w3.setCell ⟨g, k * 3 + 1, none⟩ (.slice A7 N c7)).drew.cell? ⟨G, 0, none⟩ = some (.slice (some ⟨g, 0, none⟩) n c) ∧ (w3.setCell ⟨g, k * 3 + 1, none⟩ (.slice A7 N c7)).drew.cell? ⟨g, k * 3 + 1, none⟩ = some (.slice A7 N c7) ∧ (w3.setCell ⟨g, k * 3 + 1, none⟩ (.slice A7 N c7)).drew.cell? ⟨g, k * 3 + 2, none⟩ = some (.int .i64 (f.safe : Int)) ∧ (w3.setCell ⟨g, k * 3 + 1, none⟩ (.slice A7 N c7)).drew.frozen? ⟨g, k * 3 + 2, none⟩ = false) := Lib.hid (by
            obtain ⟨g', n1, cv, Pa', A8, m8, c8, Pb', hvv, hn1, _, _, hpp, hpa', _, _, y0, y1, y2, fz⟩ := (HQ4.out.below (Below.drew (Below.refl _ _))).mid
            rw [HAL.out] at y1 y2
            injection hvv with hv1 hv2 hv3
            injection hv1 with hv1
            injection hv1 with hv1
            subst hv1 hv2 hv3
            have hd : (Value.slice A7 N c7) = .slice A8 m8 c8 := by
              have := congrArg (fun l => l[A0.length]?) hpp
              rw [List.getElem?_append_right (by have := HPA.out; omega), List.getElem?_append_right (by omega), HPA.out, hpa', Nat.sub_self] at this
              simpa using this
            rw [← hd] at y1
            exact ⟨y0, y1, y2, fz _⟩)
          clear fz
          go_wp2_with (fail)
          go_region
          all_goals
            clear c0 x1 x2 f1 sl1 hw6
            obtain ⟨c0, x1, x2, f2⟩ := HY.out
            go_wp2_with (fail)
            go_region
            all_goals
              clear c0 x1 x2 f2
              have HZ : Hid (RkAt ((w3.setCell ⟨g, k * 3 + 1, none⟩ (.slice A7 N c7)).setCell ⟨g, k * 3 + 2, none⟩ (.int .i64 (N : Int))).drew.drew B G E r (powL kp (L.take (k + 1)) ++ L.drop (k + 1)) (.slice (some ⟨g, 0, none⟩) n c) (Pa ++ .slice A7 N c7 :: Pb) ∧ Ch (RF G (.slice (some ⟨g, 0, none⟩) n c)) w ((w3.setCell ⟨g, k * 3 + 1, none⟩ (.slice A7 N c7)).setCell ⟨g, k * 3 + 2, none⟩ (.int .i64 (N : Int))).drew.drew) := Lib.hid (by
                refine ⟨?_, HC5.out.trans (Ch.of_below (S := fun _ => False) ((Below.refl _ _).drew.drew)) (fun _ _ h => h.elim)⟩
                have h5 := HQ5.out.below ((Below.refl _ _).drew.drew)
                rw [← HPF.out, HA0.out, HQ0.out] at h5
                rw [HT.out, List.append_assoc]
                exact h5)
              clear HQ5 HC5 HQ4 HY HCX
              go_wp2_with (fail)
              exact ⟨⟨k + 1, by omega, rfl, _, HZ.out.1, HZ.out.2⟩, by simp [intOf]; omega⟩
    · obtain rfl : k = n := by omega
      have HT : Hid (powL kp (L.take k) ++ L.drop k = powL kp L) := Lib.hid (by rw [HN.out, List.take_of_length_le (Nat.le_refl _), List.drop_eq_nil_of_le (Nat.le_refl _), List.append_nil])
      have f3 := HQ.out.frozen 3
      have c3 := HQ.out.cell 3
      have c5 := HQ.out.cell 5
      have f5 := HQ.out.frozen 5
      have HRW : Hid (((wr.setCell ⟨G, 3, none⟩ (.int .i64 0)).setCell ⟨G, 5, none⟩ (.int .i64 0)).heap[G]? = some (rkObj (.slice A k c) r.power)) := Lib.hid (by
        have h1 : (wr.setCell ⟨G, 3, none⟩ (.int .i64 0)).heap[G]? = some (rkObj (.slice A k c) { r with armed := 0 }) := heap_set_row HQ.out.row _
        exact heap_set_row h1 _)
      clear hlt
      go_wp2_with (fail)
      go_end0
      have hq := HQ.out
      rw [HT.out] at hq
      exact ⟨rfl, Q, hq.nums (((Ch.refl _ _).set1 3 _).set1 5 _) HRW.out, (HCH.out.trans ((Ch.refl _ _).set1 3 _) (fun _ _ hk => .inl hk)).trans ((Ch.refl _ _).set1 5 _) (fun _ _ hk => .inl hk)⟩
end
end Go.Proofs.Ythblbmbefhlbjaa
/- The document's disk and the program's, as they are told: files in an order of one's own, and in the names' order. -/
namespace Go.Proofs.Ythblbmbefhlbjaa
open Go.RowKit Go.MapKept

theorem bl_iff {a b : ByteArray} : bl a b = true ↔ a.data.toList < b.data.toList := by
  unfold bl
  rw [bytesLess_eq, Lib.toList_data, Lib.toList_data, decide_eq_true_iff]
theorem bl_trans {a b c : ByteArray} (h1 : bl a b = true) (h2 : bl b c = true) : bl a c = true := by
  rw [bl_iff] at *
  exact List.lt_trans h1 h2
theorem bl_tot {a b : ByteArray} (h : bl a b = false) (hne : a ≠ b) : bl b a = true := by
  have h1 : ¬ a.data.toList < b.data.toList := fun h2 => by rw [bl_iff.2 h2] at h; cases h
  rw [bl_iff]
  rcases Std.le_total (a := a.data.toList) (b := b.data.toList) with h2 | h2
  · exact absurd (Std.lt_of_le_of_ne h2 (fun e => hne (ByteArray.ext (Array.toList_inj.1 e)))) h1
  · exact Std.lt_of_le_of_ne h2 (fun e => hne (ByteArray.ext (Array.toList_inj.1 e.symm)))
abbrev Srt (L : Fs) : Prop := L.Pairwise (fun a b => bl a.1 b.1 = true)
theorem fgetL_mid {A Q : Fs} {n : ByteArray} {f : Fl} (h : ∀ e ∈ A, e.1 ≠ n) : fget (A ++ (n, f) :: Q) n = some f := by
  induction A with
  | nil => simp [fget]
  | cons x A ih =>
    obtain ⟨m, g⟩ := x
    simp only [List.cons_append, fget]
    rw [if_neg (fun e => h (m, g) (by simp) e.symm)]
    exact ih (fun e he => h e (by simp [he]))
theorem fput_mid {A Q : Fs} {n : ByteArray} {f f' : Fl} (h : ∀ e ∈ A, e.1 ≠ n) : fput (A ++ (n, f) :: Q) n f' = A ++ (n, f') :: Q := by
  induction A with
  | nil => simp [fput]
  | cons x A ih =>
    obtain ⟨m, g⟩ := x
    simp only [List.cons_append, fput]
    rw [if_neg (fun e => h (m, g) (by simp) e.symm), ih (fun e he => h e (by simp [he]))]
theorem perm_cut {A0 Q0 A1 Q1 : Fs} {x : ByteArray × Fl} (h : (A0 ++ x :: Q0).Perm (A1 ++ x :: Q1)) : (A0 ++ Q0).Perm (A1 ++ Q1) :=
  ((List.perm_middle.symm.trans h).trans List.perm_middle).cons_inv
theorem perm_mid {A0 Q0 A1 Q1 : Fs} (x : ByteArray × Fl) (h : (A0 ++ Q0).Perm (A1 ++ Q1)) : (A0 ++ x :: Q0).Perm (A1 ++ x :: Q1) :=
  (List.perm_middle.trans (h.cons x)).trans List.perm_middle.symm
theorem fget_in {L : Fs} {n : ByteArray} {f : Fl} (h : fget L n = some f) : (n, f) ∈ L := by
  rcases fs_split L n with ⟨h1, _, _⟩ | ⟨A, f', Q, rfl, _, h2, _⟩
  · rw [h1] at h; cases h
  · rw [h2] at h; cases h; simp
theorem in_fget {L : Fs} {n : ByteArray} {f : Fl} (hn : (L.map (·.1)).Nodup) (h : (n, f) ∈ L) : fget L n = some f := by
  obtain ⟨A, Q, rfl⟩ := List.append_of_mem h
  refine fgetL_mid (fun e he e1 => ?_)
  rw [List.map_append, List.nodup_append] at hn
  exact hn.2.2 e.1 (List.mem_map.2 ⟨e, he, rfl⟩) n (by simp) e1
theorem fget_perm {L fs : Fs} (h : L.Perm fs) (hn : (fs.map (·.1)).Nodup) (n : ByteArray) : fget L n = fget fs n := by
  have hn' : (L.map (·.1)).Nodup := (h.map _).nodup_iff.2 hn
  cases h1 : fget fs n with
  | some f => exact in_fget hn' (h.mem_iff.2 (fget_in h1))
  | none =>
    cases h2 : fget L n with
    | none => rfl
    | some f => rw [in_fget hn (h.mem_iff.1 (fget_in h2))] at h1; cases h1
theorem fget_not {L : Fs} {n : ByteArray} (h : fget L n = none) : ∀ e ∈ L, e.1 ≠ n := by
  rcases fs_split L n with ⟨_, h2, _⟩ | ⟨_, f, _, _, _, h2, _⟩
  · exact h2
  · rw [h2] at h; cases h
/-- a file of one, and of the other -/
theorem both_split {L fs : Fs} {A0 Q0 : Fs} {n : ByteArray} {f : Fl} (h : L.Perm fs) (hn : (fs.map (·.1)).Nodup) (hL : L = A0 ++ (n, f) :: Q0) (hno : ∀ e ∈ A0, e.1 ≠ n) :
    ∃ A1 Q1, fs = A1 ++ (n, f) :: Q1 ∧ (∀ e ∈ A1, e.1 ≠ n) ∧ fget fs n = some f ∧ (A0 ++ Q0).Perm (A1 ++ Q1) := by
  have hg : fget fs n = some f := by rw [← fget_perm h hn, hL]; exact fgetL_mid hno
  rcases fs_split fs n with ⟨h1, _, _⟩ | ⟨A1, f', Q1, e, h2, h3, _⟩
  · rw [h1] at hg; cases hg
  · rw [h3] at hg
    cases hg
    refine ⟨A1, Q1, e, h2, h3, perm_cut (x := (n, f)) ?_⟩
    rw [← hL, ← e]
    exact h
theorem srt_put {L L' : Fs} {e : ByteArray × Fl} (hs : Srt L) (hno : ∀ x ∈ L, x.1 ≠ e.1) (hp : PutsTo L e L') : Srt L' ∧ L'.Perm (e :: L) := by
  obtain ⟨Pl, Ql, rfl, rfl, h1, h2⟩ := hp
  refine ⟨?_, List.perm_middle⟩
  unfold Srt at *
  rw [List.pairwise_append] at hs ⊢
  obtain ⟨hs1, hs2, hs3⟩ := hs
  refine ⟨hs1, List.pairwise_cons.2 ⟨h1, hs2⟩, fun a ha b hb => ?_⟩
  have hae : bl a.1 e.1 = true := by
    have hne : Pl ≠ [] := fun h => by rw [h] at ha; cases ha
    have hl := List.getLast?_eq_some_getLast hne
    have hy := bl_tot (h2 _ hl) (fun h => hno _ (List.mem_append_left _ (List.getLast_mem hne)) h.symm)
    have hsp : Pl = Pl.dropLast ++ [Pl.getLast hne] := (List.dropLast_concat_getLast hne).symm
    rw [hsp] at ha hs1
    rcases List.mem_append.1 ha with h | h
    · exact bl_trans ((List.pairwise_append.1 hs1).2.2 a h _ (by simp)) hy
    · rw [List.mem_singleton.1 h]; exact hy
  rcases List.mem_cons.1 hb with rfl | hb
  · exact hae
  · exact hs3 a ha b hb
theorem srt_sub {A Q : Fs} {n : ByteArray} {f f' : Fl} (h : Srt (A ++ (n, f) :: Q)) : Srt (A ++ (n, f') :: Q) := by
  unfold Srt at *
  rw [List.pairwise_append] at h ⊢
  obtain ⟨h1, h2, h3⟩ := h
  rw [List.pairwise_cons] at h2
  refine ⟨h1, List.pairwise_cons.2 ⟨fun x hx => h2.1 x hx, h2.2⟩, fun a ha b hb => ?_⟩
  rcases List.mem_cons.1 hb with rfl | hb
  · exact h3 a ha (n, f) (by simp)
  · exact h3 a ha b (by simp [hb])
theorem sumB_perm {L fs : Fs} (h : L.Perm fs) : sumB L = ftotal fs := (h.map _).sum_nat
/-- the program's disk tells what the document's does -/
structure Sim (d : Dk) (fs : Fs) (r : Rk) (L : Fs) : Prop where
  size : r.size = d.room
  count : r.count = d.ops
  armed : r.armed = d.armedIn
  keep : r.keep = d.armKeep
  fail : r.fail = d.failIn
  perm : L.Perm fs
  srt : Srt L
theorem Sim.odd {d : Dk} {fs : Fs} {r : Rk} {L : Fs} (h : Sim d fs r L) : rOdd r = dOdd d := by unfold rOdd dOdd; rw [h.keep]
theorem Sim.ok {d : Dk} {fs : Fs} {r : Rk} {L : Fs} (h : Sim d fs r L) (hk : FsOk d fs) : r.Ok := by
  have := hk.ok
  exact ⟨by rw [h.size]; have := hk.ok.room; omega, by rw [h.count]; exact hk.ok.ops, by rw [h.armed]; exact hk.ok.armedIn, by rw [h.keep]; exact hk.ok.armKeep, by rw [h.fail]; exact hk.ok.failIn⟩
theorem Sim.begin {d : Dk} {fs : Fs} {r : Rk} {L : Fs} (h : Sim d fs r L) {fs' L' : Fs} (hp : L'.Perm fs') (hs : Srt L') (u : Int) : Sim { d.begin with used := u } fs' r.begin L' :=
  ⟨h.size, by show r.count + 1 = d.ops + 1; rw [h.count], by show (if r.armed = 0 then 0 else r.armed - 1) = (if d.armedIn = 0 then 0 else d.armedIn - 1); rw [h.armed], h.keep, h.fail, hp, hs⟩
theorem Sim.begin0 {d : Dk} {fs : Fs} {r : Rk} {L : Fs} (h : Sim d fs r L) {fs' L' : Fs} (hp : L'.Perm fs') (hs : Srt L') : Sim d.begin fs' r.begin L' := h.begin hp hs d.begin.used
end Go.Proofs.Ythblbmbefhlbjaa
/- The document's disk's methods, against what the program's do. -/
namespace Go.Proofs.Ythblbmbefhlbjaa
open Go.RowKit Go.MapKept

/-- an answer, and the document's -/
def Agree (o : Int ⊕ Int) (r : Rk) (e : Int) (g : Bool) : Prop := (∃ x, o = .inl x ∧ e = x ∧ g = false) ∨ (∃ op, o = .inr op ∧ op = r.count ∧ g = true)
def RM (w : World) (B G : Nat) (E : Nat → Prop) (v : Value) (o : Out) (x : Ending) (w' : World) : Prop :=
  ∃ e g r' L' v' P', x = ret2 e g ∧ Agree o.1 r' e g ∧ Sim o.2.1 o.2.2 r' L' ∧ RkAt w' B G E r' L' v' P' ∧ Ch (RF G v) w w' ∧ (∀ k, v'.ownBlock = some k → v.ownBlock = some k ∨ w.heap.size ≤ k)
def RA (w : World) (B G : Nat) (E : Nat → Prop) (v : Value) (o : OutN) (x : Ending) (w' : World) : Prop :=
  ∃ n e g r' L' v' P', x = ret3 n e g ∧ Agree o.1.2 r' e g ∧ (g = false → n = o.1.1) ∧ Sim o.2.1 o.2.2 r' L' ∧ RkAt w' B G E r' L' v' P' ∧ Ch (RF G v) w w' ∧ (∀ k, v'.ownBlock = some k → v.ownBlock = some k ∨ w.heap.size ≤ k)
section
variable {w : World} {B G : Nat} {E : Nat → Prop} {r : Rk} {L : Fs} {v : Value} {P : List Value} {d : Dk} {fs : Fs}
theorem RM.of {r' : Rk} {L' : Fs} {e : Int} {g : Bool} {x : Ending} {w' : World} {o : Out} (h : Ret2 w B G E r' L' v e g x w') (ha : Agree o.1 r' e g ∧ Sim o.2.1 o.2.2 r' L') : RM w B G E v o x w' := by
  obtain ⟨v', P', h1, h2, h3, h4⟩ := h
  exact ⟨e, g, r', L', v', P', h1, ha.1, ha.2, h2, h3, h4⟩
theorem Sim.change (h : Sim d fs r L) {d1 d2 : Dk} {fs1 L' : Fs} {r' : Rk} {x e : Int} (h1 : rDo r = true → Sim d1 fs1 r' L') (h2 : rDo r = false → Sim d2 fs r' L') (hc : r'.count = d.ops + 1) (he : (r.armed == 1) = false → e = x) :
    Agree (opChange d fs x d1 d2 fs1).1 r' e (r.armed == 1) ∧ Sim (opChange d fs x d1 d2 fs1).2.1 (opChange d fs x d1 d2 fs1).2.2 r' L' := by
  unfold opChange
  by_cases ha : d.armedIn = 1
  · have hb : (r.armed == 1) = true := by rw [h.armed, ha]; rfl
    have hd : rDo r = dOdd d := by unfold rDo; rw [hb, h.odd]; rfl
    rw [if_pos ha]
    refine ⟨.inr ⟨_, rfl, hc.symm, hb⟩, ?_⟩
    cases ho : dOdd d
    · simp only [Bool.false_eq_true, if_false]; exact h2 (by rw [hd, ho])
    · simp only [if_true]; exact h1 (by rw [hd, ho])
  · have hb : (r.armed == 1) = false := by rw [h.armed, beq_eq_false_iff_ne]; exact ha
    have hd : rDo r = true := by unfold rDo; rw [hb]; rfl
    rw [if_neg ha]
    exact ⟨.inl ⟨_, rfl, he hb, hb⟩, h1 hd⟩
theorem Sim.get (h : Sim d fs r L) (ok : FsOk d fs) (n : ByteArray) : fget L n = fget fs n := fget_perm h.perm ok.names n
theorem rkTrunc (h : RkAt w B G E r L v P) (hs : Sim d fs r L) (ok : FsOk d fs) (nm : ByteArray) (n : Int) (hL : L.length ≤ 100000) (hE : ∀ k, E k → k < w.heap.size) :
    Calls Try.prog 74 #[pR G, .string nm, .int .i64 n] w (RM w B G E v (opTrunc d fs nm n)) := by
  have hg := hs.get ok nm
  rcases fs_split L nm with ⟨h1, _, _⟩ | ⟨A0, f, Q0, hl, hno, h1, _⟩
  · rw [h1] at hg
    unfold opTrunc
    rw [← hg]
    exact (rkTrunc_none h nm hL n h1).mono fun x w' hx => RM.of hx ⟨.inl ⟨6, rfl, rfl, rfl⟩, hs⟩
  · obtain ⟨A1, Q1, hfs, hno1, hg1, hp⟩ := both_split hs.perm ok.names hl hno
    unfold opTrunc
    rw [hg1]
    simp only
    subst hl
    by_cases hb : n < 0 ∨ (f.bs.length : Int) < n
    · rw [if_pos hb]
      exact (rkTrunc_bad h hno hL n hb).mono fun x w' hx => RM.of hx ⟨.inl ⟨3, rfl, rfl, rfl⟩, hs⟩
    · rw [if_neg hb]
      obtain ⟨N, rfl⟩ : ∃ N : Nat, n = (N : Int) := ⟨n.toNat, by omega⟩
      refine (rkTrunc_do h (hs.ok ok) hno hL hE N (by omega)).mono fun x w' hx => RM.of hx ?_
      refine hs.change (fun hd => ?_) (fun hd => ?_) (by show r.count + 1 = _; rw [hs.count]) (fun _ => rfl)
      · unfold cutL
        rw [if_pos hd, hfs, fput_mid hno1]
        exact hs.begin (perm_mid _ hp) (srt_sub hs.srt) _
      · unfold cutL
        rw [hd]
        simp only [Bool.false_eq_true, if_false]
        exact hs.begin0 hs.perm hs.srt
theorem Sim.syncs (h : Sim d fs r L) (ok : FsOk d fs) {fs' L' : Fs} (hp : L'.Perm fs') (hs : Srt L') : Sim d.syncs.begin fs' r.begin.fall L' :=
  ⟨h.size, by show r.count + 1 = d.ops + 1; rw [h.count], by show (if r.armed = 0 then 0 else r.armed - 1) = (if d.armedIn = 0 then 0 else d.armedIn - 1); rw [h.armed], h.keep, by
    show (if 0 < r.fail then r.fail - 1 else r.fail) = (if d.failIn = 0 then 0 else d.failIn - 1)
    have := ok.ok.failIn
    rw [h.fail]
    split <;> split <;> omega, hp, hs⟩
theorem rkSync (h : RkAt w B G E r L v P) (hs : Sim d fs r L) (ok : FsOk d fs) (nm : ByteArray) (hL : L.length ≤ 100000) :
    Calls Try.prog 58 #[pR G, .string nm] w (RM w B G E v (opSync d fs nm)) := by
  have hg := hs.get ok nm
  rcases fs_split L nm with ⟨h1, _, _⟩ | ⟨A0, f, Q0, hl, hno, h1, _⟩
  · rw [h1] at hg
    unfold opSync
    rw [← hg]
    exact (rkSync_none h nm hL h1).mono fun x w' hx => RM.of hx ⟨.inl ⟨6, rfl, rfl, rfl⟩, hs⟩
  · obtain ⟨A1, Q1, hfs, hno1, hg1, hp⟩ := both_split hs.perm ok.names hl hno
    unfold opSync
    rw [hg1]
    simp only
    subst hl
    have hff : (d.failIn == 1) = (r.fail == 1) := by rw [hs.fail]
    rw [hff]
    refine (rkSync_do h (hs.ok ok) hno hL).mono fun x w' hx => RM.of hx ?_
    refine hs.change (fun hd => ?_) (fun hd => ?_) (by show r.count + 1 = _; rw [hs.count]) (fun ha => ?_)
    · unfold synL
      cases hb : (r.fail == 1)
      · rw [if_pos ⟨rfl, hd⟩, hfs, fput_mid hno1]
        exact hs.syncs ok (perm_mid _ hp) (srt_sub hs.srt)
      · rw [if_neg (fun h => by cases h.1), hfs, fput_mid hno1]
        exact hs.syncs ok (perm_mid _ hp) hs.srt
    · unfold synL
      rw [if_neg (fun h => by rw [hd] at h; cases h.2)]
      exact hs.syncs ok hs.perm hs.srt
    · unfold synE syncErr
      rw [ha]
      cases hb : (r.fail == 1) <;> rfl
theorem rkApp (h : RkAt w B G E r L v P) (hs : Sim d fs r L) (ok : FsOk d fs) (nm : ByteArray) (hz : nm.size ≤ 140737488355328) (A : Option Addr) (m c : Nat) (l : List UInt8) (hl : DvX (RF G v) w (.slice A m c) l) (hm : m ≤ 140737488355328) (hL : L.length ≤ 100000) (hB : B ≤ w.heap.size) (hE : ∀ k, E k → k < w.heap.size) :
    Calls Try.prog 56 #[pR G, .string nm, .slice A m c] w (RA w B G E v (appO d fs nm l)) := by
  have hu : (sumB L : Int) = d.used := by rw [sumB_perm hs.perm, ok.tot]
  have hN : appM r (sumB L) l.length = appN d l.length := by
    unfold appM appN
    rw [hs.size, hu]
  have hR : appR r (sumB L) l.length = if d.armedIn = 1 then appK d l.length else appN d l.length := by
    unfold appR appK
    rw [hN, hs.armed, hs.keep]
  unfold appO
  cases hn : nameD nm
  · rw [if_pos rfl]
    refine (rkAppend_name nm hz hn A m c).mono fun x w' hx => ?_
    obtain ⟨rfl, rfl⟩ := hx
    exact ⟨0, 16, false, r, L, v, P, rfl, .inl ⟨16, rfl, rfl, rfl⟩, fun _ => rfl, hs, h, Ch.refl _ _, fun k hk => .inl hk⟩
  · rw [if_neg (by decide)]
    refine (rkAppend h (hs.ok ok) nm hz hn A m c l hl hm hL (by have := ok.ok.used; omega) hB hE).mono fun x w' hx => ?_
    obtain ⟨L', v', P', hat, he, h', hc, hv⟩ := hx
    have key : ∀ N : Nat, appR r (sumB L) l.length = N → ∀ u : Int, Sim { d.begin with used := u } (layF fs nm (l.take N)) r.begin L' := fun N hNN u => by
      obtain ⟨L1, A0, f, Q0, hwhy, hl1, hno, hl'⟩ := hat
      rw [hNN] at hl'
      subst hl'
      unfold layF
      rcases hwhy with ⟨_, rfl⟩ | ⟨hg, hpt⟩
      · obtain ⟨A1, Q1, hfs, hno1, hg1, hp⟩ := both_split hs.perm ok.names hl1 hno
        rw [hg1, hfs, fput_mid hno1]
        have h5 := hs.srt
        rw [hl1] at h5
        exact hs.begin (perm_mid _ hp) (srt_sub h5) _
      · have hgf : fget fs nm = none := by rw [← hs.get ok]; exact hg
        obtain ⟨hs2, hp2⟩ := srt_put hs.srt (fget_not hg) hpt
        have hff : f = ⟨[], 0⟩ := by
          have h5 : (nm, f) ∈ (nm, (⟨[], 0⟩ : Fl)) :: L := hp2.mem_iff.1 (by rw [hl1]; simp)
          rcases List.mem_cons.1 h5 with h5 | h5
          · injection h5
          · exact absurd rfl (fget_not hg _ h5)
        subst hff
        rw [hl1] at hp2 hs2
        have hp3 : (A0 ++ Q0).Perm fs := ((List.perm_middle.symm.trans hp2).cons_inv).trans hs.perm
        rw [hgf, fput_new _ hgf]
        refine hs.begin ?_ (srt_sub hs2) _
        rw [List.nil_append]
        exact (List.perm_middle.trans (hp3.cons _)).trans (List.perm_append_singleton _ _).symm
    rw [hs.armed] at he
    by_cases ha : d.armedIn = 1
    · rw [if_pos ha] at he hR ⊢
      exact ⟨0, 0, true, r.begin, L', v', P', he, .inr ⟨_, rfl, (by show d.ops + 1 = r.count + 1; rw [hs.count]), rfl⟩, (fun h => by cases h), key _ hR _, h', hc, hv⟩
    · rw [if_neg ha] at he hR ⊢
      rw [hR] at he
      exact ⟨_, _, false, r.begin, L', v', P', he, .inl ⟨_, rfl, rfl, rfl⟩, fun _ => rfl, key _ hR _, h', hc, hv⟩
end
end Go.Proofs.Ythblbmbefhlbjaa
/- Layer 2: a call makes one file more at most. -/
namespace Go.Proofs.Ythblbmbefhlbjaa
open Go.RowKit Go.MapKept

theorem fput_lenL : ∀ (fs : Fs) (n : ByteArray) (v : Fl), (fput fs n v).length ≤ fs.length + 1
  | [], n, v => by simp [fput]
  | (a, u) :: r, n, v => by
    unfold fput
    split
    · simp
    · have := fput_lenL r n v
      simp only [List.length_cons]; omega
theorem opChange_lenL {d d1 d2 : Dk} {fs done : Fs} {x : Int} (h : done.length ≤ fs.length + 1) : (opChange d fs x d1 d2 done).2.2.length ≤ fs.length + 1 := by
  unfold opChange
  split
  · split
    · exact h
    · simp
  · exact h
theorem callD_lenL (d : Dk) (fs : Fs) (kd n k : Int) (a b : ByteArray) (l : List UInt8) : (callD d fs kd n k a b l).2.2.length ≤ fs.length + 1 := by
  unfold callD
  split
  · unfold appO
    split
    · simp
    · split
      · exact fput_lenL _ _ _
      · exact fput_lenL _ _ _
  split
  · show (opTrunc d fs a n).2.2.length ≤ _
    unfold opTrunc
    cases fget fs a with
    | none => simp
    | some f => simp only; split
                · simp
                · exact opChange_lenL (fput_lenL _ _ _)
  split
  · show (opSync d fs a).2.2.length ≤ _
    unfold opSync
    cases fget fs a with
    | none => simp
    | some f => exact opChange_lenL (fput_lenL _ _ _)
  split
  · show (opRename d fs a b).2.2.length ≤ _
    unfold opRename
    cases fget fs a with
    | none => simp
    | some f =>
      simp only
      split
      · simp
      · split
        · exact opChange_lenL (by simp)
        · refine opChange_lenL ?_
          have h1 := (fdel_sub fs b).length_le
          have h2 := (fdel_sub (fdel fs b) a).length_le
          rw [List.length_append]; simp only [List.length_singleton]; omega
  split
  · show (opRemove d fs a).2.2.length ≤ _
    unfold opRemove
    cases fget fs a with
    | none => simp
    | some f => exact opChange_lenL (Nat.le_trans (fdel_sub fs a).length_le (by simp))
  split
  · show (opSetRoom d fs n).2.2.length ≤ _
    unfold opSetRoom; split <;> simp
  split
  · show (opFail d fs n).2.2.length ≤ _
    unfold opFail; split <;> simp
  split
  · show (opArm d fs n k).2.2.length ≤ _
    unfold opArm; split <;> simp
  split
  · show (powFs k fs).length ≤ _
    unfold powFs; simp
  · simp
end Go.Proofs.Ythblbmbefhlbjaa
/- The document's disk beside the program's: a step of it, its Bytes and Safe; where both lie. No condition. -/
namespace Go.Proofs.Ythblbmbefhlbjaa
open Go.RowKit Go.MapKept

/-- one state of the document's disk out of another -/
structure Step (w : World) (B G : Nat) (E : Nat → Prop) (v : Value) (w' : World) (r' : Rk) (L' : Fs) (v' : Value) (P' : List Value) : Prop where
  at_ : RkAt w' B G E r' L' v' P'
  ch : Ch (RF G v) w w'
  own : ∀ k, v'.ownBlock = some k → v.ownBlock = some k ∨ w.heap.size ≤ k
section
variable {w w1 w2 : World} {B G : Nat} {E : Nat → Prop} {r r1 r2 : Rk} {L L1 L2 : Fs} {v v1 v2 : Value} {P P1 P2 : List Value} {d : Dk} {fs : Fs}
theorem Step.trans (h : Step w B G E v w1 r1 L1 v1 P1) (k : Step w1 B G E v1 w2 r2 L2 v2 P2) : Step w B G E v w2 r2 L2 v2 P2 :=
  ⟨k.at_, h.ch.trans k.ch (fun j hj hs => hs.elim .inl (fun hs => (h.own j hs).elim .inr (fun h' => absurd hj (Nat.not_lt.2 h')))), fun j hj => (k.own j hj).elim (fun h' => h.own j h') (fun h' => .inr (Nat.le_trans h.ch.size h'))⟩
theorem Step.below (h : Step w B G E v w1 r1 L1 v1 P1) (hb : Below w1.heap.size w1 w2) : Step w B G E v w2 r1 L1 v1 P1 :=
  ⟨h.at_.below hb, h.ch.trans (Ch.of_below (S := fun _ => False) hb) (fun _ _ h => h.elim), h.own⟩
theorem Step.refl (h : RkAt w B G E r L v P) : Step w B G E v w r L v P := ⟨h, Ch.refl _ _, fun _ hk => .inl hk⟩
theorem RM.step {o : Out} {x : Ending} {w' : World} (h : RM w B G E v o x w') : ∃ e g r' L' v' P', x = ret2 e g ∧ Agree o.1 r' e g ∧ Sim o.2.1 o.2.2 r' L' ∧ Step w B G E v w' r' L' v' P' := by
  obtain ⟨e, g, r', L', v', P', h0, h1, h2, h3, h4, h5⟩ := h
  exact ⟨e, g, r', L', v', P', h0, h1, h2, h3, h4, h5⟩
theorem RA.step {o : OutN} {x : Ending} {w' : World} (h : RA w B G E v o x w') : ∃ n e g r' L' v' P', x = ret3 n e g ∧ Agree o.1.2 r' e g ∧ (g = false → n = o.1.1) ∧ Sim o.2.1 o.2.2 r' L' ∧ Step w B G E v w' r' L' v' P' := by
  obtain ⟨n, e, g, r', L', v', P', h0, h1, h1', h2, h3, h4, h5⟩ := h
  exact ⟨n, e, g, r', L', v', P', h0, h1, h1', h2, h3, h4, h5⟩
theorem RM.mk {o : Out} {e : Int} {g : Bool} {w' : World} (ha : Agree o.1 r1 e g) (hs : Sim o.2.1 o.2.2 r1 L1) (h : Step w B G E v w' r1 L1 v1 P1) : RM w B G E v o (ret2 e g) w' :=
  ⟨e, g, r1, L1, v1, P1, rfl, ha, hs, h.at_, h.ch, h.own⟩
theorem Agree.gone {o : Int ⊕ Int} {e : Int} (h : Agree o r e true) : ∃ op, o = .inr op ∧ op = r.count := by
  rcases h with ⟨_, _, _, h⟩ | ⟨op, h1, h2, _⟩
  · cases h
  · exact ⟨op, h1, h2⟩
theorem Agree.kept {o : Int ⊕ Int} {e : Int} (h : Agree o r e false) : o = .inl e := by
  rcases h with ⟨x, h1, h2, _⟩ | ⟨_, _, _, h⟩
  · rw [h1, h2]
  · cases h
theorem trunc_len (d : Dk) (fs : Fs) (a : ByteArray) (n : Int) : (opTrunc d fs a n).2.2.length ≤ fs.length + 1 := callD_lenL d fs 1 n 0 a a []
theorem app_len (d : Dk) (fs : Fs) (a : ByteArray) (l : List UInt8) : (appO d fs a l).2.2.length ≤ fs.length + 1 := callD_lenL d fs 0 0 0 a a l
theorem sync_len (d : Dk) (fs : Fs) (a : ByteArray) : (opSync d fs a).2.2.length ≤ fs.length + 1 := callD_lenL d fs 2 0 0 a a []
set_option maxHeartbeats 4000000 in
set_option maxRecDepth 100000 in
theorem rkBytes (h : RkAt w B G E r L v P) (nm : ByteArray) (hL : L.length ≤ 100000) :
    Calls Try.prog 59 #[pR G, .string nm] w fun e w' => w = w' ∧ ((fget L nm = none ∧ e = .returned (.tuple #[.slice none 0 0, .bool false])) ∨ ∃ f A m c, fget L nm = some f ∧ e = .returned (.tuple #[.slice A m c, .bool true]) ∧ Bs w A m c f.bs) := by
  have HL := Lib.hid hL
  have H := Lib.hid h
  rcases fs_split L nm with ⟨hg, _, hi⟩ | ⟨A0, f, Q0, rfl, hno, hg, hi⟩
  · have HI := Lib.hid hi
    have HG := Lib.hid hg
    clear h hL hi hg
    go_enter Try.func59, Try.ntmps59
    go_wp2_with (fail)
    refine (rkFind H.out nm (by have := HL.out; omega)).mono ?_
    rw [HI.out]
    rintro e w1 ⟨rfl, rfl⟩
    go_wp2_with (fail)
    refine bodyPost_ret (v := .tuple #[.slice none 0 0, .bool false]) (results_two Try.results59 _ _ _) rfl ?_
    exact ⟨rfl, .inl ⟨HG.out, rfl⟩⟩
  · obtain ⟨g, n1, cv, Pa, A7, m7, c7, Pb, rfl, hn1, hnc, hcm, rfl, hpa, hB7, hdv, c0, x1, x2, fz⟩ := h.mid
    have hin : (A0.length : Int) < (n1 : Int) := by rw [hn1]; simp only [List.length_append, List.length_cons]; omega
    have hnc' : (n1 : Int) ≤ (cv : Int) := by omega
    obtain ⟨i, hii⟩ : ∃ i, i = A0.length := ⟨_, rfl⟩
    rw [← hii] at hi x1 hin
    have hge : ¬ ((i : Int) < 0) := by omega
    have HI := Lib.hid hi
    have HG := Lib.hid hg
    have HB7 := Lib.hid hB7
    clear h hL hi hg hdv hB7 hpa hn1 fz x2 hii hno
    go_enter Try.func59, Try.ntmps59
    go_wp2_with (fail)
    refine (rkFind H.out nm (by have := HL.out; omega)).mono ?_
    rw [HI.out]
    rintro e w1 ⟨rfl, rfl⟩
    go_wp2_with (fail)
    refine bodyPost_ret (v := .tuple #[.slice A7 m7 c7, .bool true]) (results_two Try.results59 _ _ _) rfl ?_
    exact ⟨rfl, .inr ⟨f, A7, m7, c7, HG.out, rfl, HB7.out⟩⟩
end
section
variable {w w' : World} {B C D M G : Nat} {E : Nat → Prop} {r : Rk} {L : Fs} {v : Value} {P : List Value} {d : Dk} {fs : Fs} {F : List Ent}
theorem apart_rk (h : DkAt w B D M d F) (hr : RkAt w C G E r L v P) {k : Nat} (h1 : RF G v k) (h2 : DFoot D M F k) : False := by
  have hk : ∃ cur t f, w.heap[k]? = some (.cells cur t f) ∧ (t = TRD ∨ t = TRF) := by
    rcases h1 with rfl | h1
    · exact ⟨_, _, _, hr.row, .inl rfl⟩
    · obtain ⟨cur, hc⟩ := own3_ty hr.own k h1
      exact ⟨_, _, _, hc, .inr rfl⟩
  obtain ⟨cur, t, f, hc, ht⟩ := hk
  rcases h2 with rfl | rfl | ⟨e, he, rfl | h2⟩
  · rw [h.row] at hc
    simp only [Option.some.injEq, Obj.cells.injEq] at hc
    rcases ht with rfl | rfl
    · exact absurd hc.2.1 (by decide)
    · exact absurd hc.2.1 (by decide)
  · exact h.map.ne hc rfl
  · rw [(h.files e he).row] at hc
    simp only [Option.some.injEq, Obj.cells.injEq] at hc
    rcases ht with rfl | rfl
    · exact absurd hc.2.1 (by decide)
    · exact absurd hc.2.1 (by decide)
  · obtain ⟨cur', hc'⟩ := own3_ty (s := 1) (show w.ownsRow B 5 1 e.v e.f.bs.length (u8s e.f.bs) from (h.files e he).own) k h2
    rw [hc'] at hc
    simp only [Option.some.injEq, Obj.cells.injEq] at hc
    rcases ht with rfl | rfl
    · exact absurd hc.2.1 (by decide)
    · exact absurd hc.2.1 (by decide)
/-- the document's disk, over what the program's disk does -/
theorem RkAt.over {F' : List Ent} (h : DkAt w B D M d F) (hr : RkAt w C G (DFoot D M F) r L v P) (c : DkCh D M F F' w w') : RkAt w' C G (DFoot D M F') r L v P :=
  hr.next c.ch (fun _ hk => hk) (fun hk => apart_rk h hr (.inl rfl) hk) (fun k hv hk => apart_rk h hr (.inr hv) hk) (fun k hk hf => by
    rcases hf with hf | hf | hf
    · exact .inl hf
    · exact .inr (.inl hf)
    · rcases c.foot k hf with hf | hf
      · exact .inr (.inr hf)
      · omega)
theorem RkAt.fresh (w : World) (n : Int) (hC : C ≤ w.heap.size) : RkAt (w.alloc (.cells #[.slice none 0 0, .int .i64 n, .int .i64 0, .int .i64 0, .int .i64 0, .int .i64 0] TRD)) C w.heap.size E ⟨n, 0, 0, 0, 0⟩ [] (.slice none 0 0) [] :=
  ⟨hC, heap_alloc_new w _, rfl, World.ownsRow_nil _ _ _ 3, fun i e d h => by simp at h⟩
end
/-- a block of another type is none of the program's disk's -/
theorem apart_ty {w : World} {B D M X : Nat} {d : Dk} {F : List Ent} {cur : Array Value} {t : TypeId} {fz : Nat × Nat} (h : DkAt w B D M d F) (hx : w.heap[X]? = some (.cells cur t fz)) (h1 : t ≠ 85) (h2 : t ≠ 91) (h3 : t ≠ 5) : ¬ DFoot D M F X := by
  intro hk
  rcases hk with rfl | rfl | ⟨e, he, rfl | hk⟩
  · rw [h.row] at hx
    simp only [Option.some.injEq, Obj.cells.injEq] at hx
    exact h1 hx.2.1.symm
  · exact h.map.ne hx rfl
  · rw [(h.files e he).row] at hx
    simp only [Option.some.injEq, Obj.cells.injEq] at hx
    exact h2 hx.2.1.symm
  · obtain ⟨cur', hc'⟩ := own3_ty (s := 1) (show w.ownsRow B 5 1 e.v e.f.bs.length (u8s e.f.bs) from (h.files e he).own) X hk
    rw [hc'] at hx
    simp only [Option.some.injEq, Obj.cells.injEq] at hx
    exact h3 hx.2.1.symm
theorem apart_tyR {w : World} {B G X : Nat} {E : Nat → Prop} {r : Rk} {L : Fs} {v : Value} {P : List Value} {cur : Array Value} {t : TypeId} {fz : Nat × Nat} (hr : RkAt w B G E r L v P) (hx : w.heap[X]? = some (.cells cur t fz)) (h1 : t ≠ TRD) (h2 : t ≠ TRF) : ¬ RF G v X := by
  intro hk
  rcases hk with rfl | hk
  · rw [hr.row] at hx
    simp only [Option.some.injEq, Obj.cells.injEq] at hx
    exact h1 hx.2.1.symm
  · obtain ⟨cur', hc'⟩ := own3_ty hr.own X hk
    rw [hc'] at hx
    simp only [Option.some.injEq, Obj.cells.injEq] at hx
    exact h2 hx.2.1.symm
theorem powF_eq {kp : Int} {f : Fl} (h : f.safe ≤ f.bs.length) : powF kp f = powFl kp f := by
  have : f.safe + powK kp f = powN kp f := by unfold powK powN; omega
  unfold powF powFl
  rw [this]
theorem Sim.power {d : Dk} {fs : Fs} {r : Rk} {L : Fs} (h : Sim d fs r L) (ok : FsOk d fs) (kp u : Int) : Sim { d with used := u, failIn := 0, armedIn := 0 } (powFs kp fs) r.power (powL kp L) := by
  have h1 : powL kp L = L.map fun e => (e.1, powFl kp e.2) := List.map_congr_left (fun e he => by rw [powF_eq (ok.safe e (h.perm.mem_iff.1 he))])
  refine ⟨h.size, h.count, rfl, h.keep, rfl, ?_, ?_⟩
  · rw [h1]; exact h.perm.map _
  · unfold Srt powL; rw [List.pairwise_map]; exact h.srt
section
variable {w : World} {B G : Nat} {E : Nat → Prop} {r : Rk} {L : Fs} {v : Value} {P : List Value}
def safeOf (fs : Fs) (n : ByteArray) : Int := match fget fs n with | some f => (f.safe : Int) | none => 0
set_option maxHeartbeats 4000000 in
set_option maxRecDepth 100000 in
theorem rkSafe (h : RkAt w B G E r L v P) (nm : ByteArray) (hL : L.length ≤ 100000) :
    Calls Try.prog 60 #[pR G, .string nm] w fun e w' => e = .returned (.int .i64 (safeOf L nm)) ∧ w = w' := by
  have HL := Lib.hid hL
  have H := Lib.hid h
  rcases fs_split L nm with ⟨hg, _, hi⟩ | ⟨A0, f, Q0, rfl, hno, hg, hi⟩
  · have HI := Lib.hid hi
    have HG : Hid (safeOf L nm = 0) := Lib.hid (by unfold safeOf; rw [hg])
    clear h hL hi hg
    go_enter Try.func60, Try.ntmps60
    go_wp2_with (fail)
    refine (rkFind H.out nm (by have := HL.out; omega)).mono ?_
    rw [HI.out]
    rintro e w1 ⟨rfl, rfl⟩
    go_wp2_with (fail)
    go_ret
    exact ⟨by rw [HG.out]; rfl, rfl⟩
  · obtain ⟨g, n1, cv, Pa, A7, m7, c7, Pb, rfl, hn1, hnc, hcm, rfl, hpa, hB7, hdv, c0, x1, x2, fz⟩ := h.mid
    have hin : (A0.length : Int) < (n1 : Int) := by rw [hn1]; simp only [List.length_append, List.length_cons]; omega
    have hnc' : (n1 : Int) ≤ (cv : Int) := by omega
    obtain ⟨i, hii⟩ : ∃ i, i = A0.length := ⟨_, rfl⟩
    rw [← hii] at hi x2 hin
    have hge : ¬ ((i : Int) < 0) := by omega
    have HI := Lib.hid hi
    have HG : Hid (safeOf (A0 ++ (nm, f) :: Q0) nm = (f.safe : Int)) := Lib.hid (by unfold safeOf; rw [hg])
    clear h hL hi hg hdv hB7 hpa hn1 fz x1 hii hno
    go_enter Try.func60, Try.ntmps60
    go_wp2_with (fail)
    refine (rkFind H.out nm (by have := HL.out; omega)).mono ?_
    rw [HI.out]
    rintro e w1 ⟨rfl, rfl⟩
    go_wp2_with (fail)
    go_ret
    exact ⟨by rw [HG.out]; rfl, rfl⟩
end
end Go.Proofs.Ythblbmbefhlbjaa
/- Layer 14: the document's log, walked: Open, back, Add. -/
namespace Go.Proofs.Ythblbmbefhlbjaa
open Go.RowKit Go.MapKept

abbrev TR14 : TypeId := 99
abbrev pH (H : Nat) : Value := .pointer (some ⟨H, 0, none⟩)
abbrev rlCells (G : Nat) (nm : ByteArray) (v : Value) (g : Nat) : Array Value := #[pR G, .string nm, v, .int .i64 (g : Int)]
/-- the blocks of the document's log -/
abbrev RL (H : Nat) (v : Value) : Nat → Prop := fun k => k = H ∨ v.ownBlock = some k
/-- the document's log at block H, beside the blocks T -/
structure RlAt (T : Nat → Prop) (w : World) (B H G : Nat) (nm : ByteArray) (rs : List (List UInt8)) (g : Nat) (v : Value) : Prop where
  row : w.heap[H]? = some (.cells (rlCells G nm v g) TR14)
  base : B ≤ H
  off : ¬ T H
  rw : Rw B (fun k => k = H ∨ T k) w v rs
section
variable {T T' S O E : Nat → Prop} {w w' : World} {B H G g : Nat} {nm : ByteArray} {rs : List (List UInt8)} {v vh : Value} {r : Rk} {L : Fs} {P : List Value} {d : Dk} {fs : Fs}
theorem RlAt.lt (h : RlAt T w B H G nm rs g v) : H < w.heap.size := (Array.getElem?_eq_some_iff.1 h.row).1
theorem RlAt.cell (h : RlAt T w B H G nm rs g v) (j : Nat) : w.cell? ⟨H, j, none⟩ = (rlCells G nm v g)[j]? := cell_of_row w H j _ _ _ h.row
theorem RlAt.frozen (h : RlAt T w B H G nm rs g v) (j : Nat) : w.frozen? ⟨H, j, none⟩ = false := by simp [World.frozen?, h.row]
theorem RlAt.ch (h : RlAt T w B H G nm rs g v) (c : Ch S w w') (hS : ∀ k, k < w.heap.size → S k → T k) (hT : ∀ k, k < w.heap.size → T' k → T k) : RlAt T' w' B H G nm rs g v :=
  ⟨c.row h.row (fun hs => h.off (hS H h.lt hs)), h.base, fun ht => h.off (hT H h.lt ht), h.rw.ch c (fun k hk hs => .inr (hS k hk hs)) (fun k hk ht => ht.imp id (hT k hk))⟩
theorem RlAt.below (h : RlAt T w B H G nm rs g v) (hb : Below w.heap.size w w') : RlAt T w' B H G nm rs g v :=
  h.ch (S := fun _ => False) (Ch.of_below hb) (fun _ _ h => h.elim) (fun _ _ h => h)
theorem RlAt.foot_lt (h : RlAt T w B H G nm rs g v) {k : Nat} (hk : RL H v k) : B ≤ k ∧ k < w.heap.size := by
  rcases hk with rfl | hk
  · exact ⟨h.base, h.lt⟩
  · exact Rw.lt h.rw hk
theorem RlAt.notT (h : RlAt T w B H G nm rs g v) {k : Nat} (hk : RL H v k) : ¬ T k := by
  rcases hk with rfl | hk
  · exact h.off
  · exact fun ht => Rw.offT h.rw hk (.inr ht)
theorem RlAt.vne (h : RlAt T w B H G nm rs g v) {k : Nat} (hk : v.ownBlock = some k) : k ≠ H := fun e => Rw.offT h.rw hk (.inl e)
/-- the document's disk's blocks are none of its log's -/
theorem RkAt.next' (h : RkAt w B G E r L v P) (c : Ch S w w') (hS : ∀ k, k < w.heap.size → S k → E k) (hG : ∀ k, RF G v k → ¬ S k) (hE : ∀ k, k < w.heap.size → T k → E k) : RkAt w' B G T r L v P :=
  ⟨h.hG, c.row h.row (hG G (.inl rfl)), h.len, own3_ch h.own c (fun k hk => hG k (.inr hk)), fun i e d h1 h2 => by
    obtain ⟨A, m, q, rfl, hB, hx⟩ := h.dat i e d h1 h2
    refine ⟨A, m, q, rfl, hB.ch c (fun h0 b hb hs => ?_), fun a ha => ?_⟩
    · obtain ⟨b', o', e', hlt, _⟩ := hB.at_ h0
      rw [hb] at e'; injection e' with e'; subst e'
      exact (hx _ hb).resolve_left (by omega) (.inr (hS _ hlt hs))
    · by_cases h0 : m = 0
      · exact .inl h0
      · obtain ⟨b', o', e', hlt, _⟩ := hB.at_ (by omega)
        rw [ha] at e'; injection e' with e'; subst e'
        exact .inr (fun hy => (hx _ ha).resolve_left h0 (hy.imp id (hE _ hlt)))⟩

/-- how the document's back ends -/
def RBack (w : World) (B G : Nat) (E : Nat → Prop) (v : Value) (o : Out) (x : Ending) (w' : World) : Prop :=
  ∃ e gn r' L' v' P', x = .returned (.bool gn) ∧ Agree o.1 r' e gn ∧ Sim o.2.1 o.2.2 r' L' ∧ Step w B G E v w' r' L' v' P'
set_option maxRecDepth 100000 in
set_option maxHeartbeats 4000000 in
theorem refBack14 (hl : RlAt T w B H G nm rs g vh) (hr : RkAt w B G E r L v P) (hs : Sim d fs r L) (ok : FsOk d fs) (hL : L.length ≤ 100000) (hE : ∀ k, E k → k < w.heap.size) :
    Calls Try.prog 57 #[pH H] w (RBack w B G E v (opTrunc d fs nm (g : Int))) := by
  obtain ⟨S, hSd⟩ : ∃ S : World → Prop, ∀ W, S W ↔ (W.cell? ⟨H, 0, none⟩ = some (pR G) ∧ W.cell? ⟨H, 1, none⟩ = some (.string nm) ∧ W.cell? ⟨H, 3, none⟩ = some (.int .i64 (g : Int))) := ⟨_, fun _ => Iff.rfl⟩
  have c0 : ∀ n : Meets S, n.u.cell? ⟨H, 0, none⟩ = some (pR G) := fun n => ((hSd _).1 n.h).1
  have c1 : ∀ n : Meets S, n.u.cell? ⟨H, 1, none⟩ = some (.string nm) := fun n => ((hSd _).1 n.h).2.1
  have c3 : ∀ n : Meets S, n.u.cell? ⟨H, 3, none⟩ = some (.int .i64 (g : Int)) := fun n => ((hSd _).1 n.h).2.2
  have HT : Hid (∀ W, Below w.heap.size w W → Calls Try.prog 74 #[pR G, .string nm, .int .i64 (g : Int)] W (RM W B G E v (opTrunc d fs nm (g : Int)))) := Lib.hid (fun W hb => rkTrunc (hr.below hb) hs ok nm g hL (fun k hk => Nat.lt_of_lt_of_le (hE k hk) hb.size))
  have HS := Lib.hid hSd
  have HL := Lib.hid hl
  have HR := Lib.hid hr
  clear hl hr hs ok hL hE hSd
  go_enter Try.func57, Try.ntmps57
  go_wp2_with (fail)
  refine region_plan S [([0, 1, 2, 3, 4, 5, 6, 7, 8, 9, 10, 11], 12)] [13, 14, 15, 16, 17] (by kernel_rfl) (by kernel_rfl) (fun _ _ _ _ _ h => h) ((HS.out _).2 ⟨HL.out.cell 0, HL.out.cell 1, HL.out.cell 3⟩) (fun hne => ?_)
  simp only [wpPlan, pick, List.getElem?_cons_zero, List.getElem?_cons_succ, Option.elim]
  repeat (go_big_quiet_step (fail))
  refine wpQuiet_nil ?_
  intro K hK
  go_simp
  refine (HT.out _ (Below.refl _ _).drew).mono ?_
  intro x w2 hx
  obtain ⟨e, gn, r', L', v', P', rfl, ha, hs2, hst⟩ := hx.step
  have hrow : w2.heap[H]? = some (.cells (rlCells G nm vh g) TR14) := hst.ch.row (w := w.drew) HL.out.row (apart_tyR HR.out HL.out.row (by decide) (by decide))
  have HF : Hid (RBack w B G E v (opTrunc d fs nm (g : Int)) (.returned (.bool gn)) w2) := Lib.hid ⟨e, gn, r', L', v', P', rfl, ha, hs2, (Step.refl HR.out).below (Below.refl _ _).drew |>.trans hst⟩
  clear hx ha hs2 hst
  dsimp only
  refine hK.out _ _ ((HS.out _).2 ⟨cell_of_row w2 H 0 _ _ _ hrow, cell_of_row w2 H 1 _ _ _ hrow, cell_of_row w2 H 3 _ _ _ hrow⟩) (fun _ => ?_)
  clear hK K
  repeat (go_big_quiet_step (fail))
  refine wpQuiet_nil ?_
  clear c0 c1 c3
  go_wp2_with (fail)
  go_ret
  exact HF.out

/-- how the document's Add ends -/
def RAdd (O : Nat → Prop) (w : World) (B H G : Nat) (nm : ByteArray) (rs : List (List UInt8)) (g : Nat) (v vh : Value) (l : List UInt8) (o : Out) (x : Ending) (w' : World) : Prop :=
  ∃ e gn r' L' v' P' vh', x = ret2 e gn ∧ Agree o.1 r' e gn ∧ Sim o.2.1 o.2.2 r' L' ∧ RkAt w' B G (fun k => O k ∨ RL H vh' k) r' L' v' P' ∧
    RlAt (fun k => O k ∨ RF G v' k) w' B H G nm (if o.1 = .inl 0 then rs ++ [l] else rs) (if o.1 = .inl 0 then g + (record l).length else g) vh' ∧
    Ch (fun k => RF G v k ∨ RL H vh k) w w' ∧ (∀ k, RF G v' k ∨ RL H vh' k → (RF G v k ∨ RL H vh k) ∨ w.heap.size ≤ k)
/-- the document's disk took a step -/
theorem RlAt.step {w2 : World} {r2 : Rk} {L2 : Fs} {v2 : Value} {P2 : List Value} (hl : RlAt (fun k => O k ∨ RF G v k) w B H G nm rs g vh) (h : Step w B G E v w2 r2 L2 v2 P2) : RlAt (fun k => O k ∨ RF G v2 k) w2 B H G nm rs g vh :=
  hl.ch h.ch (fun _ _ hk => .inr hk) (fun k hk ht => ht.imp id (fun h1 => by
    rcases h1 with rfl | h1
    · exact .inl rfl
    · exact (h.own k h1).elim .inr (fun h2 => absurd hk (Nat.not_lt.2 h2))))

theorem RAdd.same {w' : World} {o : Out} {e : Int} {gn : Bool} {r' : Rk} {L' : Fs} {v' : Value} {P' : List Value} {l : List UInt8} (h : Step w B G (fun k => O k ∨ RL H vh k) v w' r' L' v' P') (hl : RlAt (fun k => O k ∨ RF G v' k) w' B H G nm rs g vh) (ha : Agree o.1 r' e gn) (hs : Sim o.2.1 o.2.2 r' L') (hne : o.1 ≠ .inl 0) :
    RAdd O w B H G nm rs g v vh l o (ret2 e gn) w' :=
  ⟨e, gn, r', L', v', P', vh, rfl, ha, hs, h.at_, by rw [if_neg hne, if_neg hne]; exact hl, h.ch.wide (fun _ hk => .inl hk), fun k hk => by
    rcases hk with (rfl | hk) | hk
    · exact .inl (.inl (.inl rfl))
    · exact (h.own k hk).elim (fun h1 => .inl (.inl (.inr h1))) .inr
    · exact .inl (.inr hk)⟩
theorem Agree.undo {o : Out} {x e : Int} {gn : Bool} (ha : Agree o.1 r e gn) : Agree (undo_ x o).1 r x gn := by
  obtain ⟨y | op, s⟩ := o
  · rcases ha with ⟨_, _, _, h3⟩ | ⟨_, h1, _, _⟩
    · exact .inl ⟨x, rfl, rfl, h3⟩
    · cases h1
  · rcases ha with ⟨_, h1, _, _⟩ | ⟨op', h1, h2, h3⟩
    · cases h1
    · exact .inr ⟨op', h1, h2, h3⟩
theorem RAdd.undo {w2 w3 : World} {r2 : Rk} {L2 : Fs} {v2 : Value} {P2 : List Value} {o : Out} {x : Int} {y : Ending} {l : List UInt8} (hx : x ≠ 0) (h : Step w B G (fun k => O k ∨ RL H vh k) v w2 r2 L2 v2 P2) (hl : RlAt (fun k => O k ∨ RF G v2 k) w2 B H G nm rs g vh) (hb : RBack w2 B G (fun k => O k ∨ RL H vh k) v2 o y w3) :
    ∃ gn, y = .returned (.bool gn) ∧ RAdd O w B H G nm rs g v vh l (undo_ x o) (ret2 x gn) w3 := by
  obtain ⟨e, gn, r', L', v', P', rfl, ha, hs, hst⟩ := hb
  refine ⟨gn, rfl, RAdd.same (h.trans hst) (hl.step hst) ha.undo (by obtain ⟨y | op, s⟩ := o <;> exact hs) (fun e => ?_)⟩
  obtain ⟨y | op, s⟩ := o
  · injection e with e; exact hx e
  · cases e

/-- both of the document's, behind changes of its log's blocks -/
structure Both (O : Nat → Prop) (w : World) (B H G : Nat) (nm : ByteArray) (v vh : Value) (w' : World) (r' : Rk) (L' : Fs) (v' : Value) (P' : List Value) (rs : List (List UInt8)) (g : Nat) (vh' : Value) : Prop where
  rk : RkAt w' B G (fun k => O k ∨ RL H vh' k) r' L' v' P'
  rl : RlAt (fun k => O k ∨ RF G v' k) w' B H G nm rs g vh'
  ch : Ch (fun k => RF G v k ∨ RL H vh k) w w'
  own : ∀ k, RF G v' k ∨ RL H vh' k → (RF G v k ∨ RL H vh k) ∨ w.heap.size ≤ k
theorem Both.of {w' : World} {r' : Rk} {L' : Fs} {v' : Value} {P' : List Value} (h : Step w B G (fun k => O k ∨ RL H vh k) v w' r' L' v' P') (hl : RlAt (fun k => O k ∨ RF G v' k) w' B H G nm rs g vh) : Both O w B H G nm v vh w' r' L' v' P' rs g vh :=
  ⟨h.at_, hl, h.ch.wide (fun _ hk => .inl hk), fun k hk => by
    rcases hk with (rfl | hk) | hk
    · exact .inl (.inl (.inl rfl))
    · exact (h.own k hk).elim (fun h1 => .inl (.inl (.inr h1))) .inr
    · exact .inl (.inr hk)⟩
theorem Both.below {w' w2 : World} {r' : Rk} {L' : Fs} {v' vh' : Value} {P' : List Value} (h : Both O w B H G nm v vh w' r' L' v' P' rs g vh') (hb : Below w'.heap.size w' w2) : Both O w B H G nm v vh w2 r' L' v' P' rs g vh' :=
  ⟨h.rk.below hb, h.rl.below hb, h.ch.trans (Ch.of_below (S := fun _ => False) hb) (fun _ _ h => h.elim), h.own⟩
/-- the row of records in another place -/
theorem Both.app {w' w8 : World} {r' : Rk} {L' : Fs} {v' vh' v8 : Value} {P' : List Value} {Z : List (List UInt8)} (h : Both O w B H G nm v vh w' r' L' v' P' rs g vh') (hw : Rw B (fun k => k = H ∨ (O k ∨ RF G v' k)) w8 v8 Z) (hc : Ch (fun k => vh'.ownBlock = some k) w' w8) (hf : v8.ownBlock = vh'.ownBlock ∨ v8.ownBlock = some w'.heap.size) :
    Both O w B H G nm v vh (w8.setCell ⟨H, 2, none⟩ v8) r' L' v' P' Z g v8 := by
  have hr8 := hc.row h.rl.row (fun e => h.rl.vne e rfl)
  have hcs : Ch (At1 H) w8 (w8.setCell ⟨H, 2, none⟩ v8) := (Ch.refl _ w8).set1 2 _
  have hall : Ch (fun k => RL H vh' k) w' (w8.setCell ⟨H, 2, none⟩ v8) := (hc.wide (fun _ hk => .inr hk)).trans hcs (fun k _ hk => .inl hk)
  have hnew : ∀ k, RL H v8 k → RL H vh' k ∨ w'.heap.size ≤ k := fun k hk => by
    rcases hk with rfl | hk
    · exact .inl (.inl rfl)
    · rcases hf with e | e
      · exact .inl (.inr (by rw [← e]; exact hk))
      · rw [e] at hk; injection hk with hk; exact .inr (by omega)
  refine ⟨h.rk.next' hall (fun _ _ hk => .inr hk) (fun k hk hs => h.rl.notT hs (.inr hk)) (fun k hk ht => ht.imp id (fun h1 => (hnew k h1).elim id (fun h2 => by omega))), ⟨heap_set_row hr8 v8, h.rl.base, h.rl.off, hw.ch hcs (fun k _ hk => .inl hk) (fun _ _ hk => hk)⟩, h.ch.trans hall (fun k hk hs => ?_), fun k hk => ?_⟩
  · rcases h.own k (.inr hs) with h1 | h1
    · exact h1
    · omega
  · rcases hk with hk | hk
    · exact h.own k (.inl hk)
    · rcases hnew k hk with h1 | h1
      · exact h.own k (.inr h1)
      · exact .inr (Nat.le_trans h.ch.size h1)
theorem Both.good {w' : World} {r' : Rk} {L' : Fs} {v' vh' : Value} {P' : List Value} (h : Both O w B H G nm v vh w' r' L' v' P' rs g vh') (k : Nat) : Both O w B H G nm v vh (w'.setCell ⟨H, 3, none⟩ (.int .i64 (k : Int))) r' L' v' P' rs k vh' := by
  have hcs : Ch (At1 H) w' (w'.setCell ⟨H, 3, none⟩ (.int .i64 (k : Int))) := (Ch.refl _ w').set1 3 _
  refine ⟨h.rk.next' (hcs.wide (S' := fun k => RL H vh' k) (fun _ hk => .inl hk)) (fun _ _ hk => .inr hk) (fun k hk hs => h.rl.notT hs (.inr hk)) (fun _ _ ht => ht), ⟨heap_set_row h.rl.row _, h.rl.base, h.rl.off, h.rl.rw.ch hcs (fun k _ hk => .inl hk) (fun _ _ hk => hk)⟩, h.ch.trans (hcs.wide (S' := fun k => RL H vh' k) (fun _ hk => .inl hk)) (fun k hk hs => ?_), h.own⟩
  rcases h.own k (.inr hs) with h1 | h1
  · exact h1
  · omega
set_option maxRecDepth 100000 in
set_option maxHeartbeats 8000000 in
theorem refAdd14 (hl : RlAt (fun k => O k ∨ RF G v k) w B H G nm rs g vh) (hr : RkAt w B G (fun k => O k ∨ RL H vh k) r L v P) (hs : Sim d fs r L) (ok : FsOk d fs) (ho : d.ops + 8 ≤ 1152921504606846976) (hL : L.length ≤ 10000) (hE : ∀ k, O k → k < w.heap.size) (hB : B ≤ w.heap.size) (hz : nm.size ≤ 140737488355328)
    (A : Option Addr) (c : Nat) (l : List UInt8) (hA : Bs w A l.length c l) (hoff : 0 < l.length → ∀ b, A = some b → ¬ RF G v b.block ∧ ¬ RL H vh b.block) (hg : g ≤ 1099511000000) (hn : rs.length ≤ 1099511627770) :
    Calls Try.prog 36 #[pH H, .slice A l.length c] w (RAdd O w B H G nm rs g v vh l (addD d fs nm g l)) := by
  obtain ⟨S, hSd⟩ : ∃ S : World → Prop, ∀ W, S W ↔ (W.cell? ⟨H, 0, none⟩ = some (pR G) ∧ W.cell? ⟨H, 1, none⟩ = some (.string nm)) := ⟨_, fun _ => Iff.rfl⟩
  have c0 : ∀ n : Meets S, n.u.cell? ⟨H, 0, none⟩ = some (pR G) := fun n => ((hSd _).1 n.h).1
  have c1 : ∀ n : Meets S, n.u.cell? ⟨H, 1, none⟩ = some (.string nm) := fun n => ((hSd _).1 n.h).2
  have HS := Lib.hid hSd
  have HL := Lib.hid hl
  have HR := Lib.hid hr
  have HSI := Lib.hid hs
  have HOK := Lib.hid ok
  have HO := Lib.hid ho
  have HLL := Lib.hid hL
  have HA := Lib.hid hA
  have HOFF := Lib.hid hoff
  have HG := Lib.hid hg
  have HN := Lib.hid hn
  have HE := Lib.hid hE
  have HB := Lib.hid hB
  have HHL := Lib.hid hl.lt
  clear hl hr hs ok ho hL hA hoff hg hn hE hB hSd
  by_cases hk : okLen l.length = false
  · have hbad : l.length < 1 ∨ 65536 < l.length := by
      by_cases h1 : l.length < 1
      · exact .inl h1
      · refine .inr ?_
        by_cases h2 : 65536 < l.length
        · exact h2
        · exact absurd hk (by simp [okLen]; omega)
    have HAD : Hid (addD d fs nm g l = (.inl 9, d, fs)) := Lib.hid (if_neg (by rw [hk]; decide))
    have HF : Hid (RAdd O w B H G nm rs g v vh l (addD d fs nm g l) (ret2 9 false) w) := Lib.hid (by
      rw [HAD.out]
      exact ⟨9, false, r, L, v, P, vh, rfl, .inl ⟨9, rfl, rfl, rfl⟩, HSI.out, HR.out, by rw [if_neg (by intro e; injection e with e; exact absurd e (by decide)), if_neg (by intro e; injection e with e; exact absurd e (by decide))]; exact HL.out, Ch.refl _ _, fun k hk => .inl hk⟩)
    obtain ⟨n, hn⟩ : ∃ n, n = l.length := ⟨_, rfl⟩
    rw [← hn] at hbad ⊢
    clear hn hk c0 c1
    rcases hbad with h1 | h1
    · go_enter Try.func36, Try.ntmps36
      go_wp2_with (fail)
      refine bodyPost_ret (v := .tuple #[.int .i64 9, .bool false]) (results_two Try.results36 _ _ _) rfl ?_
      exact HF.out
    · have h0 : ¬ n < 1 := by omega
      go_enter Try.func36, Try.ntmps36
      go_wp2_with (fail)
      refine bodyPost_ret (v := .tuple #[.int .i64 9, .bool false]) (results_two Try.results36 _ _ _) rfl ?_
      exact HF.out
  have hk : okLen l.length = true := by simpa using hk
  have hlen := okLen_yes hk
  have HM : Hid (l.length ≤ 1000000) := Lib.hid (by omega)
  obtain ⟨n, hn⟩ : ∃ n, n = l.length := ⟨_, rfl⟩
  have HNL := Lib.hid hn
  rw [← hn] at hlen HA HM HOFF ⊢
  have h1 : ¬ n < 1 := by omega
  have h2 : ¬ 65536 < n := by omega
  have HAD : Hid (addD d fs nm g l = addA nm g (record l).length (appO d fs nm (record l))) := Lib.hid (if_pos hk)
  obtain ⟨R, hR⟩ : ∃ R, R = record l := ⟨_, rfl⟩
  have HRR := Lib.hid hR
  have HRL : Hid (R.length ≤ 65544) := Lib.hid (by rw [hR, record_length, ← hn]; omega)
  clear hk hn hR hlen
  go_enter Try.func36, Try.ntmps36
  go_wp2_with (fail)
  refine (refPut13F A n c l w HA.out (by have := HM.out; omega)).mono ?_
  rw [← HRR.out] at HAD ⊢
  rintro e w1 ⟨A1, c1', rfl, hB1, hb1, hf1⟩
  have HB1 := Lib.hid hb1
  have HBS1 := Lib.hid hB1
  have HF1 := Lib.hid hf1
  clear hb1 hB1 hf1
  obtain ⟨m, hm⟩ : ∃ m, m = R.length := ⟨_, rfl⟩
  have HMM := Lib.hid hm
  rw [← hm] at HRL HBS1 HAD ⊢
  clear hm
  go_wp2_with (fail)
  refine region_plan S [([0, 1, 2, 3, 4, 5, 6, 7, 8], 9)] [10, 11, 12, 13, 14, 15, 16] (by kernel_rfl) (by kernel_rfl) (fun _ _ _ _ _ h => h) ((HS.out _).2 ⟨(HL.out.below HB1.out).cell 0, (HL.out.below HB1.out).cell 1⟩) (fun hne => ?_)
  simp only [wpPlan, pick, List.getElem?_cons_zero, List.getElem?_cons_succ, Option.elim]
  repeat (go_big_quiet_step (fail))
  refine wpQuiet_nil ?_
  intro K hK
  go_simp
  have HRA : Hid (Calls Try.prog 56 #[pR G, .string nm, .slice A1 m c1'] w1.drew (RA w1.drew B G (fun k => O k ∨ RL H vh k) v (appO d fs nm R))) := Lib.hid (by
    have hb1 := HB1.out.trans ((Below.refl _ w1).drew.mono HB1.out.size)
    refine rkApp (HR.out.below hb1) HSI.out HOK.out nm hz A1 m c1' R ⟨A1, m, c1', rfl, HBS1.out.below (Below.refl _ w1).drew, fun a ha => .inr (fun hk => ?_)⟩ (by have := HRL.out; omega) (by have := HLL.out; omega) (Nat.le_trans HB.out hb1.size) (fun k hk => ?_)
    · have h1 := HF1.out a ha
      have h2 := (HR.out.foot_lt hk).2
      omega
    · refine Nat.lt_of_lt_of_le ?_ hb1.size
      rcases hk with hk | hk
      · exact HE.out k hk
      · exact (HL.out.foot_lt hk).2)
  refine HRA.out.mono ?_
  intro x w2 hx
  have hb0 : Below w.heap.size w w1.drew := HB1.out.trans ((Below.refl _ w1).drew.mono HB1.out.size)
  obtain ⟨e2, gn, r2, L2, v2, P2, hst, rest⟩ : ∃ e2 gn r2 L2 v2 P2, Step w B G (fun k => O k ∨ RL H vh k) v w2 r2 L2 v2 P2 ∧ ∃ n2, x = ret3 n2 e2 gn ∧ Agree (appO d fs nm R).1.2 r2 e2 gn ∧ (gn = false → n2 = (appO d fs nm R).1.1) ∧ Sim (appO d fs nm R).2.1 (appO d fs nm R).2.2 r2 L2 := by
    obtain ⟨n2, e2, gn, r2, L2, v2, P2, hx, h1, h2, h3, h4⟩ := hx.step
    exact ⟨e2, gn, r2, L2, v2, P2, ((Step.refl HR.out).below hb0).trans h4, n2, hx, h1, h2, h3⟩
  obtain ⟨n2, rfl, hag, hn2, hs2⟩ := rest
  have HL2 := Lib.hid (HL.out.step hst)
  have HAO := Lib.hid (app_okW HOK.out (by have := HO.out; omega) nm R)
  have HAP := Lib.hid (app_opsW d fs nm R)
  have HAN := Lib.hid (app_numW d fs nm R)
  have HAL := Lib.hid (app_len d fs nm R)
  have HST2 := Lib.hid hst
  have HS2 := Lib.hid hs2
  have HAG := Lib.hid hag
  have HN2 := Lib.hid hn2
  clear hst hag hn2 hs2 hx HRA hb0
  dsimp only
  refine hK.out _ _ ((HS.out _).2 ⟨HL2.out.cell 0, HL2.out.cell 1⟩) (fun _ => ?_)
  clear hK K
  repeat (go_big_quiet_step (fail))
  refine wpQuiet_nil ?_
  clear hne
  generalize appO d fs nm R = q at *
  obtain ⟨⟨nq, y | op⟩, d2, fs2⟩ := q
  · obtain rfl : gn = false := by
      rcases HAG.out with ⟨_, _, _, h3⟩ | ⟨_, h1, _, _⟩
      · exact h3
      · cases h1
    obtain ⟨k, rfl⟩ : ∃ k : Nat, nq = (k : Int) := HAN.out
    obtain rfl : n2 = (k : Int) := HN2.out rfl
    have OK2 : Hid (FsOk d2 fs2) := Lib.hid HAO.out
    have HP2 : Hid (d2.ops ≤ d.ops + 1) := Lib.hid HAP.out
    have HS3 : Hid (Sim d2 fs2 r2 L2) := Lib.hid HS2.out
    have HLF : Hid (L2.length ≤ 10001) := Lib.hid (by have h1 := HS3.out.perm.length_eq; have h2 := HAL.out; have h3 := HSI.out.perm.length_eq; have h4 := HLL.out; simp only at h2; omega)
    have HAE : Hid (addA nm g m (((k : Int), .inl y), d2, fs2) = if (k : Int) < (m : Int) then undo_ 4 (opTrunc d2 fs2 nm (g : Int)) else addS nm g (opSync d2 fs2 nm)) := Lib.hid rfl
    have HE2 : Hid (∀ q, O q ∨ RL H vh q → q < w2.heap.size) := Lib.hid (fun q hq => by
      rcases hq with hq | hq
      · exact Nat.lt_of_lt_of_le (HE.out q hq) HST2.out.ch.size
      · exact (HL2.out.foot_lt hq).2)
    clear HS2 HAO HAP HAN HN2 HAG
    by_cases hlt : k < m
    · have e1 : decide (k < m) = true := by simpa using hlt
      have e2 : (k : Int) < (m : Int) := by omega
      have HAF : Hid (addD d fs nm g l = undo_ 4 (opTrunc d2 fs2 nm (g : Int))) := Lib.hid (by rw [HAD.out, HAE.out, if_pos e2])
      clear hlt e2 HAE c0 c1
      go_wp2_with (fail)
      refine (refBack14 HL2.out HST2.out.at_ HS3.out OK2.out (by have := HLF.out; omega) HE2.out).mono ?_
      intro y2 w3 hb
      obtain ⟨gn, rfl, hR⟩ := RAdd.undo (x := 4) (l := l) (by decide) HST2.out HL2.out hb
      have HF := Lib.hid hR
      clear hb hR
      go_wp2_with (fail)
      refine bodyPost_ret (v := .tuple #[.int .i64 4, .bool gn]) (results_two Try.results36 _ _ _) rfl ?_
      rw [HAF.out]
      exact HF.out
    · have e1 : decide (k < m) = false := by simpa using hlt
      have e2 : ¬ (k : Int) < (m : Int) := by omega
      have HAF : Hid (addD d fs nm g l = addS nm g (opSync d2 fs2 nm)) := Lib.hid (by rw [HAD.out, HAE.out, if_neg e2])
      clear hlt HAE
      go_wp2_with (fail)
      refine region_plan S [([0, 1, 2, 3, 4, 5, 6, 7], 8)] [9, 10, 11, 12, 13] (by kernel_rfl) (by kernel_rfl) (fun _ _ _ _ _ h => h) ((HS.out _).2 ⟨HL2.out.cell 0, HL2.out.cell 1⟩) (fun hne => ?_)
      simp only [wpPlan, pick, List.getElem?_cons_zero, List.getElem?_cons_succ, Option.elim]
      repeat (go_big_quiet_step (fail))
      refine wpQuiet_nil ?_
      intro K hK
      go_simp
      have hb3 : Below w2.heap.size w2 w2.drew := (Below.refl _ w2).drew
      refine (rkSync (HST2.out.at_.below hb3) HS3.out OK2.out nm (by have := HLF.out; omega)).mono ?_
      intro x w3 hx
      obtain ⟨e3, g3, r3, L3, v3, P3, rfl, hag, hs3, hst⟩ := hx.step
      have HST3 := Lib.hid ((HST2.out.below hb3).trans hst)
      have HL3 := Lib.hid ((HL2.out.below hb3).step hst)
      have HS3' := Lib.hid hs3
      have HAG := Lib.hid hag
      have OK3 := Lib.hid (sync_ok OK2.out (by have := HO.out; have := HP2.out; omega) nm)
      have HAL3 := Lib.hid (sync_len d2 fs2 nm)
      clear hx hag hs3 hst hb3
      dsimp only
      refine hK.out _ _ ((HS.out _).2 ⟨HL3.out.cell 0, HL3.out.cell 1⟩) (fun _ => ?_)
      clear hK K c0 c1
      repeat (go_big_quiet_step (fail))
      refine wpQuiet_nil ?_
      clear hne
      generalize opSync d2 fs2 nm = q at *
      obtain ⟨x | op, d3, fs3⟩ := q
      · obtain ⟨rfl, rfl⟩ : g3 = false ∧ e3 = x := by
          rcases HAG.out with ⟨z, h1, h2, h3⟩ | ⟨_, h1, _⟩
          · injection h1 with h1; exact ⟨h3, by rw [h2, h1]⟩
          · cases h1
        have HS4 : Hid (Sim d3 fs3 r3 L3) := Lib.hid HS3'.out
        have OK4 : Hid (FsOk d3 fs3) := Lib.hid OK3.out
        clear OK3 HS3' HAG
        have HAH : Hid (addD d fs nm g l = if e3 = 0 then (.inl 0, (d3, fs3)) else undo_ 5 (opTrunc d3 fs3 nm (g : Int))) := Lib.hid HAF.out
        by_cases hx : e3 = 0
        · subst hx
          have HAI : Hid (addD d fs nm g l = ((.inl 0, (d3, fs3)) : Out)) := Lib.hid (by rw [HAH.out, if_pos rfl])
          clear HAH HAF
          go_wp2_with (fail)
          obtain ⟨Av, cv, rfl⟩ := HL3.out.rw.form
          have cA : w3.drew.cell? ⟨H, 2, none⟩ = some (.slice Av rs.length cv) := HL3.out.cell 2
          have hb5 : Below w3.heap.size w3 w3.drew := (Below.refl _ w3).drew
          have H5 := Lib.hid (HL3.out.below hb5)
          have R5 := Lib.hid (HST3.out.below hb5)
          obtain ⟨T, hT⟩ : ∃ T : Nat → Prop, T = fun k => k = H ∨ (O k ∨ RF G v3 k) := ⟨_, rfl⟩
          have HRW5 : Hid (Rw B T w3.drew (.slice Av rs.length cv) rs) := Lib.hid (by rw [hT]; exact H5.out.rw)
          have HTL : Hid (∀ q, T q → q < w3.drew.heap.size) := Lib.hid (fun q hq => by
            rw [hT] at hq
            rcases hq with rfl | hq | hq
            · exact H5.out.lt
            · exact Nat.lt_of_lt_of_le (HE.out q hq) R5.out.ch.size
            · exact (R5.out.at_.foot_lt hq).2)
          have HTT := Lib.hid hT
          have HB5 : Hid (Bs (w3.alloc (.cells #[] 5)).drew A n c l) := Lib.hid (by
            have h1 := HA.out.ch R5.out.ch (fun h0 b hb => (HOFF.out (by have := HNL.out; omega) b hb).1)
            exact h1.alloc _)
          have HOW : Hid (Own 5 (w3.alloc (.cells #[] 5)).drew w3.heap.size (.slice (some ⟨w3.heap.size, 0, none⟩) 0 0) []) := Lib.hid (Own.lit 5 w3.drew [] (Nat.le_refl _) (by simp [maxLen]))
          have HBW5 : Hid (B ≤ w3.drew.heap.size) := Lib.hid (Nat.le_trans HB.out R5.out.ch.size)
          have cB : ∀ o, (w3.alloc o).drew.cell? ⟨H, 2, none⟩ = some (.slice Av rs.length cv) := fun o => (H5.out.below ((Below.refl _ w3.drew).alloc (Nat.le_refl _) o)).cell 2
          obtain ⟨Z, hZ⟩ : ∃ Z, Z = rs ++ [l] := ⟨_, rfl⟩
          have HZ := Lib.hid hZ
          have hnl : l.length = n := HNL.out.symm
          have tok1 : Hid True := Lib.hid trivial
          have tok2 : Hid True := Lib.hid trivial
          clear hb5 hT hZ
          go_region_law (first
            | (have _t := tok1; refine step_app rfl (.tmp 67) (.tmp 68) rfl w3.heap.size _ [] rfl HOW.out A n c l rfl HB5.out (by have := HM.out; simp; omega) (by simp) ?_; intro v6 w6 hown6 hb6 hg6; rw [List.nil_append] at hown6; obtain ⟨A6, c6, rfl, hB6, hf6⟩ := hown6.bs; rw [hnl] at hB6 ⊢; have HB6 : Hid (Below w3.drew.heap.size w3.drew w6) := Lib.hid (((Below.refl _ w3.drew).alloc (Nat.le_refl _) (.cells #[] 5)).trans hb6); have HX6 := Lib.hid hB6; have HF6 := Lib.hid hf6; have H6 := Lib.hid (H5.out.below HB6.out); have HRW6 := Lib.hid (HRW5.out.below HB6.out); have cC : w6.cell? ⟨H, 2, none⟩ = some (.slice Av rs.length cv) := H6.out.cell 2; have cD : ∀ o, (w6.alloc o).cell? ⟨H, 2, none⟩ = some (.slice Av rs.length cv) := fun o => (H6.out.below ((Below.refl _ _).alloc (Nat.le_refl _) o)).cell 2; have HS7 := Lib.hid ((Below.refl w6.heap.size w6).alloc (Nat.le_refl _) (.cells #[.slice A6 n c6] 27)); have HRW7 := Lib.hid (HRW6.out.below HS7.out); have HX7 : Hid (Bs (w6.alloc (.cells #[.slice A6 n c6] 27)) A6 l.length c6 l) := Lib.hid (by rw [hnl]; exact HX6.out.below HS7.out); have HROW := Lib.hid (heap_alloc_new w6 (.cells #[.slice A6 n c6] 27)); have HBW7 : Hid (B ≤ (w6.alloc (.cells #[.slice A6 n c6] 27)).heap.size) := Lib.hid (Nat.le_trans HBW5.out (Nat.le_trans HB6.out.size HS7.out.size)); have HLT : Hid (0 < l.length → ∀ b, A6 = some b → ¬ (Value.slice Av rs.length cv).ownBlock = some b.block ∧ ¬ T b.block) := Lib.hid (fun _ b hb => by have h1 : w3.drew.heap.size ≤ b.block := HF6.out b hb; exact ⟨fun e => by have := (HRW5.out.lt e).2; omega, fun e => by have := HTL.out _ e; omega⟩); have HTN : Hid (¬ T (w6.alloc (.cells #[.slice A6 n c6] 27)).heap.size) := Lib.hid (fun e => by have h1 := HTL.out _ e; have h2 := HB6.out.size; simp only [World.size_alloc] at h1; omega); clear tok1 hown6 hb6 hg6 hB6 hf6 _t)
            | (have _t := tok2; refine step_rwW rfl (.tmp 66) (.tmp 70) rfl B T (.slice Av rs.length cv) rs l A6 c6 rfl HRW7.out HX7.out HLT.out HTN.out w6.heap.size (by rw [show (Value.slice (some ⟨w6.heap.size, 0, none⟩) 1 1) = _ from rfl]; rfl) (by rw [hnl]; exact HROW.out) HN.out HBW7.out ?_; intro v8 w8 hw8 hgr8 hfr8; rw [← HZ.out] at hw8; obtain ⟨A8, c8, rfl⟩ := hw8.form; have HW8 := Lib.hid hw8; have HC8 := Lib.hid (Ch.of_grown (S := fun k => (Value.slice Av rs.length cv).ownBlock = some k) hgr8 (fun k hk => hk)); have HFR8 := Lib.hid hfr8; have H8 : Hid (w8.heap[H]? = some (.cells (rlCells G nm (.slice Av rs.length cv) g) TR14)) := Lib.hid (HC8.out.row (H6.out.below HS7.out).row (fun e => H6.out.vne e rfl)); have z1 : w8.cell? ⟨H, 2, none⟩ = some (.slice Av rs.length cv) := cell_of_row w8 H 2 _ _ _ H8.out; have z2 : w8.frozen? ⟨H, 2, none⟩ = false := frz H8.out; clear tok2 hw8 hgr8 hfr8 _t))
          all_goals
            have HBO : Hid (Both O w B H G nm v (.slice Av rs.length cv) (w8.setCell ⟨H, 2, none⟩ (.slice A8 Z.length c8)) r3 L3 v3 P3 Z g (.slice A8 Z.length c8)) := Lib.hid (((((Both.of R5.out H5.out).below HB6.out).below HS7.out).app (by rw [← HTT.out]; exact HW8.out) HC8.out HFR8.out))
            clear z1 z2 cA cB cC cD HW8 HC8 HFR8 H8 HTN HLT HBW7 HROW HX7 HRW7 HS7 HRW6 H6 HF6 HX6 HB6 HOW HB5 HBW5 HTL HRW5 R5 H5
            generalize w8.setCell ⟨H, 2, none⟩ (.slice A8 Z.length c8) = w9 at *
            have c3 : w9.cell? ⟨H, 3, none⟩ = some (.int .i64 (g : Int)) := HBO.out.rl.cell 3
            have f3 := HBO.out.rl.frozen 3
            have ws : wrap64 ((g : Int) + (m : Int)) = ((g + m : Nat) : Int) := by rw [IntWalk.wrap64_in _ (by have := HG.out; have := HRL.out; omega)]; omega
            have ws2 : IntKind.i64.wrap ((g : Int) + (m : Int)) = ((g + m : Nat) : Int) := by rw [IntWalk.i64_in _ (by have := HG.out; have := HRL.out; omega)]; omega
            obtain ⟨gg, hG⟩ : ∃ G, G = g + m := ⟨_, rfl⟩
            rw [← hG] at ws ws2
            have HGG := Lib.hid hG
            clear hG
            go_wp2_with (fail)
            have HB9 := Lib.hid (HBO.out.good gg)
            have HF : Hid (RAdd O w B H G nm rs g v (.slice Av rs.length cv) l (addD d fs nm g l) (ret2 0 false) (w9.setCell ⟨H, 3, none⟩ (.int .i64 (gg : Int)))) := Lib.hid (by
              rw [HAI.out]
              refine ⟨0, false, r3, L3, v3, P3, _, rfl, .inl ⟨0, rfl, rfl, rfl⟩, HS4.out, HB9.out.rk, ?_, HB9.out.ch, HB9.out.own⟩
              rw [if_pos rfl, if_pos rfl, ← HZ.out, ← HRR.out, ← HMM.out, ← HGG.out]
              exact HB9.out.rl)
            clear c3 f3 ws ws2
            refine bodyPost_ret (v := .tuple #[.int .i64 0, .bool false]) (results_two Try.results36 _ _ _) rfl ?_
            exact HF.out
        · have e5 : (e3 != 0) = true := by simpa using hx
          have HAI : Hid (addD d fs nm g l = undo_ 5 (opTrunc d3 fs3 nm (g : Int))) := Lib.hid (by rw [HAH.out, if_neg hx])
          have HE3 : Hid (∀ q, O q ∨ RL H vh q → q < w3.heap.size) := Lib.hid (fun q hq => by
            rcases hq with hq | hq
            · exact Nat.lt_of_lt_of_le (HE.out q hq) HST3.out.ch.size
            · exact (HL3.out.foot_lt hq).2)
          have HLF3 : Hid (L3.length ≤ 10002) := Lib.hid (by have h1 := HS4.out.perm.length_eq; have h2 := HAL3.out; have h3 := HS3.out.perm.length_eq; have h4 := HLF.out; simp only at h2; omega)
          clear hx HAH HAF
          go_wp2_with (fail)
          refine (refBack14 HL3.out HST3.out.at_ HS4.out OK4.out (by have := HLF3.out; omega) HE3.out).mono ?_
          intro y2 w4 hb
          obtain ⟨gn, rfl, hR⟩ := RAdd.undo (x := 5) (l := l) (by decide) HST3.out HL3.out hb
          have HF := Lib.hid hR
          clear hb hR
          go_wp2_with (fail)
          refine bodyPost_ret (v := .tuple #[.int .i64 5, .bool gn]) (results_two Try.results36 _ _ _) rfl ?_
          rw [HAI.out]
          exact HF.out
      · obtain ⟨op', h1, h2, rfl⟩ : ∃ op', (Sum.inr op : Int ⊕ Int) = .inr op' ∧ op' = r3.count ∧ g3 = true := by
          rcases HAG.out with ⟨_, h, _⟩ | h
          · cases h
          · exact h
        have HF : Hid (RAdd O w B H G nm rs g v vh l (addD d fs nm g l) (ret2 0 true) w3) := Lib.hid (by
          rw [HAF.out]
          exact RAdd.same HST3.out HL3.out (.inr ⟨op', h1, h2, rfl⟩) HS3'.out (fun e => by cases e))
        clear h1 h2
        go_wp2_with (fail)
        refine bodyPost_ret (v := .tuple #[.int .i64 0, .bool true]) (results_two Try.results36 _ _ _) rfl ?_
        exact HF.out
  · obtain ⟨op', h1, h2, rfl⟩ : ∃ op', (Sum.inr op : Int ⊕ Int) = .inr op' ∧ op' = r2.count ∧ gn = true := by
      rcases HAG.out with ⟨_, h, _⟩ | h
      · cases h
      · exact h
    have HF : Hid (RAdd O w B H G nm rs g v vh l (addD d fs nm g l) (ret2 0 true) w2) := Lib.hid (by
      rw [HAD.out]
      exact RAdd.same HST2.out HL2.out (.inr ⟨op', h1, h2, rfl⟩) HS2.out (fun e => by cases e))
    clear h1 h2 c0 c1
    go_wp2_with (fail)
    refine bodyPost_ret (v := .tuple #[.int .i64 0, .bool true]) (results_two Try.results36 _ _ _) rfl ?_
    exact HF.out
end
end Go.Proofs.Ythblbmbefhlbjaa
/- Layer 14: the document's Open, walked, of a file that may be opened. -/
namespace Go.Proofs.Ythblbmbefhlbjaa
open Go.RowKit Go.MapKept

section
variable {T T' S O E E' : Nat → Prop} {w w' : World} {B H G g : Nat} {nm : ByteArray} {rs : List (List UInt8)} {v vh : Value} {r : Rk} {L : Fs} {P : List Value} {d : Dk} {fs : Fs}
/-- blocks that are new are avoided too -/
theorem RkAt.wider (h : RkAt w B G E r L v P) (hE : ∀ k, E' k → E k ∨ w.heap.size ≤ k) : RkAt w B G E' r L v P :=
  ⟨h.hG, h.row, h.len, h.own, fun i e d h1 h2 => by
    obtain ⟨A, m, q, rfl, hB, hx⟩ := h.dat i e d h1 h2
    refine ⟨A, m, q, rfl, hB, fun a ha => ?_⟩
    by_cases h0 : m = 0
    · exact .inl h0
    · obtain ⟨b', o', e', hlt, _⟩ := hB.at_ (by omega)
      rw [ha] at e'; injection e' with e'; subst e'
      refine .inr (fun hy => (hx _ ha).resolve_left h0 (hy.imp id (fun h5 => (hE _ h5).resolve_right (fun h6 => ?_))))
      exact absurd hlt (Nat.not_lt.2 h6)⟩
theorem Sim.bytes (h : Sim d fs r L) (ok : FsOk d fs) (n : ByteArray) : bsOf L n = bsOf fs n := by unfold bsOf; rw [h.get ok n]
theorem results_three {fn : Func} {t u x : Tmp} (h : fn.results = #[.tmp t, .tmp u, .tmp x]) (tmps : Array Value) (P : Program) (w : World) :
    (results fn tmps).run P w = .ok (.tuple #[tmps.getD t undef, tmps.getD u undef, tmps.getD x undef]) w := by
  simp [results, h]
/-- how the document's Open ends -/
def ROpen (O : Nat → Prop) (w : World) (B G : Nat) (nm : ByteArray) (v : Value) (sc : List (List UInt8) × Nat × Int) (o : Out) (x : Ending) (w' : World) : Prop :=
  ∃ H r' L' v' P' vh, x = .returned (.tuple #[pH H, .int .i64 0, .bool false]) ∧ Sim o.2.1 o.2.2 r' L' ∧ RkAt w' B G (fun k => O k ∨ RL H vh k) r' L' v' P' ∧ RlAt (fun k => O k ∨ RF G v' k) w' B H G nm sc.1 sc.2.1 vh ∧
    Ch (RF G v) w w' ∧ (∀ k, RF G v' k → RF G v k ∨ w.heap.size ≤ k) ∧ w.heap.size ≤ H ∧ (∀ k, vh.ownBlock = some k → w.heap.size ≤ k)
/-- the log is laid -/
theorem ROpen.laid {w2 w5 : World} {r5 : Rk} {L5 : Fs} {v5 : Value} {P5 : List Value} (hO : ∀ k, O k → k < w.heap.size) (hr : RkAt w B G O r L v P) (hb : Below w.heap.size w w2) (hrw : Rw w.heap.size (fun k => k < w.heap.size) w2 vh rs) (hB : B ≤ w.heap.size)
    (hst : Step w2 B G (fun k => O k ∨ vh.ownBlock = some k) v w5 r5 L5 v5 P5) :
    RkAt (w5.alloc (.cells (rlCells G nm vh g) TR14)) B G (fun k => O k ∨ RL w5.heap.size vh k) r5 L5 v5 P5 ∧ RlAt (fun k => O k ∨ RF G v5 k) (w5.alloc (.cells (rlCells G nm vh g) TR14)) B w5.heap.size G nm rs g vh ∧ Ch (RF G v) w (w5.alloc (.cells (rlCells G nm vh g) TR14)) ∧
      (∀ k, RF G v5 k → RF G v k ∨ w.heap.size ≤ k) ∧ w.heap.size ≤ w5.heap.size ∧ (∀ k, vh.ownBlock = some k → w.heap.size ≤ k) := by
  have hb5 : Below w5.heap.size w5 (w5.alloc (.cells (rlCells G nm vh g) TR14)) := (Below.refl _ _).alloc (Nat.le_refl _) _
  have h25 := hst.ch.size
  have hwn : ∀ k, RF G v5 k → RF G v k ∨ w2.heap.size ≤ k := fun k hk => by
    rcases hk with rfl | hk
    · exact .inl (.inl rfl)
    · exact (hst.own k hk).elim (fun h => .inl (.inr h)) .inr
  have hOw : ∀ k, O k ∨ RF G v5 k → k < w2.heap.size → k < w.heap.size := fun k hk hlt => by
    rcases hk with hk | hk
    · exact hO k hk
    · rcases hwn k hk with h1 | h1
      · exact (hr.foot_lt h1).2
      · omega
  have hrw5 : Rw w.heap.size (fun k => O k ∨ RF G v5 k) w5 vh rs := hrw.ch hst.ch (fun k _ hk => (hr.foot_lt hk).2) (fun k hk ht => hOw k ht hk)
  refine ⟨(hst.at_.wider (E' := fun k => O k ∨ RL w5.heap.size vh k) (fun k hk => ?_)).below hb5, ⟨heap_alloc_new w5 _, by have := hb.size; omega, fun hk => ?_, ((hrw5.base hB).widen (T' := fun k => k = w5.heap.size ∨ (O k ∨ RF G v5 k)) (fun k hk => ?_)).below hb5⟩, ((Ch.of_below (S := RF G v) hb).trans hst.ch (fun _ _ h => h)).trans (Ch.of_below (S := RF G v) hb5) (fun _ _ h => h), fun k hk => ?_, by have := hb.size; omega, fun k hk => (Rw.lt hrw hk).1⟩
  · rcases hk with hk | rfl | hk
    · exact .inl (.inl hk)
    · exact .inr (Nat.le_refl _)
    · exact .inl (.inr hk)
  · rcases hk with hk | hk
    · have := hO _ hk; have := hb.size; omega
    · have := (hst.at_.foot_lt hk).2; omega
  · rcases hk with rfl | hk
    · exact .inr (Nat.le_refl _)
    · exact .inl hk
  · exact (hwn k hk).imp id (fun h => Nat.le_trans hb.size h)
set_option maxRecDepth 100000 in
set_option maxHeartbeats 8000000 in
theorem refOpen14 (hr : RkAt w B G O r L v P) (hs : Sim d fs r L) (ok : FsOk d fs) (ho : d.ops + 8 ≤ 1152921504606846976) (hL : L.length ≤ 10000) (hO : ∀ k, O k → k < w.heap.size) (hB : B ≤ w.heap.size) (hz : nm.size ≤ 140737488355328) (hn : nameD nm = true) (hlen : (bsOf fs nm).length ≤ 2000000000) (h0 : (openD d fs nm).1 = .inl 0) :
    Calls Try.prog 54 #[pR G, .string nm] w (ROpen O w B G nm v (scan (bsOf fs nm)) (openD d fs nm)) := by
  have HR := Lib.hid hr
  have HS := Lib.hid hs
  have HOK := Lib.hid ok
  have HO := Lib.hid ho
  have HLL := Lib.hid hL
  have HOO := Lib.hid hO
  have HB := Lib.hid hB
  have HN := Lib.hid hn
  have HLN := Lib.hid hlen
  have H0 := Lib.hid h0
  have HBY := Lib.hid (hs.bytes ok nm)
  clear hr hs ok ho hL hO hB hn hlen h0
  go_enter Try.func54, Try.ntmps54
  go_wp2_with (fail)
  refine (refName nm w hz).mono ?_
  rw [HN.out]
  rintro e w0 ⟨rfl, rfl⟩
  go_wp2_with (fail)
  refine (rkBytes HR.out nm (by have := HLL.out; omega)).mono ?_
  intro e w1 hx
  obtain ⟨A1, c1, fnd, rfl, rfl, hB1⟩ : ∃ A1 c1 fnd, w = w1 ∧ e = .returned (.tuple #[.slice A1 (bsOf fs nm).length c1, .bool fnd]) ∧ Bs w A1 (bsOf fs nm).length c1 (bsOf fs nm) := by
    rw [← HBY.out]
    unfold bsOf
    obtain ⟨hw, ⟨h1, h2⟩ | ⟨f, A, m, c, h1, h2, h3⟩⟩ := hx
    · rw [h1]; exact ⟨none, 0, false, hw, h2, Bs.none_ w⟩
    · rw [h1]; have hl := h3.len; subst hl; exact ⟨A, c, true, hw, h2, h3⟩
  have HB1 := Lib.hid hB1
  clear hx hB1 HBY
  have HOD : Hid (openD d fs nm = if (scan (bsOf fs nm)).2.1 = (bsOf fs nm).length then (.inl 0, d, fs) else openT nm (opTrunc d fs nm ((scan (bsOf fs nm)).2.1 : Int))) := Lib.hid rfl
  have HSL := Lib.hid (scan_len (bsOf fs nm))
  generalize bsOf fs nm = bs at *
  obtain ⟨n, hn⟩ : ∃ n, n = bs.length := ⟨_, rfl⟩
  rw [← hn] at HB1 HSL HOD HLN ⊢
  clear hn
  go_wp2_with (fail)
  refine (refScann A1 n c1 bs w HB1.out HLN.out).mono ?_
  rintro e w2 ⟨v2, rfl, hrw, hb2⟩
  obtain ⟨rs, hrs⟩ : ∃ rs, rs = (scan bs).1 := ⟨_, rfl⟩
  obtain ⟨g, hg⟩ : ∃ g, g = (scan bs).2.1 := ⟨_, rfl⟩
  obtain ⟨er, her⟩ : ∃ er, er = (scan bs).2.2 := ⟨_, rfl⟩
  have HSC : Hid (scan bs = (rs, g, er)) := Lib.hid (by rw [hrs, hg, her])
  rw [← hrs] at hrw
  rw [← hg, ← her]
  rw [← hg] at HOD HSL
  obtain ⟨Av, cv, rfl⟩ := hrw.form
  have HRW := Lib.hid hrw
  have HB2 := Lib.hid hb2
  clear hrw hb2 hrs hg her
  obtain ⟨vh, hvh⟩ : ∃ vh, vh = Value.slice Av rs.length cv := ⟨_, rfl⟩
  have HVH := Lib.hid hvh
  have HST0 : Hid (Step w2 B G (fun k => O k ∨ (Value.slice Av rs.length cv).ownBlock = some k) v w2 r L v P) := Lib.hid (Step.refl (((HR.out.wider (E' := fun k => O k ∨ w.heap.size ≤ k) (fun k hk => hk)).below HB2.out).wider (fun k hk => .inl (hk.imp id (fun h => (Rw.lt HRW.out h).1)))))
  have HE : Hid (∀ q, O q ∨ (Value.slice Av rs.length cv).ownBlock = some q → q < w2.heap.size) := Lib.hid (fun q hq => by
    rcases hq with hq | hq
    · exact Nat.lt_of_lt_of_le (HOO.out q hq) HB2.out.size
    · exact (Rw.lt HRW.out hq).2)
  clear hvh
  by_cases hgl : g = n
  · have e1 : decide (g < n) = false := by simp; omega
    have HOE : Hid (openD d fs nm = (.inl 0, d, fs)) := Lib.hid (by rw [HOD.out, if_pos hgl])
    have hQ := HST0.out
    clear hgl HOD
    go_wp2_with (fail)
    have HL := Lib.hid (ROpen.laid (nm := nm) (g := g) HOO.out HR.out HB2.out HRW.out HB.out HST0.out)
    refine bodyPost_ret (v := .tuple #[pH w2.heap.size, .int .i64 0, .bool false]) (results_three Try.results54 _ _ _) rfl ?_
    rw [HOE.out, HSC.out]
    obtain ⟨h1, h2, h3, h4, h5, h6⟩ := HL.out
    exact ⟨_, r, L, v, P, _, rfl, HS.out, h1, h2, h3, h4, h5, h6⟩
  · have e1 : decide (g < n) = true := by have := HSL.out; simp; omega
    have HOE : Hid (openD d fs nm = openT nm (opTrunc d fs nm (g : Int))) := Lib.hid (by rw [HOD.out, if_neg hgl])
    clear hgl HOD
    go_wp2_with (fail)
    refine (rkTrunc HST0.out.at_ HS.out HOK.out nm g (by have := HLL.out; omega) HE.out).mono ?_
    intro x w3 hx
    obtain ⟨e3, g3, r3, L3, v3, P3, rfl, hag, hs3, hst⟩ := hx.step
    have HST3 := Lib.hid hst
    have HS3 := Lib.hid hs3
    have OK3 := Lib.hid (trunc_ok HOK.out (by have := HO.out; omega) nm (g : Int))
    have HAL := Lib.hid (trunc_len d fs nm (g : Int))
    have HOP := Lib.hid (trunc_opsW d fs nm (g : Int))
    clear hx hst hs3 HST0
    generalize opTrunc d fs nm (g : Int) = q at *
    obtain ⟨y | op, d3, fs3⟩ := q
    · obtain rfl : g3 = false := by
        rcases hag with ⟨_, _, _, h3⟩ | ⟨_, h1, _, _⟩
        · exact h3
        · cases h1
      have HOF : Hid (openD d fs nm = opSync d3 fs3 nm) := HOE
      have HS3' : Hid (Sim d3 fs3 r3 L3) := Lib.hid HS3.out
      have OK3' : Hid (FsOk d3 fs3) := Lib.hid OK3.out
      have HLF : Hid (L3.length ≤ 10001) := Lib.hid (by have h1 := HS3'.out.perm.length_eq; have h2 := HAL.out; have h3 := HS.out.perm.length_eq; have h4 := HLL.out; simp only at h2; omega)
      clear hag HOE
      go_wp2_with (fail)
      refine (rkSync HST3.out.at_ HS3'.out OK3'.out nm (by have := HLF.out; omega)).mono ?_
      intro x w4 hx
      obtain ⟨e4, g4, r4, L4, v4, P4, rfl, hag, hs4, hst⟩ := hx.step
      have HST4 := Lib.hid (HST3.out.trans hst)
      have HS4 := Lib.hid hs4
      obtain ⟨rfl, rfl⟩ : g4 = false ∧ e4 = 0 := by
        have h1 := H0.out
        rw [HOF.out] at h1
        rcases hag with ⟨z, h2, h3, h4⟩ | ⟨_, h2, _, _⟩
        · rw [h1] at h2; injection h2 with h2; exact ⟨h4, by rw [h3, ← h2]⟩
        · rw [h1] at h2; cases h2
      clear hx hst hs4 hag
      go_wp2_with (fail)
      have HL := Lib.hid (ROpen.laid (nm := nm) (g := g) HOO.out HR.out HB2.out HRW.out HB.out HST4.out)
      refine bodyPost_ret (v := .tuple #[pH w4.heap.size, .int .i64 0, .bool false]) (results_three Try.results54 _ _ _) rfl ?_
      rw [HOF.out, HSC.out]
      obtain ⟨h1, h2, h3, h4, h5, h6⟩ := HL.out
      exact ⟨_, r4, L4, v4, P4, _, rfl, HS4.out, h1, h2, h3, h4, h5, h6⟩
    · have h1 := H0.out
      rw [HOE.out] at h1
      cases h1
end
end Go.Proofs.Ythblbmbefhlbjaa
/- An argument that is a slice of bytes, opened into 'Bs'. -/
namespace Go.Proofs.Ythblbmbefhlbjaa
open Go.RowKit Go.ChangeShapes Go.WideShapes

theorem own : ownKnob Try.prog.godebug = none := by kernel_rfl
theorem laidOut : laidOutB Try.prog = true := by kernel_rfl
theorem cellsByte : Try.prog.cellsOf 5 = 1 := by kernel_rfl
theorem bytesByte : Try.prog.bytesOf 5 = 1 := by kernel_rfl

theorem byte_back {x : Int} (h : (Lit.int .u8 x).wf = true) : ((UInt8.ofNat x.toNat).toNat : Int) = x := by
  have hx : 0 ≤ x ∧ x ≤ 255 := by simpa [Lit.wf, IntKind.min, IntKind.max, IntKind.signed, IntKind.bits] using h
  have : x.toNat < 256 := by omega
  simp [Nat.mod_eq_of_lt this]
  omega

theorem open_bytes {H : Type} {enc : TypeId × Value → H} {W : World} {A : Option Addr} {len cap : Nat} {d : DataW H} {p : List MemPlace} {ts : List TypeId} {ds : List (DataW H)}
    (h : DataW.Trod enc Try.prog W 0 (fun _ => true) true 27 (.slice A len cap) d p) (j : Nat) (ht : ts[j]? = some 27) (hd : ds[j]? = some d)
    (hs : (DataW.weightsEach Try.prog ts ds).all (· ≤ reachBytes) = true) : ∃ l, Bs W A len cap l ∧ cap ≤ 140737488351232 := by
  obtain ⟨fuel, hf⟩ := h
  rcases open_ints Try.underlying27 Try.underlying5 cellsByte hf with ⟨hcs, _⟩ | ⟨x, l, c, zs, hcs, _, hl, hm, hz, hx, hcell, hwz⟩
  · simp [Value.cells] at hcs
    obtain ⟨rfl, rfl, rfl⟩ := hcs
    exact ⟨[], Bs.none_ W, by omega⟩
  · simp [Value.cells] at hcs
    obtain ⟨rfl, rfl, rfl⟩ := hcs
    simp only [if_true] at hz
    simp only [Prod.mk.injEq] at hx
    obtain ⟨rfl, _⟩ := hx
    have hr := sized_slice hs ht hd Try.underlying27
    rw [bytesByte] at hr
    simp only [lits, List.length_map, List.length_take, List.length_drop, reachBytes] at hr
    refine ⟨(zs.take len).map fun z => UInt8.ofNat z.toNat, ⟨by rw [List.length_map, List.length_take]; omega, hl, hm, fun hn => ?_⟩, by omega⟩
    have h0 := hcell 0 (by omega)
    obtain ⟨b, off, spot⟩ := x
    have hspot : spot = none := by simpa [Addr.add] using World.cell?_spot h0
    subst hspot
    refine ⟨b, off, rfl, fun i y hy => ?_⟩
    rw [List.getElem?_map, List.getElem?_take] at hy
    split at hy
    · rename_i hi
      have hiz : i < zs.length := by omega
      rw [List.getElem?_eq_getElem hiz] at hy
      simp only [Option.map_some, Option.some.injEq] at hy
      subst hy
      have hc := hcell i hiz
      rw [Addr.add_lit] at hc
      rw [hc]
      simp only [List.getD, List.getElem?_eq_getElem hiz, Option.getD_some]
      show _ = some (Value.int IntKind.u8 _)
      rw [byte_back (hwz _ (List.getElem_mem hiz))]
    · cases hy
end Go.Proofs.Ythblbmbefhlbjaa
/- An argument that is a row of structs, each field one cell: its cells, and what each field reads as. No condition of ours. -/
namespace Go.Proofs.Ythblbmbefhlbjaa
open Go.RowKit Go.ChangeShapes Go.WideShapes Go.Deep

/-- every weight within reach -/
def Light {H : Type} (P : Program) (t : TypeId) (d : DataW H) : Prop := ∀ n ∈ d.weights P t, n ≤ reachBytes
theorem light_arg {H : Type} {P : Program} {ts : List TypeId} {ds : List (DataW H)} {j : Nat} {t : TypeId} {d : DataW H} (hs : (DataW.weightsEach P ts ds).all (· ≤ reachBytes) = true) (ht : ts[j]? = some t) (hd : ds[j]? = some d) : Light P t d := fun n hn => by
  have := List.all_eq_true.1 hs _ (DataW.weights_mem_each ht hd n hn)
  simpa using this
theorem Light.each {H : Type} {P : Program} {t : TypeId} {d : DataW H} (h : Light P t d) : (DataW.weightsEach P [t] [d]).all (· ≤ reachBytes) = true := by
  rw [List.all_eq_true]
  intro n hn
  simp only [DataW.weightsEach, List.append_nil] at hn
  simpa using h n hn
theorem weightsAll_mem {H : Type} {P : Program} {e : TypeId} {y : Nat} : ∀ {ds : List (DataW H)} {d : DataW H}, d ∈ ds → y ∈ d.weights P e → y ∈ DataW.weightsAll P e ds
  | [], _, h, _ => by cases h
  | d0 :: r, d, h, hy => by
    simp only [DataW.weightsAll, List.mem_append]
    rcases List.mem_cons.1 h with rfl | h
    · exact .inl hy
    · exact .inr (weightsAll_mem h hy)
section
variable {H : Type} {enc : TypeId × Value → H} {P : Program} {W : World} {base : Nat} {spare : Nat → Bool} {held : Bool}
/-- the row's cells by element and field; each field with what it reads as, and within reach -/
theorem open_structs {t e : TypeId} {fs : Array Field} {A : Option Addr} {len cap : Nat} {d : DataW H} {p : List MemPlace} (ht : P.underlying t = some (.slice e)) (he : P.underlying e = some (.struct fs))
    (hone : oneCellFields P fs = true) (hC : P.cellsOf e = fs.size) (h : DataW.Trod enc P W base spare held t (.slice A len cap) d p) (hw : Light P t d) (hpos : 0 < fs.size) :
    len ≤ cap ∧ cap ≤ maxLen ∧ len * P.bytesOf e ≤ reachBytes ∧ (0 < len → ∃ b o, A = some ⟨b, o, none⟩ ∧ ∀ i, i < len → ∀ (j : Nat) (f : Field), fs[j]? = some f →
      ∃ (v : Value) (y : DataW H) (pl : List MemPlace) (n : Nat), W.cell? ⟨b, o + (i * fs.size + j), none⟩ = some v ∧ DataW.trod enc P W base spare held n f.type [v] = some (y, pl) ∧ Light P f.type y) := by
  obtain ⟨fuel, hf⟩ := h
  rcases open_slice ht hf with ⟨hcs, hx⟩ | ⟨a, l, c, m, n, D, Pl, hcs, _, hl, hm, hmm, hx, hi⟩
  · simp [Value.cells] at hcs
    obtain ⟨rfl, rfl, rfl⟩ := hcs
    exact ⟨Nat.le_refl _, by simp [maxLen], by omega, fun h0 => by omega⟩
  · simp [Value.cells] at hcs
    obtain ⟨rfl, rfl, rfl⟩ := hcs
    simp only [Prod.mk.injEq] at hx
    obtain ⟨rfl, _⟩ := hx
    have hlm : len ≤ m := by rw [hmm]; split <;> omega
    have hreach : len * P.bytesOf e ≤ reachBytes := by
      have h1 := hw (((List.range len).map D).length * P.bytesOf e + ((List.range (m - len)).map fun j => D (len + j)).length * P.bytesOf e) (by
        simp only [DataW.weights, ht, List.mem_cons]
        exact .inl (by rw [Nat.add_mul]))
      simp only [List.length_map, List.length_range] at h1
      omega
    refine ⟨hl, hm, hreach, fun h0 => ?_⟩
    have cellAt : ∀ i, i < len → ∀ (j : Nat) (f : Field), fs[j]? = some f → ∃ (v : Value) (y : DataW H) (pl : List MemPlace) (n : Nat), W.cell? (a.add (i * fs.size + j)) = some v ∧ DataW.trod enc P W base spare held n f.type [v] = some (y, pl) ∧ Light P f.type y := by
      intro i hil j f hj
      obtain ⟨cs', hc, ht'⟩ := hi i (by omega)
      rw [hC] at hc
      obtain ⟨ys, n', _, hy, hlen, hyl, hg⟩ := DataW.trod_struct he ht'
      obtain ⟨_, hcl, hat⟩ := World.cells?_some hc
      simp only [Prod.mk.injEq] at hy
      obtain ⟨ho, hk⟩ := hone_of hone j f hj
      have hjl : j < fs.size := (Array.getElem?_eq_some_iff.1 hj).1
      have hlt : j < cs'.length := by omega
      have h1 := hg j f hj
      rw [ho, hk, take1_drop cs' j undef hlt] at h1
      have hys : ys[j]? = some (ys[j]'(by omega)) := List.getElem?_eq_getElem (by omega)
      rw [hys] at h1
      refine ⟨cs'.getD j undef, (ys[j]'(by omega)).1, (ys[j]'(by omega)).2, n', ?_, h1, fun y hyw => hw y ?_⟩
      · have h2 := hat j hjl
        rw [← Go.Deep.add_add, h2, List.getD_eq_getElem?_getD, List.getElem?_eq_getElem hlt, Option.getD_some]
      · simp only [DataW.weights, ht, List.mem_cons, List.mem_append]
        refine .inr (.inl (weightsAll_mem (List.mem_map.2 ⟨i, List.mem_range.2 hil, rfl⟩) ?_))
        rw [hy.1]
        simp only [DataW.weights, he]
        refine DataW.weights_mem_each (j := j) (t := f.type) (d := (ys[j]'(by omega)).1) ?_ ?_ y hyw
        · rw [List.getElem?_map, Array.getElem?_toList, hj]; rfl
        · rw [List.getElem?_map, hys]; rfl
    have hspot : ∃ b o, a = ⟨b, o, none⟩ := by
      obtain ⟨b, o, s⟩ := a
      obtain ⟨f0, hf0⟩ : ∃ f0, fs[0]? = some f0 := ⟨fs[0], Array.getElem?_eq_getElem hpos⟩
      obtain ⟨v, _, _, _, hc, _⟩ := cellAt 0 h0 0 f0 hf0
      have : s = none := by simpa [Addr.add] using World.cell?_spot hc
      subst this
      exact ⟨b, o, rfl⟩
    obtain ⟨b, o, rfl⟩ := hspot
    refine ⟨b, o, rfl, fun i hil j f hj => ?_⟩
    obtain ⟨v, y, pl, n, h1, h2, h3⟩ := cellAt i hil j f hj
    rw [Addr.add_lit] at h1
    exact ⟨v, y, pl, n, h1, h2, h3⟩
end
/-- a field's bytes -/
theorem field_bytes {H : Type} {enc : TypeId × Value → H} {W : World} {v : Value} {y : DataW H} {pl : List MemPlace} {n : Nat} (h : DataW.trod enc Try.prog W 0 (fun _ => true) true n 27 [v] = some (y, pl)) (hw : Light Try.prog 27 y) :
    ∃ A m c l, v = .slice A m c ∧ Bs W A m c l ∧ c ≤ 140737488351232 := by
  obtain ⟨A, m, c, rfl⟩ : ∃ A m c, v = .slice A m c := by
    rcases DataW.trod_slice Try.underlying27 h with ⟨hcs, _⟩ | ⟨a, len, cap, _, _, _, _, hcs, _⟩
    · exact ⟨_, _, _, List.head_eq_of_cons_eq hcs⟩
    · exact ⟨_, _, _, List.head_eq_of_cons_eq hcs⟩
  obtain ⟨l, h1, h2⟩ := open_bytes (ts := [27]) (ds := [y]) (W := W) (A := A) (len := m) (cap := c) (p := pl) ⟨n, h⟩ 0 rfl rfl hw.each
  exact ⟨A, m, c, l, rfl, h1, h2⟩
/-- a field's number -/
theorem field_int {H : Type} {enc : TypeId × Value → H} {W : World} {v : Value} {y : DataW H} {pl : List MemPlace} {n : Nat} (h : DataW.trod enc Try.prog W 0 (fun _ => true) true n 3 [v] = some (y, pl)) :
    ∃ x : Int, v = .int .i64 x ∧ (Lit.int .i64 x).wf = true := by
  obtain ⟨x, hcs, _, hwf⟩ := DataW.trod_int Try.underlying3 h
  exact ⟨x, List.head_eq_of_cons_eq hcs, hwf⟩
end Go.Proofs.Ythblbmbefhlbjaa
/- An argument that is a row of calls of a log. -/
namespace Go.Proofs.Ythblbmbefhlbjaa
open Go.RowKit Go.ChangeShapes Go.WideShapes Go.Deep

/-- a call of a log -/
structure WAct where
  kd : Int
  n : Int
  k : Int
  l : List UInt8
/-- .. where it lies -/
def WActAt (w : World) (b o i : Nat) (x : WAct) : Prop :=
  w.cell? ⟨b, o + i * 4, none⟩ = some (.int .i64 x.kd) ∧ w.cell? ⟨b, o + i * 4 + 1, none⟩ = some (.int .i64 x.n) ∧ w.cell? ⟨b, o + i * 4 + 2, none⟩ = some (.int .i64 x.k) ∧
  ∃ A m c, w.cell? ⟨b, o + i * 4 + 3, none⟩ = some (.slice A m c) ∧ Bs w A m c x.l ∧ c ≤ 140737488351232
structure WAct.Fits (x : WAct) : Prop where
  kd : -9223372036854775808 ≤ x.kd ∧ x.kd ≤ 9223372036854775807
  n : -9223372036854775808 ≤ x.n ∧ x.n ≤ 9223372036854775807
  k : -9223372036854775808 ≤ x.k ∧ x.k ≤ 9223372036854775807
def WAs (w : World) (A : Option Addr) (n c : Nat) (L : List WAct) : Prop :=
  L.length = n ∧ n ≤ c ∧ c ≤ maxLen ∧ n ≤ 140737488351232 ∧ (0 < n → ∃ b o, A = some ⟨b, o, none⟩ ∧ ∀ i x, L[i]? = some x → WActAt w b o i x ∧ x.Fits)
theorem WAs.below {w w' : World} {A : Option Addr} {n c : Nat} {L : List WAct} (h : WAs w A n c L) (hb : Below w.heap.size w w') : WAs w' A n c L :=
  ⟨h.1, h.2.1, h.2.2.1, h.2.2.2.1, fun hn => by
    obtain ⟨b, o, e, hc⟩ := h.2.2.2.2 hn
    refine ⟨b, o, e, fun i x hx => ?_⟩
    obtain ⟨⟨c0, c1, c2, A5, m, c', c5, hB, hc'⟩, hf⟩ := hc i x hx
    have hl := World.block_lt_of_cell? w _ c0
    exact ⟨⟨(hb.cell (p := ⟨b, o + i * 4, none⟩) hl).trans c0, (hb.cell (p := ⟨b, o + i * 4 + 1, none⟩) hl).trans c1, (hb.cell (p := ⟨b, o + i * 4 + 2, none⟩) hl).trans c2, A5, m, c', (hb.cell (p := ⟨b, o + i * 4 + 3, none⟩) hl).trans c5, hB.below hb, hc'⟩, hf⟩⟩
theorem i64_wfW {x : Int} (h : (Lit.int .i64 x).wf = true) : -9223372036854775808 ≤ x ∧ x ≤ 9223372036854775807 := by
  simpa [Lit.wf, IntKind.min, IntKind.max, IntKind.signed, IntKind.bits] using h
theorem cellsWAct : Try.prog.cellsOf 29 = 4 := by kernel_rfl
theorem bytesWAct : 1 ≤ Try.prog.bytesOf 29 := by decide +kernel
open Classical in
theorem open_wacts {H : Type} {enc : TypeId × Value → H} {W : World} {A : Option Addr} {len cap : Nat} {d : DataW H} {p : List MemPlace} {ts : List TypeId} {ds : List (DataW H)}
    (h : DataW.Trod enc Try.prog W 0 (fun _ => true) true 22 (.slice A len cap) d p) (j : Nat) (ht : ts[j]? = some 22) (hd : ds[j]? = some d)
    (hs : (DataW.weightsEach Try.prog ts ds).all (· ≤ reachBytes) = true) : ∃ L, WAs W A len cap L := by
  obtain ⟨h1, h2, h3, h4⟩ := open_structs Try.underlying22 Try.underlying29 (by kernel_rfl) cellsWAct h (light_arg hs ht hd) (by decide)
  have hb := bytesWAct
  have hlen : len ≤ 140737488351232 := by
    have := Nat.mul_le_mul_left len hb
    simp only [reachBytes] at h3
    omega
  rcases Nat.eq_zero_or_pos len with h0 | h0
  · exact ⟨[], by simp [h0], h1, h2, hlen, fun h => absurd h (by omega)⟩
  · obtain ⟨b, o, rfl, hc⟩ := h4 h0
    have key : ∀ i, ∃ x : WAct, i < len → WActAt W b o i x ∧ x.Fits := by
      intro i
      by_cases hi : i < len
      · obtain ⟨v0, y0, p0, n0, c0, t0, l0⟩ := hc i hi 0 _ rfl
        obtain ⟨v1, y1, p1, n1, c1, t1, l1⟩ := hc i hi 1 _ rfl
        obtain ⟨v2, y2, p2, n2, c2, t2, l2⟩ := hc i hi 2 _ rfl
        obtain ⟨v5, y5, p5, n5, c5, t5, l5⟩ := hc i hi 3 _ rfl
        obtain ⟨x0, rfl, w0⟩ := field_int t0
        obtain ⟨x1, rfl, w1⟩ := field_int t1
        obtain ⟨x2, rfl, w2⟩ := field_int t2
        obtain ⟨A5, m5, k5, l, rfl, w5, w6⟩ := field_bytes t5 l5
        refine ⟨⟨x0, x1, x2, l⟩, fun _ => ⟨⟨?_, ?_, ?_, A5, m5, k5, ?_, w5, w6⟩, ⟨i64_wfW w0, i64_wfW w1, i64_wfW w2⟩⟩⟩
        · exact c0
        · exact c1
        · exact c2
        · exact c5
      · exact ⟨⟨0, 0, 0, []⟩, fun h => absurd h hi⟩
    refine ⟨(List.range len).map fun i => Classical.choose (key i), by simp, h1, h2, hlen, fun _ => ⟨b, o, rfl, fun i x hx => ?_⟩⟩
    rw [List.getElem?_map] at hx
    have hi : i < len := by
      rcases Nat.lt_or_ge i len with h | h
      · exact h
      · rw [List.getElem?_eq_none (by simpa using h)] at hx; cases hx
    rw [List.getElem?_range hi] at hx
    simp only [Option.map_some, Option.some.injEq] at hx
    subst hx
    exact Classical.choose_spec (key i) hi
end Go.Proofs.Ythblbmbefhlbjaa
