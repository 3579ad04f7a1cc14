/- Layer 19: any text parsed, walked. -/
import Derived.Test.YtnoppnnpennddaaDoorTrV
import Derived.Test.YtnoppnnpennddaaDoorTr8
namespace Go.Proofs.YtnoppnnpennddaaDoor
open Go.RowKit

def parseF : Nat → List TStep → Nat → List UInt8 → List TStep × Nat × Int
  | 0, _, n, _ => ([], n, 10)
  | f + 1, L, n, s => if s = [] then (L, n, 0) else
    match Lib.cut s [10] with
    | (_, _, false) => ([], n, 10)
    | (a, r, true) => match lineT L a with
      | none => ([], n, 10)
      | some L' => parseF f L' (n + 1) r
def RetPa (B : Nat) (r : List TStep × Nat × Int) (w : World) (e : Ending) (w' : World) : Prop :=
  ∃ v, e = .returned (.tuple #[v, .int .i64 (r.2.1 : Int), .int .i64 r.2.2]) ∧ PSt w' B v r.1 ∧ Below B w w'
theorem lineT_len {L L' : List TStep} {s : List UInt8} {n : Nat} (h : lineT L s = some L') (hn : L.length ≤ n) (ho : ∀ y ∈ L, y.outs.length ≤ n) : L'.length ≤ n + 1 ∧ ∀ y ∈ L', y.outs.length ≤ n + 1 := by
  have hs : ∀ {x : TStep} {z : TStep}, L.getLast? = some x → z.outs.length ≤ x.outs.length + 1 → (L.dropLast ++ [z]).length ≤ n + 1 ∧ ∀ y ∈ L.dropLast ++ [z], y.outs.length ≤ n + 1 := by
    intro x z hx hz
    refine ⟨by simp; omega, fun y hy => ?_⟩
    rcases List.mem_append.1 hy with h | h
    · have := ho y ((List.dropLast_subset L) h); omega
    · rw [List.mem_singleton.1 h]
      have := ho x (List.mem_of_getLast? hx)
      omega
  unfold lineT at h
  split at h
  · split at h
    · cases h
    · rename_i x hx
      split at h
      · cases h
      · injection h with h
        subst h
        exact hs hx (by simp)
  · split at h
    · split at h
      · cases h
      · rename_i x hx
        split at h
        · cases h
        · injection h with h
          subst h
          exact hs hx (by simp)
    · split at h
      · cases h
      · injection h with h
        subst h
        refine ⟨by simp; omega, fun y hy => ?_⟩
        rcases List.mem_append.1 hy with h | h
        · have := ho y h; omega
        · rw [List.mem_singleton.1 h]; simp
theorem cut_sz {s a r : List UInt8} {f : Bool} (h : Lib.cut s [10] = (a, r, f)) : a.length ≤ s.length ∧ (f = true → r.length + 1 ≤ s.length) := by
  unfold Lib.cut at h
  split at h
  · rename_i h0
    have hr := Lib.index_room s [10] h0
    simp only [Prod.mk.injEq] at h
    obtain ⟨rfl, rfl, rfl⟩ := h
    simp only [List.length_take, List.length_drop, List.length_cons, List.length_nil] at hr ⊢
    omega
  · simp only [Prod.mk.injEq] at h
    obtain ⟨rfl, rfl, rfl⟩ := h
    simp
theorem parseF_more : ∀ (f f' : Nat) (L : List TStep) (n : Nat) (s : List UInt8), s.length < f → s.length < f' → parseF f L n s = parseF f' L n s
  | 0, _, _, _, _, h, _ => by omega
  | _, 0, _, _, _, _, h => by omega
  | f + 1, f' + 1, L, n, s, h, h' => by
    rw [parseF, parseF]
    split
    · rfl
    · split
      · rfl
      · rename_i a r hc
        have := (cut_sz hc).2 rfl
        split
        · rfl
        · exact parseF_more f f' _ _ r (by omega) (by omega)
def sizeV : Value → Nat
  | .string b => b.size
  | _ => 0

set_option maxHeartbeats 8000000 in
set_option maxRecDepth 100000 in
theorem parse_ (s : ByteArray) (w : World) (hs : s.size ≤ 100000000) (hm : MaxLen w) (hr : TRows w) : Calls Tryd.prog 23 #[.string s] w (RetPa w.heap.size (parseF (s.size + 1) [] 0 s.data.toList) w) := by
  have HM := Lib.hid (fun W (hb : Below w.heap.size w W) => hm.below hb)
  have HR := Lib.hid (fun W (hb : Below w.heap.size w W) => hr.below hb)
  have HS := Lib.hid hs
  clear hm hr
  obtain ⟨R, hR⟩ : ∃ R, R = parseF (s.size + 1) [] 0 s.data.toList := ⟨_, rfl⟩
  have HRR := Lib.hid hR
  rw [← hR]
  clear hR
  go_enter Tryd.func23, Tryd.ntmps23
  go_wp2_with (fail)
  go_loopw [0, 5, 6, 7, 8, 9, 10, 11] (fun sv v nv _ _ _ _ _ wr => ∃ (sb : ByteArray) (L : List TStep) (k : Nat), sv = .string sb ∧ nv = .int .i64 (k : Int) ∧ k + sb.size ≤ s.size ∧ L.length ≤ k ∧ (∀ y ∈ L, y.outs.length ≤ k) ∧ parseF (sb.size + 1) L k sb.data.toList = R ∧ PSt wr w.heap.size v L ∧ Below w.heap.size w wr) (fun sv _ _ _ _ _ _ _ _ => sizeV sv)
  case atStart => exact ⟨s, [], 0, rfl, rfl, by omega, by simp, (fun y hy => by cases hy), HRR.out.symm, .inl ⟨rfl, rfl⟩, Below.refl _ _⟩
  case round =>
    obtain ⟨wo, rfl⟩ : ∃ wo : World, wo = wr := ⟨_, rfl⟩
    obtain ⟨sb, L, k, rfl, rfl, hk, hL, hO, hp, hst, hb⟩ := hrel
    have HB := Lib.hid hb
    have HST := Lib.hid hst
    have HPF := Lib.hid hp
    have HK := Lib.hid hk
    have HLL := Lib.hid hL
    have HOO := Lib.hid hO
    clear hb hst hp hL hO
    by_cases h0 : sb.data.toList = []
    · have e1 : sb.toList.isEmpty = true := by rw [Go.ByteArray.toList_eq, h0]; rfl
      have HE : Hid (R = (L, k, 0)) := Lib.hid (by rw [← HPF.out, parseF, if_pos h0])
      clear h0
      go_wp2_with (fail)
      refine bodyPost_ret (v := .tuple #[_, .int .i64 (k : Int), .int .i64 0]) (results_tmp3 Tryd.results23 _ _ _) rfl ?_
      exact ⟨_, by rw [HE.out], by rw [HE.out]; exact HST.out, HB.out⟩
    · have e1 : sb.toList.isEmpty = false := by rw [Go.ByteArray.toList_eq]; cases hh : sb.data.toList with | nil => exact absurd hh h0 | cons a b => rfl
      have hsl : sb.data.toList.length = sb.size := by simp
      have HSL := Lib.hid hsl
      rcases hc : Lib.cut sb.data.toList [10] with ⟨a, r, f⟩
      have hsz := cut_sz hc
      have HPE : Hid (parseF (sb.size + 1) L k sb.data.toList = match ((a, r, f) : List UInt8 × List UInt8 × Bool) with
        | (_, _, false) => ([], k, 10)
        | (a, r, true) => match lineT L a with
          | none => ([], k, 10)
          | some L' => parseF sb.size L' (k + 1) r) := Lib.hid (by rw [parseF, if_neg h0, hc])
      have HSZ := Lib.hid hsz
      have hwk : IntKind.i64.wrap ((k : Int) + 1) = (k : Int) + 1 := IntWalk.i64_in _ (by have := HS.out; omega)
      clear h0 hsz
      go_wp2_with (fail)
      obtain ⟨q, hq⟩ := HM.out _ HB.out
      refine (Tryd.strings_Cut sb (txt [10]) q wo (by have := HS.out; have := HK.out; omega) hq).mono ?_
      rw [show (txt [10]).data.toList = [10] from rfl, hc]
      rintro e w1 ⟨rfl, nq, rfl⟩
      have hbd : Below wo.heap.size wo (wo.drewN nq) := drawN_below (Below.refl _ _) nq
      have HB1 : Hid (Below w.heap.size w (wo.drewN nq)) := Lib.hid (drawN_below HB.out _)
      have HST1 := Lib.hid (HST.out.below hbd)
      generalize wo.drewN nq = w1 at *
      clear hq hbd hc
      cases f
      · have HE : Hid (R = ([], k, 10)) := Lib.hid (by rw [← HPF.out, HPE.out])
        go_wp2_with (fail)
        refine bodyPost_ret (v := .tuple #[nilE, .int .i64 (k : Int), .int .i64 10]) (results_tmp3 Tryd.results23 _ _ _) rfl ?_
        exact ⟨_, by rw [HE.out], by rw [HE.out]; exact .inl ⟨rfl, rfl⟩, HB1.out⟩
      · go_wp2_with (fail)
        refine (line_ (txt a) w.heap.size _ L w1 (by rw [size_txt]; have := HSZ.out.1; have := HSL.out; have := HS.out; have := HK.out; omega) HB1.out.size (by have := HLL.out; have := HS.out; have := HK.out; omega) (fun y hy => by have := HOO.out y hy; have := HS.out; have := HK.out; omega) HST1.out (HM.out _ HB1.out) (HR.out _ HB1.out)).mono ?_
        rw [show (txt a).data.toList = a from rfl]
        rintro e w2 (⟨hn, ⟨v', rfl⟩, hb2⟩ | ⟨v', L', hn, rfl, hst2, hb2⟩)
        · have HB2 := Lib.hid (HB1.out.trans hb2)
          have HE : Hid (R = ([], k, 10)) := Lib.hid (by rw [← HPF.out, HPE.out]; first | rw [hn] | (dsimp only; rw [hn]))
          clear hb2
          go_wp2_with (fail)
          refine bodyPost_ret (v := .tuple #[nilE, .int .i64 (k : Int), .int .i64 10]) (results_tmp3 Tryd.results23 _ _ _) rfl ?_
          exact ⟨_, by rw [HE.out], by rw [HE.out]; exact .inl ⟨rfl, rfl⟩, HB2.out⟩
        · have HB2 := Lib.hid (HB1.out.trans hb2)
          have HST2 := Lib.hid hst2
          have HLL2 := Lib.hid (lineT_len hn HLL.out HOO.out)
          have hr1 := HSZ.out.2 (by first | rfl | trivial)
          have HE : Hid (parseF ((txt r).size + 1) L' (k + 1) (txt r).data.toList = R) := Lib.hid (by
            rw [← HPF.out, HPE.out]
            first | rw [hn] | (dsimp only; rw [hn])
            first | rw [size_txt] | (dsimp only; rw [size_txt])
            exact parseF_more _ _ _ _ _ (by show r.length < _; omega) (by show r.length < _; omega))
          clear hb2 hst2
          go_wp2_with (fail)
          exact ⟨⟨txt r, L', k + 1, rfl, rfl, by rw [size_txt]; omega, HLL2.out.1, HLL2.out.2, HE.out, HST2.out, HB2.out⟩, by show (txt r).size < sb.size; rw [size_txt]; omega⟩
end Go.Proofs.YtnoppnnpennddaaDoor
