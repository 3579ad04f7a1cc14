/- Layer 15: numbers in files of different names. -/
import Derived.Test.YtolomfdommnklaaCurOrderW
import Derived.Test.YtolomfdommnklaaMaps2
namespace Go.Proofs.Ytolomfdommnklaa
open Go.RowKit Go.MapKept

theorem aget_asetD {κ : Type} [DecidableEq κ] (L : List (κ × Value)) (x : κ) (v : Value) (y : κ) : aget (aset L x v) y = if y = x then some v else aget L y := by
  induction L with
  | nil =>
    unfold aset aget
    split
    · rfl
    · rfl
  | cons a r ih =>
    obtain ⟨k, u⟩ := a
    unfold aset
    split
    · rename_i e
      subst e
      unfold aget
      split
      · rfl
      · rfl
    · rename_i e
      unfold aget
      split
      · rename_i e2
        subst e2
        rw [if_neg (fun q => e q.symm)]
      · exact ih
theorem aset_lenD {κ : Type} [DecidableEq κ] : ∀ (L : List (κ × Value)) (x : κ) (v : Value), (aset L x v).length = if aget L x = none then L.length + 1 else L.length
  | [], x, v => by simp [aset, aget]
  | (k, u) :: r, x, v => by
    have ih := aset_lenD r x v
    unfold aset aget
    by_cases e : x = k
    · rw [if_pos e, if_pos e, if_neg (by simp)]; rfl
    · rw [if_neg e, if_neg e, List.length_cons, ih]
      split <;> simp
theorem fdel_none' : ∀ {fs : Fs} {n : ByteArray}, fget fs n = none → fdel fs n = fs
  | [], n, _ => rfl
  | (a, u) :: r, n, h => by
    unfold fget at h
    split at h
    · cases h
    · rename_i e
      unfold fdel
      rw [if_neg e, fdel_none' h]
theorem fdel_some_len : ∀ {fs : Fs} {n : ByteArray} {f : Fl}, fget fs n = some f → (fdel fs n).length + 1 = fs.length
  | (a, u) :: r, n, f, h => by
    unfold fget at h
    unfold fdel
    split at h
    · rename_i e; rw [if_pos e]; rfl
    · rename_i e
      rw [if_neg e, List.length_cons, List.length_cons, fdel_some_len h]
theorem fget_none_of {fs : Fs} {n : ByteArray} (h : n ∉ fs.map (·.1)) : fget fs n = none := by
  induction fs with
  | nil => rfl
  | cons a r ih =>
    obtain ⟨a, u⟩ := a
    simp only [List.map_cons, List.mem_cons, not_or] at h
    unfold fget
    rw [if_neg h.1]
    exact ih h.2
theorem fget_fdel_same {fs : Fs} {n : ByteArray} (h : (fs.map (·.1)).Nodup) : fget (fdel fs n) n = none := fget_none_of (fdel_names_not h)

def nms4 : List ByteArray := [⟨#[97]⟩, ⟨#[98]⟩, ⟨#[99, 49]⟩, ⟨#[100, 46, 120]⟩]
theorem nms4_right (j : Nat) (hj : j < 4) : nameD (nms4.getD j ⟨#[]⟩) = true ∧ nameD (tmpN (nms4.getD j ⟨#[]⟩)) = true ∧ tmpN (nms4.getD j ⟨#[]⟩) ∉ nms4 ∧ nms4.getD j ⟨#[]⟩ ∈ nms4 ∧ (nms4.getD j ⟨#[]⟩).size ≤ 3 := by
  have h : j = 0 ∨ j = 1 ∨ j = 2 ∨ j = 3 := by omega
  have hsz : ∀ x ∈ nms4, x.size ≤ 3 := by
    intro x hx
    simp only [nms4, List.mem_cons, List.not_mem_nil, or_false] at hx
    rcases hx with rfl | rfl | rfl | rfl <;> decide
  have hm : nms4.getD j ⟨#[]⟩ ∈ nms4 := by
    rw [List.getD_eq_getElem?_getD, List.getElem?_eq_getElem (show j < nms4.length from hj)]
    exact List.getElem_mem _
  have hpos : 1 ≤ (nms4.getD j ⟨#[]⟩).size := by rcases h with rfl | rfl | rfl | rfl <;> decide
  refine ⟨?_, ?_, fun hc => by have := hsz _ hc; rw [tmpN_size] at this; omega, hm, hsz _ hm⟩
  · rcases h with rfl | rfl | rfl | rfl <;> decide +kernel
  · rcases h with rfl | rfl | rfl | rfl <;> decide +kernel
/-- where the files and the map stand -/
structure CF (d : Dk) (fs : Fs) (L : List (ByteArray × Value)) (k : Nat) : Prop where
  ok : FsOk d fs
  room : d.room = 1073741824
  fail : d.failIn = 0
  arm : d.armedIn = 0
  ops : d.ops ≤ 3 * (k : Int)
  len : fs.length = L.length
  le : L.length ≤ k
  used : d.used = 12 * (L.length : Int)
  at_ : ∀ x, (fget fs x = none ∧ aget L x = none) ∨ ∃ v : Nat, v ≤ 1099511627776 ∧ fget fs x = some ⟨bytesD v, 12⟩ ∧ aget L x = some (.int .i64 (v : Int))
  own : ∀ x, fget fs x ≠ none → x ∈ nms4
theorem CF.new : CF ⟨1073741824, 0, 0, 0, 0, 0⟩ (fsOf []) [] 0 :=
  ⟨newDk_ok 1073741824 (by decide), rfl, rfl, rfl, by simp, rfl, Nat.le_refl _, rfl, fun x => .inl ⟨rfl, rfl⟩, fun x h => absurd rfl h⟩
theorem CF.step {d : Dk} {fs : Fs} {L : List (ByteArray × Value)} {k j v : Nat} (h : CF d fs L k) (hj : j < 4) (hv : v ≤ 1099511627776) (hk : k ≤ 60) :
    ∃ d' fs', saveD d fs (nms4.getD j ⟨#[]⟩) (v : Int) = (.inl 0, d', fs') ∧ CF d' fs' (aset L (nms4.getD j ⟨#[]⟩) (.int .i64 (v : Int))) (k + 1) := by
  obtain ⟨n1, n2, n3, n4, n5⟩ := nms4_right j hj
  generalize nms4.getD j ⟨#[]⟩ = nm at *
  have hno : fget fs (tmpN nm) = none := by
    rcases h.at_ (tmpN nm) with h1 | ⟨_, _, h1, _⟩
    · exact h1.1
    · exact absurd (h.own _ (by rw [h1]; simp)) n3
  have hle := h.le
  have hu := h.used
  have hr := h.room
  have hok := h.ok.ok.ops
  have hops := h.ops
  have hs := saveD_good (d := d) (fs := fs) (nm := nm) (n := v) hv n1 n2 h.arm h.fail (by omega) hno
  have hsok := (saveD_ok h.ok (by omega) nm (v : Int)).1
  refine ⟨_, _, hs, ?_⟩
  rw [hs] at hsok
  have hnd := h.ok.names
  have hgn := fget_fdel_same (n := nm) hnd
  have hlenA := aset_lenD L nm (.int .i64 (v : Int))
  have hcase : (fget fs nm = none ∧ aget L nm = none ∧ flen fs nm = 0 ∧ (fdel fs nm).length = fs.length ∧ (aset L nm (.int .i64 (v : Int))).length = L.length + 1) ∨ (flen fs nm = 12 ∧ (fdel fs nm).length + 1 = fs.length ∧ (aset L nm (.int .i64 (v : Int))).length = L.length) := by
    rcases h.at_ nm with ⟨h1, h2⟩ | ⟨u, _, h1, h2⟩
    · exact .inl ⟨h1, h2, by unfold flen; rw [h1], by rw [fdel_none' h1], by rw [hlenA, if_pos h2]⟩
    · exact .inr ⟨by unfold flen; rw [h1]; rfl, fdel_some_len h1, by rw [hlenA, if_neg (by rw [h2]; simp)]⟩
  have hl := h.len
  refine ⟨hsok, h.room, h.fail, h.arm, by show d.ops + 3 ≤ _; omega, ?_, ?_, ?_, fun x => ?_, fun x hx => ?_⟩
  · rw [List.length_append, List.length_singleton]
    rcases hcase with ⟨_, _, _, h4, h5⟩ | ⟨_, h4, h5⟩ <;> omega
  · rcases hcase with ⟨_, _, _, h4, h5⟩ | ⟨_, h4, h5⟩ <;> omega
  · show d.used + 12 - (flen fs nm : Int) = _
    rcases hcase with ⟨_, _, h3, h4, h5⟩ | ⟨h3, h4, h5⟩
    · rw [h3, h5]; omega
    · rw [h3, h5]; omega
  · rw [aget_asetD]
    by_cases hx : x = nm
    · subst hx
      exact .inr ⟨v, hv, fget_app_new _ hgn, if_pos rfl⟩
    · rw [if_neg hx, fget_app_ne _ hx, fget_fdel_ne (fun e => hx e.symm)]
      exact h.at_ x
  · by_cases hxn : x = nm
    · rw [hxn]; exact n4
    · rw [fget_app_ne _ hxn, fget_fdel_ne (fun e => hxn e.symm)] at hx
      exact h.own x hx
theorem CF.load {d : Dk} {fs : Fs} {L : List (ByteArray × Value)} {k : Nat} (h : CF d fs L k) (x : ByteArray) : ∃ v : Nat, loadD fs x = ((v : Int), 0) ∧ (aget L x).getD (.int .i64 0) = .int .i64 (v : Int) := by
  unfold loadD
  rcases h.at_ x with ⟨h1, h2⟩ | ⟨v, hv, h1, h2⟩
  · exact ⟨0, by rw [h1]; rfl, by rw [h2]; rfl⟩
  · exact ⟨v, by rw [h1]; exact numD_bytes hv, by rw [h2]; rfl⟩
theorem run_lenL {P : Program} {k e T : TypeId} {κ : Type} {kv : κ → Value} {w : World} {M : Nat} {L : List (κ × Value)} (ht : P.underlying T = some (.map k e)) (h : MapIs kv w M L) (ty : TypeId) : (Builtin.len_ #[T] ty #[.map (some M)]).run P w = .ok (.int .i64 (L.length : Int)) w := by
  obtain ⟨es, n, hb, he, _⟩ := h
  have hl : es.size = L.length := by
    have := congrArg List.length he
    simpa using this
  simp [Builtin.len_, run_underlying ht, MapKept.run_getObj_map hb, goInt, Result.andThen, hl]
end Go.Proofs.Ytolomfdommnklaa
