/- An argument that is a row of structs, each field one cell: its cells, and what each field reads as. No condition of ours. -/
import Derived.Test.YtolomfdommnklaaOpen
import Derived.Deep.Slices
import Derived.Deep.Fields
import Derived.ChangeSame
namespace Go.Proofs.Ytolomfdommnklaa
open Go.RowKit Go.ChangeShapes Go.WideShapes Go.Deep

/-- every weight within reach -/
def Light {H : Type} (P : Program) (t : TypeId) (d : DataW H) : Prop := ∀ n ∈ d.weights P t, n ≤ reachBytes
theorem light_arg {H : Type} {P : Program} {ts : List TypeId} {ds : List (DataW H)} {j : Nat} {t : TypeId} {d : DataW H} (hs : (DataW.weightsEach P ts ds).all (· ≤ reachBytes) = true) (ht : ts[j]? = some t) (hd : ds[j]? = some d) : Light P t d := fun n hn => by
  have := List.all_eq_true.1 hs _ (DataW.weights_mem_each ht hd n hn)
  simpa using this
theorem Light.each {H : Type} {P : Program} {t : TypeId} {d : DataW H} (h : Light P t d) : (DataW.weightsEach P [t] [d]).all (· ≤ reachBytes) = true := by
  rw [List.all_eq_true]
  intro n hn
  simp only [DataW.weightsEach, List.append_nil] at hn
  simpa using h n hn
theorem weightsAll_mem {H : Type} {P : Program} {e : TypeId} {y : Nat} : ∀ {ds : List (DataW H)} {d : DataW H}, d ∈ ds → y ∈ d.weights P e → y ∈ DataW.weightsAll P e ds
  | [], _, h, _ => by cases h
  | d0 :: r, d, h, hy => by
    simp only [DataW.weightsAll, List.mem_append]
    rcases List.mem_cons.1 h with rfl | h
    · exact .inl hy
    · exact .inr (weightsAll_mem h hy)
section
variable {H : Type} {enc : TypeId × Value → H} {P : Program} {W : World} {base : Nat} {spare : Nat → Bool} {held : Bool}
/-- the row's cells by element and field; each field with what it reads as, and within reach -/
theorem open_structs {t e : TypeId} {fs : Array Field} {A : Option Addr} {len cap : Nat} {d : DataW H} {p : List MemPlace} (ht : P.underlying t = some (.slice e)) (he : P.underlying e = some (.struct fs))
    (hone : oneCellFields P fs = true) (hC : P.cellsOf e = fs.size) (h : DataW.Trod enc P W base spare held t (.slice A len cap) d p) (hw : Light P t d) (hpos : 0 < fs.size) :
    len ≤ cap ∧ cap ≤ maxLen ∧ len * P.bytesOf e ≤ reachBytes ∧ (0 < len → ∃ b o, A = some ⟨b, o, none⟩ ∧ ∀ i, i < len → ∀ (j : Nat) (f : Field), fs[j]? = some f →
      ∃ (v : Value) (y : DataW H) (pl : List MemPlace) (n : Nat), W.cell? ⟨b, o + (i * fs.size + j), none⟩ = some v ∧ DataW.trod enc P W base spare held n f.type [v] = some (y, pl) ∧ Light P f.type y) := by
  obtain ⟨fuel, hf⟩ := h
  rcases open_slice ht hf with ⟨hcs, hx⟩ | ⟨a, l, c, m, n, D, Pl, hcs, _, hl, hm, hmm, hx, hi⟩
  · simp [Value.cells] at hcs
    obtain ⟨rfl, rfl, rfl⟩ := hcs
    exact ⟨Nat.le_refl _, by simp [maxLen], by omega, fun h0 => by omega⟩
  · simp [Value.cells] at hcs
    obtain ⟨rfl, rfl, rfl⟩ := hcs
    simp only [Prod.mk.injEq] at hx
    obtain ⟨rfl, _⟩ := hx
    have hlm : len ≤ m := by rw [hmm]; split <;> omega
    have hreach : len * P.bytesOf e ≤ reachBytes := by
      have h1 := hw (((List.range len).map D).length * P.bytesOf e + ((List.range (m - len)).map fun j => D (len + j)).length * P.bytesOf e) (by
        simp only [DataW.weights, ht, List.mem_cons]
        exact .inl (by rw [Nat.add_mul]))
      simp only [List.length_map, List.length_range] at h1
      omega
    refine ⟨hl, hm, hreach, fun h0 => ?_⟩
    have cellAt : ∀ i, i < len → ∀ (j : Nat) (f : Field), fs[j]? = some f → ∃ (v : Value) (y : DataW H) (pl : List MemPlace) (n : Nat), W.cell? (a.add (i * fs.size + j)) = some v ∧ DataW.trod enc P W base spare held n f.type [v] = some (y, pl) ∧ Light P f.type y := by
      intro i hil j f hj
      obtain ⟨cs', hc, ht'⟩ := hi i (by omega)
      rw [hC] at hc
      obtain ⟨ys, n', _, hy, hlen, hyl, hg⟩ := DataW.trod_struct he ht'
      obtain ⟨_, hcl, hat⟩ := World.cells?_some hc
      simp only [Prod.mk.injEq] at hy
      obtain ⟨ho, hk⟩ := hone_of hone j f hj
      have hjl : j < fs.size := (Array.getElem?_eq_some_iff.1 hj).1
      have hlt : j < cs'.length := by omega
      have h1 := hg j f hj
      rw [ho, hk, take1_drop cs' j undef hlt] at h1
      have hys : ys[j]? = some (ys[j]'(by omega)) := List.getElem?_eq_getElem (by omega)
      rw [hys] at h1
      refine ⟨cs'.getD j undef, (ys[j]'(by omega)).1, (ys[j]'(by omega)).2, n', ?_, h1, fun y hyw => hw y ?_⟩
      · have h2 := hat j hjl
        rw [← Go.Deep.add_add, h2, List.getD_eq_getElem?_getD, List.getElem?_eq_getElem hlt, Option.getD_some]
      · simp only [DataW.weights, ht, List.mem_cons, List.mem_append]
        refine .inr (.inl (weightsAll_mem (List.mem_map.2 ⟨i, List.mem_range.2 hil, rfl⟩) ?_))
        rw [hy.1]
        simp only [DataW.weights, he]
        refine DataW.weights_mem_each (j := j) (t := f.type) (d := (ys[j]'(by omega)).1) ?_ ?_ y hyw
        · rw [List.getElem?_map, Array.getElem?_toList, hj]; rfl
        · rw [List.getElem?_map, hys]; rfl
    have hspot : ∃ b o, a = ⟨b, o, none⟩ := by
      obtain ⟨b, o, s⟩ := a
      obtain ⟨f0, hf0⟩ : ∃ f0, fs[0]? = some f0 := ⟨fs[0], Array.getElem?_eq_getElem hpos⟩
      obtain ⟨v, _, _, _, hc, _⟩ := cellAt 0 h0 0 f0 hf0
      have : s = none := by simpa [Addr.add] using World.cell?_spot hc
      subst this
      exact ⟨b, o, rfl⟩
    obtain ⟨b, o, rfl⟩ := hspot
    refine ⟨b, o, rfl, fun i hil j f hj => ?_⟩
    obtain ⟨v, y, pl, n, h1, h2, h3⟩ := cellAt i hil j f hj
    rw [Addr.add_lit] at h1
    exact ⟨v, y, pl, n, h1, h2, h3⟩
end
/-- a field's bytes -/
theorem field_bytes {H : Type} {enc : TypeId × Value → H} {W : World} {v : Value} {y : DataW H} {pl : List MemPlace} {n : Nat} (h : DataW.trod enc Try.prog W 0 (fun _ => true) true n 22 [v] = some (y, pl)) (hw : Light Try.prog 22 y) :
    ∃ A m c l, v = .slice A m c ∧ Bs W A m c l ∧ c ≤ 140737488351232 := by
  obtain ⟨A, m, c, rfl⟩ : ∃ A m c, v = .slice A m c := by
    rcases DataW.trod_slice Try.underlying22 h with ⟨hcs, _⟩ | ⟨a, len, cap, _, _, _, _, hcs, _⟩
    · exact ⟨_, _, _, List.head_eq_of_cons_eq hcs⟩
    · exact ⟨_, _, _, List.head_eq_of_cons_eq hcs⟩
  obtain ⟨l, h1, h2⟩ := open_bytes (ts := [22]) (ds := [y]) (W := W) (A := A) (len := m) (cap := c) (p := pl) ⟨n, h⟩ 0 rfl rfl hw.each
  exact ⟨A, m, c, l, rfl, h1, h2⟩
/-- a field's text -/
theorem field_string {H : Type} {enc : TypeId × Value → H} {W : World} {v : Value} {y : DataW H} {pl : List MemPlace} {n : Nat} (h : DataW.trod enc Try.prog W 0 (fun _ => true) true n 9 [v] = some (y, pl)) (hw : Light Try.prog 9 y) :
    ∃ s : ByteArray, v = .string s ∧ s.size ≤ 140737488351232 := by
  obtain ⟨s, hcs, hx, _⟩ := DataW.trod_string Try.underlying9 h
  refine ⟨s, List.head_eq_of_cons_eq hcs, ?_⟩
  simp only [Prod.mk.injEq] at hx
  rw [hx.1] at hw
  have := hw s.data.toList.length (by simp [DataW.weights])
  simpa [reachBytes] using this
/-- a field's number -/
theorem field_int {H : Type} {enc : TypeId × Value → H} {W : World} {v : Value} {y : DataW H} {pl : List MemPlace} {n : Nat} (h : DataW.trod enc Try.prog W 0 (fun _ => true) true n 3 [v] = some (y, pl)) :
    ∃ x : Int, v = .int .i64 x ∧ (Lit.int .i64 x).wf = true := by
  obtain ⟨x, hcs, _, hwf⟩ := DataW.trod_int Try.underlying3 h
  exact ⟨x, List.head_eq_of_cons_eq hcs, hwf⟩
end Go.Proofs.Ytolomfdommnklaa
