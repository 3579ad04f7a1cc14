/- Layer 3: closures that a loop defers, and how they run when the power goes. -/
import Derived.Test.YtikobhbknnlgbaaGuardAliveL
import Derived.Test.YtikobhbknnlgbaaGuardS
import Derived.Laws.EntriesVeiled
namespace Go.Proofs.Ytikobhbknnlgbaa
open Go.RowKit

/-- the box of the numbers that were added; their row lies from C on -/
def OrdD (C O : Nat) (xs : List Int) (w : World) : Prop := ∃ vo, w.heap[O]? = some (.cells #[vo] 49) ∧ w.ownsRow C 3 1 vo xs.length (xs.map (Value.int .i64 ·)) ∧ O < C ∧ C ≤ w.heap.size
abbrev SD (C O k : Nat) : Prop := C ≤ k ∨ k = O
theorem intInfoD : (Try.prog.info? 3).map (fun i => (i.zero, i.size, i.bytes)) = some (some (.int .i64 0), 1, 8) := by kernel_rfl
theorem newRowD (wa : World) (u : Value) (E : TypeId) : ∀ (j : Nat) (x : Value), [u][j]? = some x → (wa.alloc (.cells #[u] E)).cell? ((⟨wa.heap.size, 0, none⟩ : Addr).add j) = some x := fun j x hx => by
  have hj : j = 0 := by
    rcases Nat.lt_or_ge j 1 with h | h
    · omega
    · rw [List.getElem?_eq_none (by simpa using h)] at hx; cases hx
  subst hj
  rw [Addr.add_lit, Nat.zero_add, cell_of_row _ wa.heap.size 0 _ _ _ (heap_alloc_new wa _)]
  exact hx
theorem oneD (i : Int) : ∀ u ∈ [Value.int .i64 i], u.oneCell' = true := fun u hu => by simp at hu; subst hu; rfl
theorem mapD (xs : List Int) (i : Int) : xs.map (Value.int .i64 ·) ++ [Value.int .i64 i] = (xs ++ [i]).map (Value.int .i64 ·) := by simp
set_option maxHeartbeats 2000000 in
set_option maxRecDepth 100000 in
/-- a closure that adds its number -/
theorem dfr11 (C O b : Nat) (i : Int) (xs : List Int) (u : FrameMode) (w : World) (h : OrdD C O xs w) (hb : w.heap[b]? = some (.cells #[.int .i64 i] 3)) (hn : xs.length ≤ 1000) :
    CallsD Try.prog 33 #[.pointer (some ⟨O, 0, none⟩), .pointer (some ⟨b, 0, none⟩)] u w fun e u' w' => u' = u ∧ (e = .returned (.tuple #[]) ∧ OrdD C O (xs ++ [i]) w' ∧ Ch (SD C O) w w') := by
  obtain ⟨vo, hO, hown, hlt, hC⟩ := h
  have c0 := cell_of_row w O 0 _ _ _ hO
  have c1 := cell_of_row w b 0 _ _ _ hb
  simp only [List.getElem?_toArray, List.getElem?_cons_zero] at c0 c1
  have HO := Lib.hid hO
  have HW := Lib.hid hown
  have HL := Lib.hid hlt
  have HC := Lib.hid hC
  have HN := Lib.hid hn
  clear hO hown hlt hC hn hb
  go_enter_d Try.func33, Try.ntmps33
  have hbA : Below w.heap.size w (w.alloc (.cells #[.int .i64 i] 3)) := (Below.refl _ _).alloc (Nat.le_refl _) _
  have HWA : Hid ((w.alloc (.cells #[.int .i64 i] 3)).ownsRow C 3 1 vo xs.length (xs.map (Value.int .i64 ·))) := Lib.hid (own_ch HW.out (Ch.of_below (S := fun _ => False) hbA) (fun _ _ h => h))
  have HOA := Lib.hid ((hbA.block O (Array.getElem?_eq_some_iff.1 HO.out).1).trans HO.out)
  have HCA : Hid (C ≤ (w.alloc (.cells #[.int .i64 i] 3)).heap.size) := Lib.hid (Nat.le_trans HC.out hbA.size)
  have HBA := Lib.hid hbA
  clear hbA
  have tok : Hid True := Lib.hid trivial
  go_wp2_with (at_builtin; have _t := tok; go_loud ((refine wpList_appAt rfl (.tmp 2) (.tmp 4) 49 rfl C 3 (.int .i64 0) 8 Try.underlying49 intInfoD rfl (by decide) vo xs.length (xs.map (Value.int .i64 ·)) rfl HWA.out ⟨w.heap.size, 0, none⟩ 1 1 [.int .i64 i] rfl rfl (newRowD w _ _) (oneD i) (by have := HN.out; omega) HCA.out ?_; intro v2 w2 ho2 hg2 hf2; obtain ⟨A2, k2, hv2⟩ := own_form ho2; subst hv2; rw [mapD] at ho2; have HO2 := Lib.hid ho2; have hc2 : Ch (SD C O) (w.alloc (.cells #[.int .i64 i] 3)) w2 := Ch.of_grown hg2 (fun k hk => .inl (World.ownsRow.lt HWA.out k hk).1); have HC2 := Lib.hid hc2; have ro : w2.heap[O]? = some (.cells #[vo] 49) := (Ch.of_grown (S := fun k => vo.ownBlock = some k) hg2 (fun k hk => hk)).row HOA.out (fun e => by have := (World.ownsRow.lt HWA.out O e).1; have := HL.out; omega); have HRO := Lib.hid ro; have z0 : w2.cell? ⟨O, 0, none⟩ = some vo := cell_of_row _ O 0 _ _ _ ro; have z1 : w2.frozen? ⟨O, 0, none⟩ = false := (by simp [World.frozen?, ro]); clear tok ho2 hg2 hf2 hc2 ro _t)))
  go_end0
  have hset : Ch (SD C O) (w.alloc (.cells #[.int .i64 i] 3)) (w2.setCell ⟨O, 0, none⟩ (.slice A2 (xs.length + 1) k2)) := HC2.out.set (a := ⟨O, 0, none⟩) (.inr rfl) _
  refine ⟨rfl, ⟨_, heap_setCell_same _ _ _ _ _ _ HRO.out, ?_, HL.out, by have := HCA.out; have := hset.size; omega⟩, (Ch.of_below (S := SD C O) HBA.out).trans hset (fun _ _ h => h)⟩
  rw [List.length_append]
  exact own_ch HO2.out ((Ch.refl (At1 O) w2).set (a := ⟨O, 0, none⟩) rfl _) (fun k hk hs => by have := (World.ownsRow.lt HO2.out k hk).1; have h3 := HL.out; have h2 : k = O := hs; omega)
/-- what the loop defers -/
abbrev defD (O b : Nat) : Deferred := { target := .fn (.func 33) #[.pointer (some ⟨O, 0, none⟩), .pointer (some ⟨b, 0, none⟩)], args := #[] }
theorem leavesD {fn : Func} {tmps : Array Value} {R : Ending → World → Prop} (C O : Nat) (op : Int) : ∀ (bs : List (Nat × Int)) (xs : List Int) (w : World), OrdD C O xs w → xs.length + bs.length ≤ 1000 →
    (∀ q ∈ bs, q.1 < C ∧ q.1 ≠ O ∧ w.heap[q.1]? = some (.cells #[.int .i64 q.2] 3)) →
    (∀ w', OrdD C O (xs ++ bs.map (·.2)) w' → Ch (SD C O) w w' → R (.panicked [{ v := crashI op, recovered := false }]) w') →
    Leaves Try.prog fn tmps R (bs.map fun q => defD O q.1) (.panicking [{ v := crashI op, recovered := false }]) w
  | [], xs, w, h, _, _, hR => by
    show R _ w
    exact hR w (by simpa using h) (Ch.refl _ w)
  | (b, i) :: bs, xs, w, h, hn, hb, hR => by
    have h0 := hb (b, i) (by simp)
    refine leaves_cons (f := 33) (args := #[.pointer (some ⟨O, 0, none⟩), .pointer (some ⟨b, 0, none⟩)]) (by simp) (by simp [go_sem]) ?_
    refine (dfr11 C O b i xs _ w h h0.2.2 (by simp at hn; omega)).mono ?_
    rintro e u' w' ⟨rfl, rfl, ho, hc⟩
    show Leaves _ _ _ _ _ _ _
    refine leavesD C O op bs (xs ++ [i]) w' ho (by simp at hn ⊢; omega) (fun q hq => ?_) (fun w2 h2 hc2 => hR w2 (by simpa using h2) (hc.trans hc2 (fun _ _ h => h)))
    obtain ⟨h1, h2, h3⟩ := hb q (by simp [hq])
    exact ⟨h1, h2, hc.row h3 (fun hs => by rcases hs with hs | hs; omega; exact h2 hs)⟩
/-- the boxes that the loop made, the last one first -/
def boxD (B : Nat) : Nat → List (Nat × Int)
  | 0 => []
  | k + 1 => (B + k, (k : Int)) :: boxD B k
theorem boxD_len (B : Nat) : ∀ k, (boxD B k).length = k
  | 0 => rfl
  | k + 1 => by simp [boxD, boxD_len B k]
theorem boxD_mem (B : Nat) : ∀ (k : Nat) (q : Nat × Int), q ∈ boxD B k → ∃ i : Nat, i < k ∧ q = (B + i, (i : Int))
  | 0, q, h => by cases h
  | k + 1, q, h => by
    rcases List.mem_cons.1 h with rfl | h
    · exact ⟨k, by omega, rfl⟩
    · obtain ⟨i, hi, e⟩ := boxD_mem B k q h
      exact ⟨i, by omega, e⟩
set_option maxHeartbeats 2000000 in
set_option maxRecDepth 100000 in
theorem dfr1 (K O P k : Nat) (op : Int) (w : World) (hk : k ≤ 40) (hK : w.heap[K]? = some (.cells #[.int .i64 (k : Int)] 3)) (hO : w.heap[O]? = some (.cells #[.slice none 0 0] 49)) (hP : w.heap[P]? = some (.cells #[.int .i64 op] 3)) :
    Calls Try.prog 32 #[.pointer (some ⟨K, 0, none⟩), .pointer (some ⟨O, 0, none⟩), .pointer (some ⟨P, 0, none⟩)] w fun e w' => e = .panicked [{ v := crashI op, recovered := false }] ∧ OrdD (w.heap.size + k) O ((boxD w.heap.size k).map (·.2)) w' ∧ Ch (SD w.heap.size O) w w' := by
  have hmf : ∀ (fn : Fn) (first cap : Array Value) (w : World), (Instr.makeFunc fn first cap).run Try.prog w = .ok (.func fn first cap) w := fun _ _ _ _ => rfl
  have c0 := cell_of_row w K 0 _ _ _ hK
  simp only [List.getElem?_toArray, List.getElem?_cons_zero] at c0
  have HK := Lib.hid hK
  have HO := Lib.hid hO
  have HP := Lib.hid hP
  have HKN := Lib.hid hk
  clear hK hO hP hk
  go_enter_defers Try.func32, Try.ntmps32
  go_wp2_with (fail)
  refine wp_loop (fun a' w' => ∃ (j : Nat) (u3 u6 u7 u8 u9 : Value), j ≤ k ∧ w'.heap.size = w.heap.size + j ∧ Below w.heap.size w w' ∧ (∀ q ∈ boxD w.heap.size j, w'.heap[q.1]? = some (.cells #[.int .i64 q.2] 3)) ∧ a' = ⟨#[.pointer (some ⟨K, 0, none⟩), .pointer (some ⟨O, 0, none⟩), .pointer (some ⟨P, 0, none⟩), u3, .int .i64 (k : Int), .int .i64 (j : Int), u6, u7, u8, u9, undef, undef], (boxD w.heap.size j).map fun q => defD O q.1⟩) (fun a' _ => k - (intOf (a'.tmps.getD 5 undef)).toNat) ?_ ?_
  · exact ⟨0, _, _, _, _, _, Nat.zero_le _, rfl, Below.refl _ _, (fun q hq => by cases hq), rfl⟩
  rintro a wo ⟨j, u3, u6, u7, u8, u9, hj, hsz, hb, hbx, rfl⟩
  have HB := Lib.hid hb
  have HX := Lib.hid hbx
  have HSZ := Lib.hid hsz
  clear hb hbx hsz
  by_cases hlt : j < k
  · have hkn := HKN.out
    go_wp2_with (fail)
    have hsz := HSZ.out
    refine ⟨⟨j + 1, .pointer (some ⟨wo.heap.size, 0, none⟩), .bool true, .int .i64 (j : Int), .func (.func 33) #[] #[.pointer (some ⟨O, 0, none⟩), .pointer (some ⟨wo.heap.size, 0, none⟩)], .int .i64 ((j : Int) + 1), by omega, by simp; omega, HB.out.alloc HB.out.size _, fun q hq => ?_, ?_⟩, by simp [intOf]; omega⟩
    · have hba : Below wo.heap.size wo (wo.alloc (.cells #[.int .i64 (j : Int)] 3)) := (Below.refl _ _).alloc (Nat.le_refl _) _
      rcases List.mem_cons.1 hq with rfl | hq
      · have h := heap_alloc_new wo (.cells #[.int .i64 (j : Int)] 3)
        rw [hsz] at h
        exact h
      · have h := HX.out q hq
        exact (hba.block q.1 (Array.getElem?_eq_some_iff.1 h).1).trans h
    · simp [boxD, hsz]
  · obtain rfl : j = k := by omega
    have cP : wo.cell? ⟨P, 0, none⟩ = some (.int .i64 op) := cell_of_row wo P 0 _ _ _ ((HB.out.block P (Array.getElem?_eq_some_iff.1 HP.out).1).trans HP.out)
    have hol := (Array.getElem?_eq_some_iff.1 HO.out).1
    have hO2 := (HB.out.block O hol).trans HO.out
    go_wp2_with (fail)
    refine (guardLose op wo).mono ?_
    rintro e w2 ⟨rfl, rfl⟩
    show Leaves _ _ _ _ _ _ _
    have hsz := HSZ.out
    refine leavesD (w.heap.size + j) O op (boxD w.heap.size j) [] _ ⟨_, hO2, World.ownsRow_nil _ _ 3 1, by omega, by omega⟩ (by rw [boxD_len]; have := HKN.out; simp; omega) (fun q hq => ?_) (fun w' ho hc => ⟨rfl, by simpa using ho, (Ch.of_below (S := SD w.heap.size O) HB.out).trans hc (fun x hx hs => by rcases hs with hs | hs; exact .inl (by omega); exact .inr hs)⟩)
    obtain ⟨i, hi, rfl⟩ := boxD_mem _ _ _ hq
    exact ⟨by show w.heap.size + i < _; omega, by show w.heap.size + i ≠ O; omega, HX.out _ hq⟩
end Go.Proofs.Ytikobhbknnlgbaa
