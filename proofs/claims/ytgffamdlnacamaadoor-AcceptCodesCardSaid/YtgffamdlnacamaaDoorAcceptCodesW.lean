/- AcceptCodes, walked; RowM, CodesM and Txt laid into it. -/
import Derived.Test.YtgffamdlnacamaaDoorAccP
import Derived.Test.YtgffamdlnacamaaDoorMshBackM
import Derived.Test.YtgffamdlnacamaaDoorConv
import Derived.Test.YtgffamdlnacamaaDoorRefCut
import Derived.Laws.Tables

/- Layer 9: a segment of any texts, whole or cut, is read as a head. -/
namespace Go.Proofs.YtgffamdlnacamaaDoor
open Go.RowKit Lib

/-- a head's segment, of any texts -/
def rowSeg (d : Sgn) (T : List (List UInt8)) : List UInt8 := [77, 83, 72, d.a, d.b, d.c, d.d, d.e] ++ joinTail [d.a] T
theorem rowSeg_make (d : Sgn) (T : List (List UInt8)) : rowSeg d T = makeD mshB d.a ([d.a] :: [d.b, d.c, d.d, d.e] :: T) := by rw [makeD_head]; rfl
theorem rowSeg_not13 {d : Sgn} (hg : d.good = true) {T : List (List UInt8)} (hT : ∀ x ∈ T, (13 : UInt8) ∉ x) : (13 : UInt8) ∉ rowSeg d T := by
  have h13 := good_not13 hg
  unfold rowSeg
  intro hm
  rcases List.mem_append.1 hm with hm | hm
  · simp only [List.mem_cons, List.not_mem_nil, or_false] at hm
    rcases hm with e | e | e | hm
    · exact absurd e (by decide)
    · exact absurd e (by decide)
    · exact absurd e (by decide)
    · exact h13 (by simpa [Sgn.l] using hm)
  · unfold joinTail at hm
    obtain ⟨y, hy, hm⟩ := List.mem_flatten.1 hm
    obtain ⟨x, hx, rfl⟩ := List.mem_map.1 hy
    rcases List.mem_append.1 hm with hm | hm
    · exact h13 (by rw [List.mem_singleton.1 hm]; simp [Sgn.l])
    · exact hT x hx hm
theorem rowSeg_readD {d : Sgn} (hg : d.good = true) {T : List (List UInt8)} (hne : T ≠ []) (l : List UInt8) : readD (rowSeg d T ++ l) = (d, 0) := by
  obtain ⟨x, r, rfl⟩ := List.exists_cons_of_ne_nil hne
  have e : rowSeg d (x :: r) ++ l = 77 :: 83 :: 72 :: d.a :: d.b :: d.c :: d.d :: d.e :: d.a :: (x ++ joinTail [d.a] r ++ l) := by simp [rowSeg, joinTail]
  obtain ⟨R, hR⟩ : ∃ R, R = x ++ joinTail [d.a] r ++ l := ⟨_, rfl⟩
  rw [e, ← hR]
  have ho : Sgn.of (77 :: 83 :: 72 :: d.a :: d.b :: d.c :: d.d :: d.e :: d.a :: R) = d := rfl
  unfold readD
  rw [if_neg (by simp only [List.length_cons]; omega), if_neg, if_neg, ho]
  · rintro ⟨h1, _⟩
    exact h1 rfl
  · rintro (h1 | h1)
    · exact h1 rfl
    · rw [ho, hg] at h1; cases h1
theorem splitD_alone (m : List UInt8) (h : (13 : UInt8) ∉ m) (hm : m ≠ []) : splitD m = [m] := by
  unfold splitD
  rw [cutAt_none 13 m h, if_neg (by simpa using hm)]
theorem read_row {d : Sgn} (hg : d.good = true) {T : List (List UInt8)} (hne : T ≠ []) (hT : ∀ x ∈ T, d.a ∉ x ∧ (13 : UInt8) ∉ x) (l : List UInt8) (hl : l = [] ∨ ∃ r, l = 13 :: r) :
    readH (rowSeg d T ++ l) = (hdTo d (textsD ([d.a] :: [d.b, d.c, d.d, d.e] :: T)) 10, 0) := by
  have h13 := rowSeg_not13 hg (fun x hx => (hT x hx).2)
  obtain ⟨R, hR⟩ : ∃ R, splitD (rowSeg d T ++ l) = rowSeg d T :: R := by
    rcases hl with rfl | ⟨r, rfl⟩
    · rw [List.append_nil]; exact ⟨[], splitD_alone _ h13 (by simp [rowSeg])⟩
    · exact splitD_front _ r h13
  unfold readH
  rw [rowSeg_readD hg hne l, hR]
  simp only [List.getD_cons_zero]
  rw [rowSeg_make, fields_head d.a _ _ (good_signs hg).2 (fun y hy => (hT y hy).1)]
  simp only [List.getD_cons_succ, List.getD_cons_zero, if_true]
theorem textsD_any (a b : List UInt8) (T : List (List UInt8)) (i : Nat) : textsD (a :: b :: T) i = txt (T.getD i []) := by
  unfold textsD
  rw [show 2 + i = i + 1 + 1 by omega, List.getD_cons_succ, List.getD_cons_succ]
/-- rows behind signs, cut -/
theorem joinTail_cut (c : UInt8) : ∀ (T : List (List UInt8)) (k : Nat), 1 ≤ k → k ≤ (joinTail [c] T).length → ∃ i x, (joinTail [c] T).take k = joinTail [c] (T.take i ++ [x]) ∧ i < T.length ∧ x <+: T.getD i []
  | [], k, h1, h2 => by simp [joinTail] at h2; omega
  | y :: T, k, h1, h2 => by
    have e : joinTail [c] (y :: T) = c :: (y ++ joinTail [c] T) := by simp [joinTail]
    rw [e] at h2 ⊢
    simp only [List.length_cons, List.length_append] at h2
    obtain ⟨k, rfl⟩ : ∃ m, k = m + 1 := ⟨k - 1, by omega⟩
    rcases Nat.lt_or_ge y.length k with hk | hk
    · obtain ⟨i, x, h3, h4, h5⟩ := joinTail_cut c T (k - y.length) (by omega) (by omega)
      refine ⟨i + 1, x, ?_, by simp; omega, by simpa using h5⟩
      rw [List.take_succ_cons, List.take_append, List.take_of_length_le (by omega), h3]
      simp [joinTail]
    · refine ⟨0, y.take k, ?_, by simp, by simpa using List.take_prefix k y⟩
      rw [List.take_succ_cons, List.take_append, show k - y.length = 0 by omega]
      simp [joinTail]
end Go.Proofs.YtgffamdlnacamaaDoor

/- Layer 11: what a head of a kind, an id, a process and a version is worth. -/
namespace Go.Proofs.YtgffamdlnacamaaDoor
open Go.RowKit Lib

abbrev sgnC : Sgn := ⟨124, 94, 126, 92, 38⟩
def cT (id p v : List UInt8) : List (List UInt8) := [[], [], [], [], [], [], [65, 68, 84], id, p, v]
def cHd (id p v : List UInt8) : Hd := ⟨sgnC, ⟨#[]⟩, ⟨#[]⟩, ⟨#[]⟩, ⟨#[]⟩, ⟨#[]⟩, ⟨#[]⟩, ⟨#[65, 68, 84]⟩, txt id, txt p, txt v⟩
/-- the bytes of a text that may stand in such a head -/
def freeC (l : List UInt8) : Prop := ∀ c ∈ l, c ≠ 124 ∧ c ≠ 13 ∧ c ≠ 28 ∧ c ≠ 11 ∧ c ≠ 94 ∧ c ≠ 126
theorem freeC.no {l : List UInt8} (h : freeC l) : (124 : UInt8) ∉ l ∧ (13 : UInt8) ∉ l ∧ (28 : UInt8) ∉ l ∧ (94 : UInt8) ∉ l ∧ (126 : UInt8) ∉ l :=
  ⟨fun m => (h _ m).1 rfl, fun m => (h _ m).2.1 rfl, fun m => (h _ m).2.2.1 rfl, fun m => (h _ m).2.2.2.2.1 rfl, fun m => (h _ m).2.2.2.2.2 rfl⟩
theorem cT_mem {id p v : List UInt8} {P : List UInt8 → Prop} (h0 : P []) (h1 : P [65, 68, 84]) (h2 : P id) (h3 : P p) (h4 : P v) : ∀ x ∈ cT id p v, P x := by
  intro x hx
  simp only [cT, List.mem_cons, List.not_mem_nil, or_false] at hx
  rcases hx with rfl | rfl | rfl | rfl | rfl | rfl | rfl | rfl | rfl | rfl <;> assumption
theorem cRead {id p v : List UInt8} (h2 : freeC id) (h3 : freeC p) (h4 : freeC v) : readH (rowSeg sgnC (cT id p v) ++ [13]) = (cHd id p v, 0) := by
  rw [read_row (d := sgnC) (by decide) (by simp [cT]) (cT_mem (P := fun x => (124 : UInt8) ∉ x ∧ (13 : UInt8) ∉ x) (by decide) (by decide) ⟨h2.no.1, h2.no.2.1⟩ ⟨h3.no.1, h3.no.2.1⟩ ⟨h4.no.1, h4.no.2.1⟩) [13] (.inr ⟨[], rfl⟩)]
  rfl
theorem cSeg_free {id p v : List UInt8} {z : UInt8} (hz : z ∉ ([77, 83, 72, 124, 94, 126, 92, 38, 65, 68, 84] : List UInt8)) (h2 : z ∉ id) (h3 : z ∉ p) (h4 : z ∉ v) : z ∉ rowSeg sgnC (cT id p v) := by
  intro hm
  simp only [rowSeg, joinTail, cT, List.map_cons, List.map_nil, List.flatten_cons, List.flatten_nil, List.append_nil, List.mem_append, List.mem_cons, List.not_mem_nil, or_false, not_or] at hm hz
  obtain ⟨z1, z2, z3, z4, z5, z6, z7, z8, z9, z10, z11⟩ := hz
  simp only [z1, z2, z3, z4, z5, z6, z7, z8, z9, z10, z11, h2, h3, h4, or_self] at hm
theorem cVerdict {id p v : List UInt8} (h2 : freeC id) (h3 : freeC p) (h4 : freeC v) : verdictD (rowSeg sgnC (cT id p v) ++ [13]) = (cHd id p v, codeOf (checkD (cHd id p v)), checkD (cHd id p v)) := by
  have h13 : (13 : UInt8) ∉ rowSeg sgnC (cT id p v) := cSeg_free (by decide) h2.no.2.1 h3.no.2.1 h4.no.2.1
  have h28 : (28 : UInt8) ∉ rowSeg sgnC (cT id p v) := cSeg_free (by decide) h2.no.2.2.1 h3.no.2.2.1 h4.no.2.2.1
  unfold verdictD
  rw [cRead h2 h3 h4, seg1_front h13, if_pos rfl, if_neg h28]
theorem firstC {l : List UInt8} (h : freeC l) : firstD (txt l) sgnC = l := by
  obtain ⟨_, _, _, h94, h126⟩ := h.no
  unfold firstD
  rw [show (txt l).data.toList = l from by simp]
  rw [show sgnC.c = 126 from rfl, show sgnC.b = 94 from rfl, cutAt_none 126 _ h126]
  show (cutAt 94 l).headD [] = _
  rw [cutAt_none 94 _ h94]
  rfl
theorem cCheck {p v : List UInt8} (h3 : freeC p) (h4 : freeC v) (some : Bool) : checkD (cHd (if some then [55] else []) p v) = if some = false then 14 else if knownD (txt v) = false then 12 else if procD (txt p) = false then 13 else 0 := by
  unfold checkD
  rw [show (cHd (if some then [55] else []) p v).a9 = txt v from rfl, show (cHd (if some then [55] else []) p v).a8 = txt p from rfl, show (cHd (if some then [55] else []) p v).d = sgnC from rfl, firstC h3, firstC h4]
  have h1 : (cHd (if some then [55] else []) p v).a6.toList.isEmpty = false := by show (ByteArray.toList ⟨#[65, 68, 84]⟩).isEmpty = false; rw [Go.ByteArray.toList_eq]; rfl
  rw [h1]
  cases some
  · have h2 : (cHd (if false = true then [55] else []) p v).a7.toList.isEmpty = true := by show (ByteArray.toList ⟨#[]⟩).isEmpty = true; rw [Go.ByteArray.toList_eq]; rfl
    rw [h2]
    rfl
  · have h2 : (cHd (if true = true then [55] else []) p v).a7.toList.isEmpty = false := by show (ByteArray.toList ⟨#[55]⟩).isEmpty = false; rw [Go.ByteArray.toList_eq]; rfl
    rw [h2]
    cases knownD (txt v) <;> cases procD (txt p) <;> rfl
/-- the code that the law asks for -/
def wantC (some known proc : Bool) : ByteArray := if some = false then cB 1 else if known = false ∨ proc = false then cB 2 else cB 0
theorem cCode {p v : List UInt8} (h3 : freeC p) (h4 : freeC v) (some : Bool) : codeOf (checkD (cHd (if some then [55] else []) p v)) = wantC some (knownD (txt v)) (procD (txt p)) := by
  rw [cCheck h3 h4]
  unfold wantC
  cases some <;> cases knownD (txt v) <;> cases procD (txt p) <;> rfl
end Go.Proofs.YtgffamdlnacamaaDoor

/- Sums of texts, and their bytes, in one step each. -/
namespace Go.Proofs.YtgffamdlnacamaaDoor
open Go.RowKit

theorem addT (X Y : List UInt8) (h : X.length + Y.length ≤ 9223372036854775807) (W : World) : (binOp .add 9 (.string (txt X)) (.string (txt Y))).run Tryd.prog W = .ok (.string (txt (X ++ Y))) W := by
  rw [add_run _ _ (by simp only [txt_size]; omega) W, txt_app]
theorem wpList_addT {ops : Array Oper} {rest : List Oper} {dst : Option Tmp} {x y : Operand} {tb ty : TypeId} {pos : String} {af} {a : Act} {w : World} {Q : Exit → Act → World → Prop}
    (X Y Z : List UInt8) (hZ : Hid (Z = X ++ Y)) (hx : a.eval x = .string (txt X)) (hy : a.eval y = .string (txt Y)) (h : Z.length ≤ 9223372036854775807)
    (next : wpList Tryd.prog ops Q rest (a.put dst (str Z)) w) : wpList Tryd.prog ops Q ((⟨dst, .binOp .add 9 x y tb, ty, pos, af, none⟩ : Oper) :: rest) a w :=
  wpList_plain rfl fun K hK => by
    obtain rfl : Z = X ++ Y := hZ
    unfold Oper.wp execOp
    simp only [hx, hy]
    simp [eqGuard, addT X Y (by rw [List.length_append] at h; exact h) w, Result.andThen, Oper.upon]
    exact hK _ _ next
theorem wpList_convT {ops : Array Oper} {rest : List Oper} {dst : Option Tmp} {x : Operand} {ty : TypeId} {pos : String} {af} {a : Act} {w : World} {Q : Exit → Act → World → Prop}
    (l : List UInt8) (N g : Nat) (hx : a.eval x = .string (txt l)) (hN : l.length = N) (hl : N ≤ maxLen) (hg : w.heap.size = g)
    (next : ∀ cap W, Hid (Conv W g N cap g l) → Below w.heap.size w W → wpList Tryd.prog ops Q rest (a.put dst (.slice (some ⟨g, 0, none⟩) N cap)) W) : wpList Tryd.prog ops Q ((⟨dst, .convert 9 22 x, ty, pos, af, none⟩ : Oper) :: rest) a w := by
  subst hg
  obtain ⟨cap, W, hrun, hC, hb⟩ := conv_list (P := Tryd.prog) w 9 22 5 l N Tryd.underlying9 Tryd.underlying22 Tryd.underlying5 hN hl
  refine wpList_plain rfl fun K hK => ?_
  unfold Oper.wp execOp
  simp only [hx]
  simp [hrun, Result.andThen, Oper.upon]
  exact hK _ _ (next cap W (Lib.hid hC) hb)
/-- string(b) of bytes that lie somewhere -/
theorem wpList_strT {ops : Array Oper} {rest : List Oper} {dst : Option Tmp} {x : Operand} {ty : TypeId} {pos : String} {af} {a : Act} {w : World} {Q : Exit → Act → World → Prop}
    (A : Option Addr) (n c : Nat) (l : List UInt8) (hx : a.eval x = .slice A n c) (hB : Bs w A n c l)
    (next : wpList Tryd.prog ops Q rest (a.put dst (str l)) w) : wpList Tryd.prog ops Q ((⟨dst, .convert 22 9 x, ty, pos, af, none⟩ : Oper) :: rest) a w := by
  have hrun := hB.str (P := Tryd.prog) 22 5 9 Tryd.underlying22 Tryd.underlying5 Tryd.underlying9
  refine wpList_plain rfl fun K hK => ?_
  unfold Oper.wp execOp
  simp only [hx]
  simp [hrun, Result.andThen, Oper.upon]
  exact hK _ _ next
theorem run_bytes4 (a b c d : UInt8) (w : World) : (Instr.buildSlice 22 4 #[(0, u8 a), (1, u8 b), (2, u8 c), (3, u8 d)]).run Tryd.prog w = .ok (.slice (some ⟨w.heap.size, 0, none⟩) 4 4) (w.alloc (.cells #[u8 a, u8 b, u8 c, u8 d] 5)) := by
  simp [Instr.buildSlice, go_sem]
/-- four bytes in a row of their own -/
theorem wpList_bytes4 {ops : Array Oper} {rest : List Oper} {dst : Option Tmp} {x0 x1 x2 x3 : Operand} {ty : TypeId} {pos : String} {af} {a : Act} {w : World} {Q : Exit → Act → World → Prop}
    (g : Nat) (b c d e : UInt8) (h0 : a.eval x0 = u8 b) (h1 : a.eval x1 = u8 c) (h2 : a.eval x2 = u8 d) (h3 : a.eval x3 = u8 e) (hg : w.heap.size = g)
    (next : wpList Tryd.prog ops Q rest (a.put dst (.slice (some ⟨g, 0, none⟩) 4 4)) (w.alloc (.cells #[u8 b, u8 c, u8 d, u8 e] 5))) : wpList Tryd.prog ops Q ((⟨dst, .buildSlice 22 4 #[(0, x0), (1, x1), (2, x2), (3, x3)], ty, pos, af, none⟩ : Oper) :: rest) a w := by
  subst hg
  refine wpList_plain rfl fun K hK => ?_
  unfold Oper.wp execOp
  simp only [List.map_toArray, List.map_cons, List.map_nil, h0, h1, h2, h3, Sem.run_bind, run_bytes4, Result.andThen_ok]
  exact hK _ _ next
/-- a byte's load -/
theorem wpList_loadU8 {ops : Array Oper} {rest : List Oper} {dst : Option Tmp} {x : Operand} {ty : TypeId} {pos : String} {af} {a : Act} {w : World} {Q : Exit → Act → World → Prop}
    (b o : Nat) (v : UInt8) (hx : a.eval x = .pointer (some ⟨b, o, none⟩)) (hc : Hid (w.cell? ⟨b, o, none⟩ = some (u8 v)))
    (next : wpList Tryd.prog ops Q rest (a.put dst (u8 v)) w) : wpList Tryd.prog ops Q ((⟨dst, .load 5 x, ty, pos, af, none⟩ : Oper) :: rest) a w := by
  have hcc := hc.out
  refine wpList_plain rfl fun K hK => ?_
  unfold Oper.wp execOp
  simp only [hx]
  have hrun : (Instr.loadAt 5 (.pointer (some ⟨b, o, none⟩))).run Tryd.prog w = .ok (u8 v) w := by
    simp [Instr.loadAt, go_sem, hcc]
  simp only [Sem.run_bind, hrun, Result.andThen_ok]
  exact hK _ _ next
end Go.Proofs.YtgffamdlnacamaaDoor

/- AcceptCodes, walked. -/
namespace Go.Proofs.YtgffamdlnacamaaDoor
open Go.RowKit

def knownK (s : ByteArray) (k : Nat) : Bool := (List.range k).any fun j => decide (vB j = s)
theorem knownK_succ (s : ByteArray) (k : Nat) : knownK s (k + 1) = (knownK s k || decide (vB k = s)) := by
  unfold knownK
  rw [List.range_succ, List.any_append]
  simp
theorem vers_atC (k : Nat) (hk : k < 10) : str ((versL.map (·.data.toList)).getD k []) = .string (vB k) := by
  match k, hk with
  | 0, _ => rfl
  | 1, _ => rfl
  | 2, _ => rfl
  | 3, _ => rfl
  | 4, _ => rfl
  | 5, _ => rfl
  | 6, _ => rfl
  | 7, _ => rfl
  | 8, _ => rfl
  | 9, _ => rfl
theorem strIdxC (x : ByteArray) (j : Nat) (h : j < x.size) (z : Int) (hz : z = (j : Int)) (W : World) : (Instr.index 9 (.string x) (.int .i64 z)).run Tryd.prog W = .ok (u8 x[j]) W := by
  subst hz
  simp [Instr.index, asIntOf, run_underlying Tryd.underlying9, go_sem, h]
def OkC (x : ByteArray) : Prop := x.size ≤ 100 ∧ freeC x.data.toList
theorem ne_u8 {z : UInt8} {k : Nat} (hk : k < 256) (h : z ≠ UInt8.ofNat k) : (((z.toNat : Nat) : Int) == (k : Int)) = false := by
  rw [beq_eq_false_iff_ne]
  intro e
  refine h (UInt8.toNat_inj.1 ?_)
  rw [UInt8.toNat_ofNat']
  omega
abbrev preC : List UInt8 := [77, 83, 72, 124, 94, 126, 92, 38, 124, 124, 124, 124, 124, 124, 124, 65, 68, 84, 124]
theorem sumC (id p v : List UInt8) : preC ++ id ++ [124] ++ p ++ [124] ++ v ++ [13] = rowSeg sgnC (cT id p v) ++ [13] := by
  simp [rowSeg, cT, Lib.joinTail]
theorem txt_inj {a b : ByteArray} : (a.toList == b.toList) = decide (a = b) := strEq a b

theorem bne_of {a b : List UInt8} {x : Bool} (h : (a == b) = x) : (a != b) = !x := by rw [bne, h]
theorem proc_t (p : ByteArray) : procD p = true → (p.toList == [80]) = true ∨ ((p.toList == [80]) = false ∧ (p.toList == [68]) = true) ∨ ((p.toList == [80]) = false ∧ (p.toList == [68]) = false ∧ (p.toList == [84]) = true) := by
  unfold procD
  cases (p.toList == [80]) <;> cases (p.toList == [68]) <;> cases (p.toList == [84]) <;> simp
theorem proc_f (p : ByteArray) : procD p = false → (p.toList == [80]) = false ∧ (p.toList == [68]) = false ∧ (p.toList == [84]) = false := by
  unfold procD
  cases (p.toList == [80]) <;> cases (p.toList == [68]) <;> cases (p.toList == [84]) <;> simp
theorem proc_ne {p : ByteArray} (h1 : (p.toList == [80]) = false) (h2 : (p.toList == [68]) = false) (h3 : (p.toList == [84]) = false) : (p.toList != [80]) = true ∧ (p.toList != [68]) = true ∧ (p.toList != [84]) = true := ⟨bne_of h1, bne_of h2, bne_of h3⟩
set_option maxHeartbeats 16000000 in
set_option maxRecDepth 100000 in
theorem acceptCodes_walk (v p : ByteArray) (sm : Bool) (w : World) (hv : Vers w ∧ Signs w ∧ Cds w) (_h1 : v.size ≤ maxLen) (_h2 : p.size ≤ maxLen) :
    Calls Tryd.prog 7 #[.string v, .string p, .bool sm] w (True_ w) := by
  have HV := Lib.hid (fun W (hb : Below w.heap.size w W) => hv.1.below hb)
  have HS := Lib.hid (fun W (hb : Below w.heap.size w W) => hv.2.1.below hb)
  have HC := Lib.hid (fun W (hb : Below w.heap.size w W) => hv.2.2.below hb)
  clear hv _h1 _h2
  have HG0 : Hid ((w.alloc (.cells #[.string v, .string p] 9)).heap[w.heap.size]? = .some (.cells #[.string v, .string p] 9)) := Lib.hid (heap_alloc_new w _)
  have HB0 : Hid (Below w.heap.size w (w.alloc (.cells #[.string v, .string p] 9))) := Lib.hid ((Below.refl _ w).alloc (Nat.le_refl _) _)
  go_enter Tryd.func7, Tryd.ntmps7
  go_wp2_with (fail)
  generalize w.alloc (.cells #[.string v, .string p] 9) = w0 at *
  go_loop [24, 8, 9, 10] (fun i _ _ _ => ∃ k : Nat, k ≤ 2 ∧ i = .int .i64 k ∧ (1 ≤ k → OkC v) ∧ (2 ≤ k → OkC p)) (fun i _ _ _ => 2 - (intOf i).toNat)
  case atStart => exact ⟨0, by omega, rfl, fun h => absurd h (by omega), fun h => absurd h (by omega)⟩
  case round =>
    obtain ⟨k, hk, rfl, hkv, hkp⟩ := hrel
    have HKV := Lib.hid hkv
    have HKP := Lib.hid hkp
    clear hkv hkp
    by_cases hlt : k < 2
    · as_aux_lemma =>
      obtain ⟨S, hS⟩ : ∃ S, S = if k = 0 then v else p := ⟨_, rfl⟩
      have hc : w0.cell? ⟨w.heap.size, k, none⟩ = .some (.string S) := by
        rw [cell_of_row w0 _ k _ _ _ HG0.out, hS]
        match k, hlt with
        | 0, _ => rfl
        | 1, _ => rfl
      have HNX : Hid (OkC S → (1 ≤ k + 1 → OkC v) ∧ (2 ≤ k + 1 → OkC p)) := Lib.hid (fun h => by
        match k, hlt with
        | 0, _ => rw [hS] at h; exact ⟨fun _ => h, fun h => absurd h (by omega)⟩
        | 1, _ => rw [hS] at h; exact ⟨fun _ => HKV.out (by omega), fun _ => h⟩)
      have HK2 := Lib.hid hlt
      clear hS HKV HKP
      have d0 : decide ((k : Int) < 2) = true := by simp; omega
      have d1 : (k : Int) < 2 := by omega
      have d2 : (0 : Int) ≤ (k : Int) := by omega
      have wk : wrap64 ((k : Int) + 1) = (k : Int) + 1 := IntWalk.wrap64_in _ (by omega)
      clear hlt hk
      by_cases hbig : 100 < S.size
      · as_aux_lemma =>
        have d3 : decide ((100 : Int) < (S.size : Int)) = true := by simp; omega
        go_wp2_with (fail)
        refine (alive11 w0 (HV.out _ HB0.out) (HS.out _ HB0.out) (HC.out _ HB0.out)).mono ?_
        rintro e w1 ⟨rfl, hbA⟩
        have HBA := Lib.hid (HB0.out.trans (hbA.mono HB0.out.size))
        clear hbA
        go_wp2_with (fail)
        go_ret
        exact ⟨rfl, HBA.out⟩
      have d3 : decide ((100 : Int) < (S.size : Int)) = false := by simp; omega
      have HSZ : Hid (S.size ≤ 100) := Lib.hid (by omega)
      clear hbig
      go_wp2_with (fail)
      clear d3 hc
      go_loop [34, 9, 10] (fun i _ _ => ∃ q : Nat, q ≤ S.size ∧ i = .int .i64 q ∧ freeC (S.data.toList.take q)) (fun i _ _ => S.size - (intOf i).toNat)
      case atStart => exact ⟨0, by omega, rfl, fun c h => by simp at h⟩
      case round =>
        obtain ⟨q, hq, rfl, hall⟩ := hrel
        have HALL := Lib.hid hall
        clear hall
        by_cases hlq : q < S.size
        · as_aux_lemma =>
          have htk : S.data.toList.take (q + 1) = S.data.toList.take q ++ [S[q]] := by rw [List.take_succ_eq_append_getElem (by simpa using hlq)]; rfl
          obtain ⟨z, hz⟩ : ∃ z, z = S[q] := ⟨_, rfl⟩
          rw [← hz] at htk
          have ix : ∀ W, (Instr.index 9 (.string S) (.int .i64 (q : Int))).run Tryd.prog W = .ok (.int .u8 (z.toNat : Int)) W := fun W => by rw [strIdxC S q hlq q rfl W, hz]
          have HTK := Lib.hid htk
          have HQ := Lib.hid hlq
          have d7 : decide ((q : Int) < (S.size : Int)) = true := by simp; omega
          have wq : wrap64 ((q : Int) + 1) = (q : Int) + 1 := IntWalk.wrap64_in _ (by have := HSZ.out; omega)
          clear htk hz hlq hq
          by_cases z124 : z = 124
          · as_aux_lemma =>
            have k124 : (((z.toNat : Nat) : Int) == 124) = true := by rw [z124]; rfl
            clear z124
            go_wp2_with (fail)
            refine (alive11 w0 (HV.out _ HB0.out) (HS.out _ HB0.out) (HC.out _ HB0.out)).mono ?_
            rintro e w1 ⟨rfl, hbA⟩
            have HBA := Lib.hid (HB0.out.trans (hbA.mono HB0.out.size))
            clear hbA
            go_wp2_with (fail)
            go_ret
            exact ⟨rfl, HBA.out⟩
          by_cases z13 : z = 13
          · as_aux_lemma =>
            have k13 : (((z.toNat : Nat) : Int) == 13) = true := by rw [z13]; rfl
            have k124 : (((z.toNat : Nat) : Int) == 124) = false := ne_u8 (k := 124) (by decide) z124
            clear z124 z13
            go_wp2_with (fail)
            refine (alive11 w0 (HV.out _ HB0.out) (HS.out _ HB0.out) (HC.out _ HB0.out)).mono ?_
            rintro e w1 ⟨rfl, hbA⟩
            have HBA := Lib.hid (HB0.out.trans (hbA.mono HB0.out.size))
            clear hbA
            go_wp2_with (fail)
            go_ret
            exact ⟨rfl, HBA.out⟩
          by_cases z28 : z = 28
          · as_aux_lemma =>
            have k28 : (((z.toNat : Nat) : Int) == 28) = true := by rw [z28]; rfl
            have k124 : (((z.toNat : Nat) : Int) == 124) = false := ne_u8 (k := 124) (by decide) z124
            have k13 : (((z.toNat : Nat) : Int) == 13) = false := ne_u8 (k := 13) (by decide) z13
            clear z124 z13 z28
            go_wp2_with (fail)
            refine (alive11 w0 (HV.out _ HB0.out) (HS.out _ HB0.out) (HC.out _ HB0.out)).mono ?_
            rintro e w1 ⟨rfl, hbA⟩
            have HBA := Lib.hid (HB0.out.trans (hbA.mono HB0.out.size))
            clear hbA
            go_wp2_with (fail)
            go_ret
            exact ⟨rfl, HBA.out⟩
          by_cases z11 : z = 11
          · as_aux_lemma =>
            have k11 : (((z.toNat : Nat) : Int) == 11) = true := by rw [z11]; rfl
            have k124 : (((z.toNat : Nat) : Int) == 124) = false := ne_u8 (k := 124) (by decide) z124
            have k13 : (((z.toNat : Nat) : Int) == 13) = false := ne_u8 (k := 13) (by decide) z13
            have k28 : (((z.toNat : Nat) : Int) == 28) = false := ne_u8 (k := 28) (by decide) z28
            clear z124 z13 z28 z11
            go_wp2_with (fail)
            refine (alive11 w0 (HV.out _ HB0.out) (HS.out _ HB0.out) (HC.out _ HB0.out)).mono ?_
            rintro e w1 ⟨rfl, hbA⟩
            have HBA := Lib.hid (HB0.out.trans (hbA.mono HB0.out.size))
            clear hbA
            go_wp2_with (fail)
            go_ret
            exact ⟨rfl, HBA.out⟩
          by_cases z94 : z = 94
          · as_aux_lemma =>
            have k94 : (((z.toNat : Nat) : Int) == 94) = true := by rw [z94]; rfl
            have k124 : (((z.toNat : Nat) : Int) == 124) = false := ne_u8 (k := 124) (by decide) z124
            have k13 : (((z.toNat : Nat) : Int) == 13) = false := ne_u8 (k := 13) (by decide) z13
            have k28 : (((z.toNat : Nat) : Int) == 28) = false := ne_u8 (k := 28) (by decide) z28
            have k11 : (((z.toNat : Nat) : Int) == 11) = false := ne_u8 (k := 11) (by decide) z11
            clear z124 z13 z28 z11 z94
            go_wp2_with (fail)
            refine (alive11 w0 (HV.out _ HB0.out) (HS.out _ HB0.out) (HC.out _ HB0.out)).mono ?_
            rintro e w1 ⟨rfl, hbA⟩
            have HBA := Lib.hid (HB0.out.trans (hbA.mono HB0.out.size))
            clear hbA
            go_wp2_with (fail)
            go_ret
            exact ⟨rfl, HBA.out⟩
          by_cases z126 : z = 126
          · as_aux_lemma =>
            have k126 : (((z.toNat : Nat) : Int) == 126) = true := by rw [z126]; rfl
            have k124 : (((z.toNat : Nat) : Int) == 124) = false := ne_u8 (k := 124) (by decide) z124
            have k13 : (((z.toNat : Nat) : Int) == 13) = false := ne_u8 (k := 13) (by decide) z13
            have k28 : (((z.toNat : Nat) : Int) == 28) = false := ne_u8 (k := 28) (by decide) z28
            have k11 : (((z.toNat : Nat) : Int) == 11) = false := ne_u8 (k := 11) (by decide) z11
            have k94 : (((z.toNat : Nat) : Int) == 94) = false := ne_u8 (k := 94) (by decide) z94
            clear z124 z13 z28 z11 z94 z126
            go_wp2_with (fail)
            refine (alive11 w0 (HV.out _ HB0.out) (HS.out _ HB0.out) (HC.out _ HB0.out)).mono ?_
            rintro e w1 ⟨rfl, hbA⟩
            have HBA := Lib.hid (HB0.out.trans (hbA.mono HB0.out.size))
            clear hbA
            go_wp2_with (fail)
            go_ret
            exact ⟨rfl, HBA.out⟩
          as_aux_lemma =>
            have HNXT : Hid (freeC (S.data.toList.take (q + 1))) := Lib.hid (fun c hc => by
              rw [HTK.out] at hc
              rcases List.mem_append.1 hc with hc | hc
              · exact HALL.out c hc
              · rw [List.mem_singleton.1 hc]; exact ⟨z124, z13, z28, z11, z94, z126⟩)
            have k124 : (((z.toNat : Nat) : Int) == 124) = false := ne_u8 (k := 124) (by decide) z124
            have k13 : (((z.toNat : Nat) : Int) == 13) = false := ne_u8 (k := 13) (by decide) z13
            have k28 : (((z.toNat : Nat) : Int) == 28) = false := ne_u8 (k := 28) (by decide) z28
            have k11 : (((z.toNat : Nat) : Int) == 11) = false := ne_u8 (k := 11) (by decide) z11
            have k94 : (((z.toNat : Nat) : Int) == 94) = false := ne_u8 (k := 94) (by decide) z94
            have k126 : (((z.toNat : Nat) : Int) == 126) = false := ne_u8 (k := 126) (by decide) z126
            clear z124 z13 z28 z11 z94 z126
            go_wp2_with (fail)
            go_round
            case rel => exact ⟨q + 1, HQ.out, by go_num, HNXT.out⟩
            case measure => rw [wq]; clear wq ix k124 k13 k28 k11 k94 k126 d0 d1 d2 wk d7; have := HQ.out; simp [intOf]; omega
        · as_aux_lemma =>
          obtain rfl : q = S.size := by omega
          have HOK : Hid (OkC S) := Lib.hid ⟨HSZ.out, by have t := HALL.out; rwa [List.take_of_length_le (by simp)] at t⟩
          have d7 : decide ((S.size : Int) < (S.size : Int)) = false := by simp
          clear hlq hq HALL
          go_wp2_with (fail)
          go_round
          case rel => exact ⟨k + 1, HK2.out, by go_num, (HNX.out HOK.out).1, (HNX.out HOK.out).2⟩
          case measure => (try rw [wk]); clear wk d0 d1 d2 d7; have := HK2.out; simp [intOf]; omega
    · obtain rfl : k = 2 := by omega
      have HOV := Lib.hid (HKV.out (by omega))
      have HOP := Lib.hid (HKP.out (by omega))
      have d0 : decide (((2 : Nat) : Int) < 2) = false := by simp
      clear hlt hk HKV HKP
      cases sm
      · as_aux_lemma =>
        obtain ⟨id, hid⟩ : ∃ id : List UInt8, id = [] := ⟨_, rfl⟩
        have HCD : Hid (codeOf (checkD (cHd id p.data.toList v.data.toList)) = wantC false (knownD v) (procD p)) := Lib.hid (by rw [hid]; exact cCode HOP.out.2 HOV.out.2 false)
        have HIL : Hid (id.length ≤ 1) := Lib.hid (by rw [hid]; decide)
        have HIF : Hid (freeC id) := Lib.hid (by rw [hid]; intro c hc; simp at hc; try (subst hc; decide))
        obtain ⟨Z1, hZ1⟩ : ∃ Z, Z = preC ++ id := ⟨_, rfl⟩
        have HY1 : Hid (Hid (Z1 = preC ++ [])) := Lib.hid (Lib.hid (by rw [hZ1, hid]))
        clear hid
        have HVL : Hid (v.data.toList.length = v.size) := Lib.hid (by simp)
        have HPL : Hid (p.data.toList.length = p.size) := Lib.hid (by simp)
        obtain ⟨Z2, hZ2⟩ : ∃ Z, Z = Z1 ++ [124] := ⟨_, rfl⟩
        obtain ⟨Z3, hZ3⟩ : ∃ Z, Z = Z2 ++ p.data.toList := ⟨_, rfl⟩
        obtain ⟨Z4, hZ4⟩ : ∃ Z, Z = Z3 ++ [124] := ⟨_, rfl⟩
        obtain ⟨Z5, hZ5⟩ : ∃ Z, Z = Z4 ++ v.data.toList := ⟨_, rfl⟩
        obtain ⟨Z6, hZ6⟩ : ∃ Z, Z = Z5 ++ [13] := ⟨_, rfl⟩
        have l1 : Z1.length = 19 + id.length := by rw [hZ1, List.length_append]; rfl
        have l2 : Z2.length = 20 + id.length := by rw [hZ2, List.length_append, l1]; simp; omega
        have l3 : Z3.length = 20 + id.length + p.size := by rw [hZ3, List.length_append, l2, HPL.out]
        have l4 : Z4.length = 21 + id.length + p.size := by rw [hZ4, List.length_append, l3]; simp; omega
        have l5 : Z5.length = 21 + id.length + p.size + v.size := by rw [hZ5, List.length_append, l4, HVL.out]
        have l6 : Z6.length = 22 + id.length + p.size + v.size := by rw [hZ6, List.length_append, l5]; simp; omega
        have HLS : Hid (Z1.length ≤ 1000 ∧ Z2.length ≤ 1000 ∧ Z3.length ≤ 1000 ∧ Z4.length ≤ 1000 ∧ Z5.length ≤ 1000 ∧ Z6.length ≤ 1000) := Lib.hid (by have := HOV.out.1; have := HOP.out.1; have := HIL.out; omega)
        have HZ1 := Lib.hid hZ1
        have HZ2 := Lib.hid hZ2
        have HZ3 := Lib.hid hZ3
        have HZ4 := Lib.hid hZ4
        have HZ5 := Lib.hid hZ5
        have HZ6 := Lib.hid hZ6
        have HZE : Hid (Z6 = rowSeg sgnC (cT id p.data.toList v.data.toList) ++ [13]) := Lib.hid (by rw [← sumC, hZ6, hZ5, hZ4, hZ3, hZ2, hZ1])
        clear l1 l2 l3 l4 l5 l6 hZ1 hZ2 hZ3 hZ4 hZ5 hZ6
        obtain ⟨N, hN⟩ : ∃ N, Z6.length = N := ⟨_, rfl⟩
        have HN := Lib.hid hN
        have HNB : Hid (N ≤ 1000) := Lib.hid (by rw [← hN]; exact HLS.out.2.2.2.2.2)
        clear hN
        have HVD : Hid (verdictD Z6 = (cHd id p.data.toList v.data.toList, wantC false (knownD v) (procD p), checkD (cHd id p.data.toList v.data.toList))) := Lib.hid (by rw [HZE.out, cVerdict HIF.out HOP.out.2 HOV.out.2, HCD.out])
        clear HCD HZE
        have tok1 : Hid True := Lib.hid trivial
        go_wp2_with (first | (with_reducible refine wpList_addT (dst := some 67) preC [] Z1 HY1.out (by kernel_rfl) (by kernel_rfl) (by have := HLS.out; omega) ?_) | (with_reducible refine wpList_addT (dst := some 68) Z1 [124] Z2 HZ2 (by kernel_rfl) (by kernel_rfl) (by have := HLS.out; omega) ?_) | (with_reducible refine wpList_addT (dst := some 70) Z2 p.data.toList Z3 HZ3 (by kernel_rfl) (by kernel_rfl) (by have := HLS.out; omega) ?_) | (with_reducible refine wpList_addT (dst := some 71) Z3 [124] Z4 HZ4 (by kernel_rfl) (by kernel_rfl) (by have := HLS.out; omega) ?_) | (with_reducible refine wpList_addT (dst := some 73) Z4 v.data.toList Z5 HZ5 (by kernel_rfl) (by kernel_rfl) (by have := HLS.out; omega) ?_) | (with_reducible refine wpList_addT (dst := some 74) Z5 [13] Z6 HZ6 (by kernel_rfl) (by kernel_rfl) (by have := HLS.out; omega) ?_) | (have _t := tok1; with_reducible refine wpList_convT Z6 N w0.heap.size (by kernel_rfl) HN.out (by have := HNB.out; simp only [maxLen]; omega) rfl ?_; intro cap5 W5 HC5 hb5; have HB5 := Lib.hid (HB0.out.trans (hb5.mono HB0.out.size)); clear tok1 hb5 _t))
        refine (versions_ W5 (HV.out _ HB5.out)).mono ?_
        rintro e w6 ⟨A6, c6, rfl, hS6, hb6⟩
        have HS6 := Lib.hid hS6
        have HBS6 : Hid (Bs w6 (.some ⟨w0.heap.size, 0, none⟩) N cap5 Z6) := Lib.hid (HC5.out.bs.below hb6)
        have HB6 := Lib.hid (HB5.out.trans (hb6.mono HB5.out.size))
        clear hS6 hb6 HC5 HB5 HB0 HG0 HZ1 HZ2 HZ3 HZ4 HZ5 HZ6 HLS HN HY1
        go_wp2_with (fail)
        obtain ⟨g0, hg0⟩ : ∃ g, g = w0.heap.size := ⟨_, rfl⟩
        rw [← hg0] at HBS6 ⊢
        clear hg0
        go_loop [78, 13, 15] (fun i kn _ => ∃ k : Nat, k ≤ 10 ∧ i = .int .i64 k ∧ kn = .bool (knownK v k)) (fun i _ _ => 10 - (intOf i).toNat)
        case atStart => exact ⟨0, by omega, rfl, rfl⟩
        case round =>
          obtain ⟨k, hk, rfl, rfl⟩ := hrel
          by_cases hlt : k < 10
          · as_aux_lemma =>
            obtain ⟨b, o, rfl, _, hc⟩ := HS6.out.read hlt
            rw [vers_atC k hlt] at hc
            have HKE := Lib.hid (knownK_succ v k)
            have HKL := Lib.hid hlt
            have d5 : decide ((k : Int) < 10) = true := by simp; omega
            have d6 : (k : Int) < 10 := by omega
            have d7 : (0 : Int) ≤ (k : Int) := by omega
            have w1' : wrap64 ((k : Int) + 1) = (k : Int) + 1 := IntWalk.wrap64_in _ (by omega)
            have HVI := Lib.hid (txt_inj (a := vB k) (b := v))
            clear hlt hk HS6
            generalize vB k = vk at *
            cases hkk : knownK v k
            · cases hvv : (vk.toList == v.toList)
              · as_aux_lemma =>
                have HE : Hid (knownK v (k + 1) = false) := Lib.hid (by rw [HKE.out, hkk, ← HVI.out, hvv]; rfl)
                clear hkk
                go_wp2_with (fail)
                go_round
                case rel => exact ⟨k + 1, HKL.out, by go_num, by rw [HE.out]⟩
                case measure => have := HKL.out; simp [intOf]; omega
              · as_aux_lemma =>
                have HE : Hid (knownK v (k + 1) = true) := Lib.hid (by rw [HKE.out, hkk, ← HVI.out, hvv]; rfl)
                clear hkk
                go_wp2_with (fail)
                go_round
                case rel => exact ⟨k + 1, HKL.out, by go_num, by rw [HE.out]⟩
                case measure => have := HKL.out; simp [intOf]; omega
            · as_aux_lemma =>
              have HE : Hid (knownK v (k + 1) = true) := Lib.hid (by rw [HKE.out, hkk]; rfl)
              clear hkk
              go_wp2_with (fail)
              go_round
              case rel => exact ⟨k + 1, HKL.out, by go_num, by rw [HE.out]⟩
              case measure => have := HKL.out; simp [intOf]; omega
          · as_aux_lemma =>
            obtain rfl : k = 10 := by omega
            rw [show knownK v 10 = knownD v from rfl]
            have d5 : decide (((10 : Nat) : Int) < 10) = false := by simp
            clear hlt hk HS6
            have HW : Hid (wantC false (knownD v) (procD p) = cB 1) := Lib.hid rfl
            go_wp2_with (fail)
            refine (verdict_ _ N cap5 Z6 w6 (HV.out _ HB6.out) HBS6.out (by have := HNB.out; omega)).mono ?_
            rw [HVD.out, HW.out]
            rintro e w7 ⟨rfl, hb7⟩
            have hbx : Below w6.heap.size w6 (w7.alloc (.cells (cHd id p.data.toList v.data.toList).cells TH)) := hb7.alloc hb7.size _
            have HBS7 := Lib.hid (HBS6.out.below hbx)
            have HB7 := Lib.hid (HB6.out.trans (hbx.mono HB6.out.size))
            obtain ⟨K, hK⟩ : ∃ K, K = checkD (cHd id p.data.toList v.data.toList) := ⟨_, rfl⟩
            rw [← hK]
            obtain ⟨g, hg⟩ : ∃ g, g = cHd id p.data.toList v.data.toList := ⟨_, rfl⟩
            rw [← hg] at HBS7 HB7 ⊢
            clear hK hg hb7 hbx HBS6 HB6
            go_wp2_with (fail)
            generalize w7.alloc (.cells #[Go.Proofs.YtgffamdlnacamaaDoor.u8 g.d.a, Go.Proofs.YtgffamdlnacamaaDoor.u8 g.d.b, Go.Proofs.YtgffamdlnacamaaDoor.u8 g.d.c, Go.Proofs.YtgffamdlnacamaaDoor.u8 g.d.d, Go.Proofs.YtgffamdlnacamaaDoor.u8 g.d.e, .string g.a0, .string g.a1, .string g.a2, .string g.a3, .string g.a4, .string g.a5, .string g.a6, .string g.a7, .string g.a8, .string g.a9] TH) = w8 at *
            refine (alive11 w8 (HV.out _ HB7.out) (HS.out _ HB7.out) (HC.out _ HB7.out)).mono ?_
            rintro e w9 ⟨rfl, hb9⟩
            have HBS9 := Lib.hid (HBS7.out.below hb9)
            have HB9 := Lib.hid (HB7.out.trans (hb9.mono HB7.out.size))
            clear hb9 HBS7 HB7
            have q1 : ((cB 1).toList == (⟨#[65, 69]⟩ : ByteArray).toList) = true := by decide +kernel
            have q2 : ((⟨#[65, 69]⟩ : ByteArray).toList == [65, 65]) = false := by decide +kernel
            have q3 : ((cB 1).toList == [65, 69]) = true := by decide +kernel
            go_wp2_with (fail)
            refine (stored_ _ N cap5 Z6 w9 (HV.out _ HB9.out) HBS9.out (by have := HNB.out; omega)).mono ?_
            rw [HVD.out, HW.out, show decide (cB 1 = cB 0) = false from by decide +kernel]
            rintro e wA ⟨rfl, hbA⟩
            have HBA := Lib.hid (HB9.out.trans (hbA.mono HB9.out.size))
            clear hbA
            go_wp2_with (fail)
            go_ret
            exact ⟨rfl, HBA.out⟩
      · as_aux_lemma =>
        obtain ⟨id, hid⟩ : ∃ id : List UInt8, id = [55] := ⟨_, rfl⟩
        have HCD : Hid (codeOf (checkD (cHd id p.data.toList v.data.toList)) = wantC true (knownD v) (procD p)) := Lib.hid (by rw [hid]; exact cCode HOP.out.2 HOV.out.2 true)
        have HIL : Hid (id.length ≤ 1) := Lib.hid (by rw [hid]; decide)
        have HIF : Hid (freeC id) := Lib.hid (by rw [hid]; intro c hc; simp at hc; try (subst hc; decide))
        obtain ⟨Z1, hZ1⟩ : ∃ Z, Z = preC ++ id := ⟨_, rfl⟩
        have HY1 : Hid (Hid (Z1 = preC ++ [55])) := Lib.hid (Lib.hid (by rw [hZ1, hid]))
        clear hid
        have HVL : Hid (v.data.toList.length = v.size) := Lib.hid (by simp)
        have HPL : Hid (p.data.toList.length = p.size) := Lib.hid (by simp)
        obtain ⟨Z2, hZ2⟩ : ∃ Z, Z = Z1 ++ [124] := ⟨_, rfl⟩
        obtain ⟨Z3, hZ3⟩ : ∃ Z, Z = Z2 ++ p.data.toList := ⟨_, rfl⟩
        obtain ⟨Z4, hZ4⟩ : ∃ Z, Z = Z3 ++ [124] := ⟨_, rfl⟩
        obtain ⟨Z5, hZ5⟩ : ∃ Z, Z = Z4 ++ v.data.toList := ⟨_, rfl⟩
        obtain ⟨Z6, hZ6⟩ : ∃ Z, Z = Z5 ++ [13] := ⟨_, rfl⟩
        have l1 : Z1.length = 19 + id.length := by rw [hZ1, List.length_append]; rfl
        have l2 : Z2.length = 20 + id.length := by rw [hZ2, List.length_append, l1]; simp; omega
        have l3 : Z3.length = 20 + id.length + p.size := by rw [hZ3, List.length_append, l2, HPL.out]
        have l4 : Z4.length = 21 + id.length + p.size := by rw [hZ4, List.length_append, l3]; simp; omega
        have l5 : Z5.length = 21 + id.length + p.size + v.size := by rw [hZ5, List.length_append, l4, HVL.out]
        have l6 : Z6.length = 22 + id.length + p.size + v.size := by rw [hZ6, List.length_append, l5]; simp; omega
        have HLS : Hid (Z1.length ≤ 1000 ∧ Z2.length ≤ 1000 ∧ Z3.length ≤ 1000 ∧ Z4.length ≤ 1000 ∧ Z5.length ≤ 1000 ∧ Z6.length ≤ 1000) := Lib.hid (by have := HOV.out.1; have := HOP.out.1; have := HIL.out; omega)
        have HZ1 := Lib.hid hZ1
        have HZ2 := Lib.hid hZ2
        have HZ3 := Lib.hid hZ3
        have HZ4 := Lib.hid hZ4
        have HZ5 := Lib.hid hZ5
        have HZ6 := Lib.hid hZ6
        have HZE : Hid (Z6 = rowSeg sgnC (cT id p.data.toList v.data.toList) ++ [13]) := Lib.hid (by rw [← sumC, hZ6, hZ5, hZ4, hZ3, hZ2, hZ1])
        clear l1 l2 l3 l4 l5 l6 hZ1 hZ2 hZ3 hZ4 hZ5 hZ6
        obtain ⟨N, hN⟩ : ∃ N, Z6.length = N := ⟨_, rfl⟩
        have HN := Lib.hid hN
        have HNB : Hid (N ≤ 1000) := Lib.hid (by rw [← hN]; exact HLS.out.2.2.2.2.2)
        clear hN
        have HVD : Hid (verdictD Z6 = (cHd id p.data.toList v.data.toList, wantC true (knownD v) (procD p), checkD (cHd id p.data.toList v.data.toList))) := Lib.hid (by rw [HZE.out, cVerdict HIF.out HOP.out.2 HOV.out.2, HCD.out])
        clear HCD HZE
        have tok1 : Hid True := Lib.hid trivial
        go_wp2_with (first | (with_reducible refine wpList_addT (dst := some 67) preC [55] Z1 HY1.out (by kernel_rfl) (by kernel_rfl) (by have := HLS.out; omega) ?_) | (with_reducible refine wpList_addT (dst := some 68) Z1 [124] Z2 HZ2 (by kernel_rfl) (by kernel_rfl) (by have := HLS.out; omega) ?_) | (with_reducible refine wpList_addT (dst := some 70) Z2 p.data.toList Z3 HZ3 (by kernel_rfl) (by kernel_rfl) (by have := HLS.out; omega) ?_) | (with_reducible refine wpList_addT (dst := some 71) Z3 [124] Z4 HZ4 (by kernel_rfl) (by kernel_rfl) (by have := HLS.out; omega) ?_) | (with_reducible refine wpList_addT (dst := some 73) Z4 v.data.toList Z5 HZ5 (by kernel_rfl) (by kernel_rfl) (by have := HLS.out; omega) ?_) | (with_reducible refine wpList_addT (dst := some 74) Z5 [13] Z6 HZ6 (by kernel_rfl) (by kernel_rfl) (by have := HLS.out; omega) ?_) | (have _t := tok1; with_reducible refine wpList_convT Z6 N w0.heap.size (by kernel_rfl) HN.out (by have := HNB.out; simp only [maxLen]; omega) rfl ?_; intro cap5 W5 HC5 hb5; have HB5 := Lib.hid (HB0.out.trans (hb5.mono HB0.out.size)); clear tok1 hb5 _t))
        refine (versions_ W5 (HV.out _ HB5.out)).mono ?_
        rintro e w6 ⟨A6, c6, rfl, hS6, hb6⟩
        have HS6 := Lib.hid hS6
        have HBS6 : Hid (Bs w6 (.some ⟨w0.heap.size, 0, none⟩) N cap5 Z6) := Lib.hid (HC5.out.bs.below hb6)
        have HB6 := Lib.hid (HB5.out.trans (hb6.mono HB5.out.size))
        clear hS6 hb6 HC5 HB5 HB0 HG0 HZ1 HZ2 HZ3 HZ4 HZ5 HZ6 HLS HN HY1
        go_wp2_with (fail)
        obtain ⟨g0, hg0⟩ : ∃ g, g = w0.heap.size := ⟨_, rfl⟩
        rw [← hg0] at HBS6 ⊢
        clear hg0
        go_loop [78, 13, 15] (fun i kn _ => ∃ k : Nat, k ≤ 10 ∧ i = .int .i64 k ∧ kn = .bool (knownK v k)) (fun i _ _ => 10 - (intOf i).toNat)
        case atStart => exact ⟨0, by omega, rfl, rfl⟩
        case round =>
          obtain ⟨k, hk, rfl, rfl⟩ := hrel
          by_cases hlt : k < 10
          · as_aux_lemma =>
            obtain ⟨b, o, rfl, _, hc⟩ := HS6.out.read hlt
            rw [vers_atC k hlt] at hc
            have HKE := Lib.hid (knownK_succ v k)
            have HKL := Lib.hid hlt
            have d5 : decide ((k : Int) < 10) = true := by simp; omega
            have d6 : (k : Int) < 10 := by omega
            have d7 : (0 : Int) ≤ (k : Int) := by omega
            have w1' : wrap64 ((k : Int) + 1) = (k : Int) + 1 := IntWalk.wrap64_in _ (by omega)
            have HVI := Lib.hid (txt_inj (a := vB k) (b := v))
            clear hlt hk HS6
            generalize vB k = vk at *
            cases hkk : knownK v k
            · cases hvv : (vk.toList == v.toList)
              · as_aux_lemma =>
                have HE : Hid (knownK v (k + 1) = false) := Lib.hid (by rw [HKE.out, hkk, ← HVI.out, hvv]; rfl)
                clear hkk
                go_wp2_with (fail)
                go_round
                case rel => exact ⟨k + 1, HKL.out, by go_num, by rw [HE.out]⟩
                case measure => have := HKL.out; simp [intOf]; omega
              · as_aux_lemma =>
                have HE : Hid (knownK v (k + 1) = true) := Lib.hid (by rw [HKE.out, hkk, ← HVI.out, hvv]; rfl)
                clear hkk
                go_wp2_with (fail)
                go_round
                case rel => exact ⟨k + 1, HKL.out, by go_num, by rw [HE.out]⟩
                case measure => have := HKL.out; simp [intOf]; omega
            · as_aux_lemma =>
              have HE : Hid (knownK v (k + 1) = true) := Lib.hid (by rw [HKE.out, hkk]; rfl)
              clear hkk
              go_wp2_with (fail)
              go_round
              case rel => exact ⟨k + 1, HKL.out, by go_num, by rw [HE.out]⟩
              case measure => have := HKL.out; simp [intOf]; omega
          · as_aux_lemma =>
            obtain rfl : k = 10 := by omega
            rw [show knownK v 10 = knownD v from rfl]
            have d5 : decide (((10 : Nat) : Int) < 10) = false := by simp
            clear hlt hk HS6
            cases hkk : knownD v
            · as_aux_lemma =>
              have HW : Hid (wantC true (knownD v) (procD p) = cB 2) := Lib.hid (by rw [hkk]; rfl)
              clear hkk
              go_wp2_with (fail)
              refine (verdict_ _ N cap5 Z6 w6 (HV.out _ HB6.out) HBS6.out (by have := HNB.out; omega)).mono ?_
              rw [HVD.out, HW.out]
              rintro e w7 ⟨rfl, hb7⟩
              have hbx : Below w6.heap.size w6 (w7.alloc (.cells (cHd id p.data.toList v.data.toList).cells TH)) := hb7.alloc hb7.size _
              have HBS7 := Lib.hid (HBS6.out.below hbx)
              have HB7 := Lib.hid (HB6.out.trans (hbx.mono HB6.out.size))
              obtain ⟨K, hK⟩ : ∃ K, K = checkD (cHd id p.data.toList v.data.toList) := ⟨_, rfl⟩
              rw [← hK]
              obtain ⟨g, hg⟩ : ∃ g, g = cHd id p.data.toList v.data.toList := ⟨_, rfl⟩
              rw [← hg] at HBS7 HB7 ⊢
              clear hK hg hb7 hbx HBS6 HB6
              go_wp2_with (fail)
              generalize w7.alloc (.cells #[Go.Proofs.YtgffamdlnacamaaDoor.u8 g.d.a, Go.Proofs.YtgffamdlnacamaaDoor.u8 g.d.b, Go.Proofs.YtgffamdlnacamaaDoor.u8 g.d.c, Go.Proofs.YtgffamdlnacamaaDoor.u8 g.d.d, Go.Proofs.YtgffamdlnacamaaDoor.u8 g.d.e, .string g.a0, .string g.a1, .string g.a2, .string g.a3, .string g.a4, .string g.a5, .string g.a6, .string g.a7, .string g.a8, .string g.a9] TH) = w8 at *
              refine (alive11 w8 (HV.out _ HB7.out) (HS.out _ HB7.out) (HC.out _ HB7.out)).mono ?_
              rintro e w9 ⟨rfl, hb9⟩
              have HBS9 := Lib.hid (HBS7.out.below hb9)
              have HB9 := Lib.hid (HB7.out.trans (hb9.mono HB7.out.size))
              clear hb9 HBS7 HB7
              have q1 : ((cB 2).toList == (⟨#[65, 82]⟩ : ByteArray).toList) = true := by decide +kernel
              have q2 : ((⟨#[65, 82]⟩ : ByteArray).toList == [65, 65]) = false := by decide +kernel
              have q3 : ((cB 2).toList == [65, 82]) = true := by decide +kernel
              go_wp2_with (fail)
              refine (stored_ _ N cap5 Z6 w9 (HV.out _ HB9.out) HBS9.out (by have := HNB.out; omega)).mono ?_
              rw [HVD.out, HW.out, show decide (cB 2 = cB 0) = false from by decide +kernel]
              rintro e wA ⟨rfl, hbA⟩
              have HBA := Lib.hid (HB9.out.trans (hbA.mono HB9.out.size))
              clear hbA
              go_wp2_with (fail)
              go_ret
              exact ⟨rfl, HBA.out⟩
            · cases hpp : procD p
              · as_aux_lemma =>
                have HW : Hid (wantC true (knownD v) (procD p) = cB 2) := Lib.hid (by rw [hkk, hpp]; rfl)
                obtain ⟨n1, n2, n3⟩ := proc_f p hpp
                obtain ⟨m1, m2, m3⟩ := proc_ne n1 n2 n3
                clear hkk hpp
                go_wp2_with (fail)
                refine (verdict_ _ N cap5 Z6 w6 (HV.out _ HB6.out) HBS6.out (by have := HNB.out; omega)).mono ?_
                rw [HVD.out, HW.out]
                rintro e w7 ⟨rfl, hb7⟩
                have hbx : Below w6.heap.size w6 (w7.alloc (.cells (cHd id p.data.toList v.data.toList).cells TH)) := hb7.alloc hb7.size _
                have HBS7 := Lib.hid (HBS6.out.below hbx)
                have HB7 := Lib.hid (HB6.out.trans (hbx.mono HB6.out.size))
                obtain ⟨K, hK⟩ : ∃ K, K = checkD (cHd id p.data.toList v.data.toList) := ⟨_, rfl⟩
                rw [← hK]
                obtain ⟨g, hg⟩ : ∃ g, g = cHd id p.data.toList v.data.toList := ⟨_, rfl⟩
                rw [← hg] at HBS7 HB7 ⊢
                clear hK hg hb7 hbx HBS6 HB6
                go_wp2_with (fail)
                generalize w7.alloc (.cells #[Go.Proofs.YtgffamdlnacamaaDoor.u8 g.d.a, Go.Proofs.YtgffamdlnacamaaDoor.u8 g.d.b, Go.Proofs.YtgffamdlnacamaaDoor.u8 g.d.c, Go.Proofs.YtgffamdlnacamaaDoor.u8 g.d.d, Go.Proofs.YtgffamdlnacamaaDoor.u8 g.d.e, .string g.a0, .string g.a1, .string g.a2, .string g.a3, .string g.a4, .string g.a5, .string g.a6, .string g.a7, .string g.a8, .string g.a9] TH) = w8 at *
                refine (alive11 w8 (HV.out _ HB7.out) (HS.out _ HB7.out) (HC.out _ HB7.out)).mono ?_
                rintro e w9 ⟨rfl, hb9⟩
                have HBS9 := Lib.hid (HBS7.out.below hb9)
                have HB9 := Lib.hid (HB7.out.trans (hb9.mono HB7.out.size))
                clear hb9 HBS7 HB7
                have q1 : ((cB 2).toList == (⟨#[65, 82]⟩ : ByteArray).toList) = true := by decide +kernel
                have q2 : ((⟨#[65, 82]⟩ : ByteArray).toList == [65, 65]) = false := by decide +kernel
                have q3 : ((cB 2).toList == [65, 82]) = true := by decide +kernel
                go_wp2_with (fail)
                refine (stored_ _ N cap5 Z6 w9 (HV.out _ HB9.out) HBS9.out (by have := HNB.out; omega)).mono ?_
                rw [HVD.out, HW.out, show decide (cB 2 = cB 0) = false from by decide +kernel]
                rintro e wA ⟨rfl, hbA⟩
                have HBA := Lib.hid (HB9.out.trans (hbA.mono HB9.out.size))
                clear hbA
                go_wp2_with (fail)
                go_ret
                exact ⟨rfl, HBA.out⟩
              · have HW : Hid (wantC true (knownD v) (procD p) = cB 0) := Lib.hid (by rw [hkk, hpp]; rfl)
                rcases proc_t p hpp with n1 | ⟨n1, n2⟩ | ⟨n1, n2, n3⟩
                · as_aux_lemma =>
                  have m1 := bne_of n1
                  clear hkk hpp
                  go_wp2_with (fail)
                  refine (verdict_ _ N cap5 Z6 w6 (HV.out _ HB6.out) HBS6.out (by have := HNB.out; omega)).mono ?_
                  rw [HVD.out, HW.out]
                  rintro e w7 ⟨rfl, hb7⟩
                  have hbx : Below w6.heap.size w6 (w7.alloc (.cells (cHd id p.data.toList v.data.toList).cells TH)) := hb7.alloc hb7.size _
                  have HBS7 := Lib.hid (HBS6.out.below hbx)
                  have HB7 := Lib.hid (HB6.out.trans (hbx.mono HB6.out.size))
                  obtain ⟨K, hK⟩ : ∃ K, K = checkD (cHd id p.data.toList v.data.toList) := ⟨_, rfl⟩
                  rw [← hK]
                  obtain ⟨g, hg⟩ : ∃ g, g = cHd id p.data.toList v.data.toList := ⟨_, rfl⟩
                  rw [← hg] at HBS7 HB7 ⊢
                  clear hK hg hb7 hbx HBS6 HB6
                  go_wp2_with (fail)
                  generalize w7.alloc (.cells #[Go.Proofs.YtgffamdlnacamaaDoor.u8 g.d.a, Go.Proofs.YtgffamdlnacamaaDoor.u8 g.d.b, Go.Proofs.YtgffamdlnacamaaDoor.u8 g.d.c, Go.Proofs.YtgffamdlnacamaaDoor.u8 g.d.d, Go.Proofs.YtgffamdlnacamaaDoor.u8 g.d.e, .string g.a0, .string g.a1, .string g.a2, .string g.a3, .string g.a4, .string g.a5, .string g.a6, .string g.a7, .string g.a8, .string g.a9] TH) = w8 at *
                  refine (alive11 w8 (HV.out _ HB7.out) (HS.out _ HB7.out) (HC.out _ HB7.out)).mono ?_
                  rintro e w9 ⟨rfl, hb9⟩
                  have HBS9 := Lib.hid (HBS7.out.below hb9)
                  have HB9 := Lib.hid (HB7.out.trans (hb9.mono HB7.out.size))
                  clear hb9 HBS7 HB7
                  have q1 : ((cB 0).toList == (⟨#[65, 65]⟩ : ByteArray).toList) = true := by decide +kernel
                  have q2 : ((⟨#[65, 65]⟩ : ByteArray).toList == [65, 65]) = true := by decide +kernel
                  have q3 : ((cB 0).toList == [65, 65]) = true := by decide +kernel
                  go_wp2_with (fail)
                  refine (stored_ _ N cap5 Z6 w9 (HV.out _ HB9.out) HBS9.out (by have := HNB.out; omega)).mono ?_
                  rw [HVD.out, HW.out, show decide (cB 0 = cB 0) = true from by decide +kernel]
                  rintro e wA ⟨rfl, hbA⟩
                  have HBA := Lib.hid (HB9.out.trans (hbA.mono HB9.out.size))
                  clear hbA
                  go_wp2_with (fail)
                  go_ret
                  exact ⟨rfl, HBA.out⟩
                · as_aux_lemma =>
                  have m1 := bne_of n1
                  have m2 := bne_of n2
                  clear hkk hpp
                  go_wp2_with (fail)
                  refine (verdict_ _ N cap5 Z6 w6 (HV.out _ HB6.out) HBS6.out (by have := HNB.out; omega)).mono ?_
                  rw [HVD.out, HW.out]
                  rintro e w7 ⟨rfl, hb7⟩
                  have hbx : Below w6.heap.size w6 (w7.alloc (.cells (cHd id p.data.toList v.data.toList).cells TH)) := hb7.alloc hb7.size _
                  have HBS7 := Lib.hid (HBS6.out.below hbx)
                  have HB7 := Lib.hid (HB6.out.trans (hbx.mono HB6.out.size))
                  obtain ⟨K, hK⟩ : ∃ K, K = checkD (cHd id p.data.toList v.data.toList) := ⟨_, rfl⟩
                  rw [← hK]
                  obtain ⟨g, hg⟩ : ∃ g, g = cHd id p.data.toList v.data.toList := ⟨_, rfl⟩
                  rw [← hg] at HBS7 HB7 ⊢
                  clear hK hg hb7 hbx HBS6 HB6
                  go_wp2_with (fail)
                  generalize w7.alloc (.cells #[Go.Proofs.YtgffamdlnacamaaDoor.u8 g.d.a, Go.Proofs.YtgffamdlnacamaaDoor.u8 g.d.b, Go.Proofs.YtgffamdlnacamaaDoor.u8 g.d.c, Go.Proofs.YtgffamdlnacamaaDoor.u8 g.d.d, Go.Proofs.YtgffamdlnacamaaDoor.u8 g.d.e, .string g.a0, .string g.a1, .string g.a2, .string g.a3, .string g.a4, .string g.a5, .string g.a6, .string g.a7, .string g.a8, .string g.a9] TH) = w8 at *
                  refine (alive11 w8 (HV.out _ HB7.out) (HS.out _ HB7.out) (HC.out _ HB7.out)).mono ?_
                  rintro e w9 ⟨rfl, hb9⟩
                  have HBS9 := Lib.hid (HBS7.out.below hb9)
                  have HB9 := Lib.hid (HB7.out.trans (hb9.mono HB7.out.size))
                  clear hb9 HBS7 HB7
                  have q1 : ((cB 0).toList == (⟨#[65, 65]⟩ : ByteArray).toList) = true := by decide +kernel
                  have q2 : ((⟨#[65, 65]⟩ : ByteArray).toList == [65, 65]) = true := by decide +kernel
                  have q3 : ((cB 0).toList == [65, 65]) = true := by decide +kernel
                  go_wp2_with (fail)
                  refine (stored_ _ N cap5 Z6 w9 (HV.out _ HB9.out) HBS9.out (by have := HNB.out; omega)).mono ?_
                  rw [HVD.out, HW.out, show decide (cB 0 = cB 0) = true from by decide +kernel]
                  rintro e wA ⟨rfl, hbA⟩
                  have HBA := Lib.hid (HB9.out.trans (hbA.mono HB9.out.size))
                  clear hbA
                  go_wp2_with (fail)
                  go_ret
                  exact ⟨rfl, HBA.out⟩
                · as_aux_lemma =>
                  have m1 := bne_of n1
                  have m2 := bne_of n2
                  have m3 := bne_of n3
                  clear hkk hpp
                  go_wp2_with (fail)
                  refine (verdict_ _ N cap5 Z6 w6 (HV.out _ HB6.out) HBS6.out (by have := HNB.out; omega)).mono ?_
                  rw [HVD.out, HW.out]
                  rintro e w7 ⟨rfl, hb7⟩
                  have hbx : Below w6.heap.size w6 (w7.alloc (.cells (cHd id p.data.toList v.data.toList).cells TH)) := hb7.alloc hb7.size _
                  have HBS7 := Lib.hid (HBS6.out.below hbx)
                  have HB7 := Lib.hid (HB6.out.trans (hbx.mono HB6.out.size))
                  obtain ⟨K, hK⟩ : ∃ K, K = checkD (cHd id p.data.toList v.data.toList) := ⟨_, rfl⟩
                  rw [← hK]
                  obtain ⟨g, hg⟩ : ∃ g, g = cHd id p.data.toList v.data.toList := ⟨_, rfl⟩
                  rw [← hg] at HBS7 HB7 ⊢
                  clear hK hg hb7 hbx HBS6 HB6
                  go_wp2_with (fail)
                  generalize w7.alloc (.cells #[Go.Proofs.YtgffamdlnacamaaDoor.u8 g.d.a, Go.Proofs.YtgffamdlnacamaaDoor.u8 g.d.b, Go.Proofs.YtgffamdlnacamaaDoor.u8 g.d.c, Go.Proofs.YtgffamdlnacamaaDoor.u8 g.d.d, Go.Proofs.YtgffamdlnacamaaDoor.u8 g.d.e, .string g.a0, .string g.a1, .string g.a2, .string g.a3, .string g.a4, .string g.a5, .string g.a6, .string g.a7, .string g.a8, .string g.a9] TH) = w8 at *
                  refine (alive11 w8 (HV.out _ HB7.out) (HS.out _ HB7.out) (HC.out _ HB7.out)).mono ?_
                  rintro e w9 ⟨rfl, hb9⟩
                  have HBS9 := Lib.hid (HBS7.out.below hb9)
                  have HB9 := Lib.hid (HB7.out.trans (hb9.mono HB7.out.size))
                  clear hb9 HBS7 HB7
                  have q1 : ((cB 0).toList == (⟨#[65, 65]⟩ : ByteArray).toList) = true := by decide +kernel
                  have q2 : ((⟨#[65, 65]⟩ : ByteArray).toList == [65, 65]) = true := by decide +kernel
                  have q3 : ((cB 0).toList == [65, 65]) = true := by decide +kernel
                  go_wp2_with (fail)
                  refine (stored_ _ N cap5 Z6 w9 (HV.out _ HB9.out) HBS9.out (by have := HNB.out; omega)).mono ?_
                  rw [HVD.out, HW.out, show decide (cB 0 = cB 0) = true from by decide +kernel]
                  rintro e wA ⟨rfl, hbA⟩
                  have HBA := Lib.hid (HB9.out.trans (hbA.mono HB9.out.size))
                  clear hbA
                  go_wp2_with (fail)
                  go_ret
                  exact ⟨rfl, HBA.out⟩
end Go.Proofs.YtgffamdlnacamaaDoor
