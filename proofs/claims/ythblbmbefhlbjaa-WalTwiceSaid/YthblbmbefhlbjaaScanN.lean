/- Layer 13: Scan, walked; its rows lie in memory of the call's own. -/
import Derived.Test.YthblbmbefhlbjaaScanMath
import Derived.Test.YthblbmbefhlbjaaRw
namespace Go.Proofs.Ythblbmbefhlbjaa
open Go.RowKit

abbrev PLn (BB PB LB : Nat) : Nat → Prop := fun k => k = BB ∨ k = PB ∨ k = LB
/-- the blocks that rows avoid -/
abbrev PLBn (B BB PB LB : Nat) : Nat → Prop := fun k => k = BB ∨ k = PB ∨ k = LB ∨ k < B
theorem PL_subn {B BB PB LB k : Nat} (h : PLn BB PB LB k) : PLBn B BB PB LB k := by
  rcases h with h | h | h
  · exact .inl h
  · exact .inr (.inl h)
  · exact .inr (.inr (.inl h))
/-- what Scan holds: its bytes, the place, the records so far -/
structure ScanStn (B BB PB LB : Nat) (A : Option Addr) (n c : Nat) (l : List UInt8) (p : Nat) (acc : List (List UInt8)) (v : Value) (w : World) : Prop where
  hb : w.heap[BB]? = some (.cells #[.slice A n c] 27)
  hp : w.heap[PB]? = some (.cells #[.int .i64 (p : Int)] 3)
  hl : w.heap[LB]? = some (.cells #[v] 47)
  bs : Bs w A n c l
  lo : 0 < n → ∀ b, A = some b → b.block < B
  rw : Rw B (PLBn B BB PB LB) w v acc
  bB : B ≤ BB
  bP : B ≤ PB
  bL : B ≤ LB
theorem ScanStn.below {B BB PB LB n c p : Nat} {A : Option Addr} {l : List UInt8} {acc : List (List UInt8)} {v : Value} {w w' : World} (h : ScanStn B BB PB LB A n c l p acc v w) (hb : Below w.heap.size w w') : ScanStn B BB PB LB A n c l p acc v w' :=
  ⟨(hb.block BB (Array.getElem?_eq_some_iff.1 h.hb).1).trans h.hb, (hb.block PB (Array.getElem?_eq_some_iff.1 h.hp).1).trans h.hp, (hb.block LB (Array.getElem?_eq_some_iff.1 h.hl).1).trans h.hl, h.bs.below hb, h.lo, h.rw.below hb, h.bB, h.bP, h.bL⟩
theorem ScanStn.ltB {B BB PB LB n c p : Nat} {A : Option Addr} {l : List UInt8} {acc : List (List UInt8)} {v : Value} {w : World} (h : ScanStn B BB PB LB A n c l p acc v w) : BB < w.heap.size ∧ PB < w.heap.size ∧ LB < w.heap.size :=
  ⟨(Array.getElem?_eq_some_iff.1 h.hb).1, (Array.getElem?_eq_some_iff.1 h.hp).1, (Array.getElem?_eq_some_iff.1 h.hl).1⟩

theorem ScanStn.app {B BB PB LB n c p k : Nat} {A : Option Addr} {l : List UInt8} {acc Z : List (List UInt8)} {v v2 : Value} {W w2 : World} (h : ScanStn B BB PB LB A n c l p acc v W) (hw : Rw B (PLBn B BB PB LB) w2 v2 Z) (hg : W.grownBy w2 v.ownBlock) (hk : PB ≠ LB) (hkb : BB ≠ LB) (hkp : BB ≠ PB) :
    w2.cell? ⟨LB, 0, none⟩ = some v ∧ w2.frozen? ⟨LB, 0, none⟩ = false ∧ w2.cell? ⟨PB, 0, none⟩ = some (.int .i64 (p : Int)) ∧ w2.frozen? ⟨PB, 0, none⟩ = false ∧
    Hid (ScanStn B BB PB LB A n c l (p + k) Z v2 ((w2.setCell ⟨LB, 0, none⟩ v2).setCell ⟨PB, 0, none⟩ (.int .i64 ((p + k : Nat) : Int))) ∧ Below B W ((w2.setCell ⟨LB, 0, none⟩ v2).setCell ⟨PB, 0, none⟩ (.int .i64 ((p + k : Nat) : Int))) ∧ W.heap.size ≤ ((w2.setCell ⟨LB, 0, none⟩ v2).setCell ⟨PB, 0, none⟩ (.int .i64 ((p + k : Nat) : Int))).heap.size) := by
  obtain ⟨vs, hv⟩ := h.rw
  have hch : Ch (fun k => v.ownBlock = some k) W w2 := Ch.of_grown hg (fun k hk => hk)
  have hT := hv.2.2.2.1
  have r1 := hch.row h.hb (fun e => hT _ e (.inl rfl))
  have r2 := hch.row h.hp (fun e => hT _ e (.inr (.inl rfl)))
  have r3 := hch.row h.hl (fun e => hT _ e (.inr (.inr (.inl rfl))))
  have q1 := cell_of_row w2 LB 0 _ _ _ r3
  have q2 := cell_of_row w2 PB 0 _ _ _ r2
  have hvB : ∀ k, v.ownBlock = some k → B ≤ k := fun k hk => (World.ownsRow.lt hv.2.1 k hk).1
  have hcs : Ch (PLn BB PB LB) w2 ((w2.setCell ⟨LB, 0, none⟩ v2).setCell ⟨PB, 0, none⟩ (.int .i64 ((p + k : Nat) : Int))) := ((Ch.refl _ w2).set (a := ⟨LB, 0, none⟩) (.inr (.inr rfl)) v2).set (a := ⟨PB, 0, none⟩) (.inr (.inl rfl)) _
  have hlo := h.lo
  have hBb := h.bB
  have hBp := h.bP
  have hBl := h.bL
  have hbs2 : Bs w2 A n c l := h.bs.ch hch (fun h0 b' hb' hs => by have h1 := hvB b'.block hs; have h2 := hlo h0 b' hb'; omega)
  have hwz := (Array.getElem?_eq_some_iff.1 h.hb).1
  have hbl : Below B W w2 := hch.below hvB (by omega)
  refine ⟨by simpa using q1, by simp [World.frozen?, r3], by simpa using q2, by simp [World.frozen?, r2], Lib.hid ⟨⟨?_, ?_, ?_, ?_, h.lo, ?_, h.bB, h.bP, h.bL⟩, ?_, ?_⟩⟩
  · rw [show ((w2.setCell ⟨LB, 0, none⟩ v2).setCell ⟨PB, 0, none⟩ (.int .i64 ((p + k : Nat) : Int))).heap[BB]? = (w2.setCell ⟨LB, 0, none⟩ v2).heap[BB]? from Below.heap_setCell _ _ _ _ hkp, show (w2.setCell ⟨LB, 0, none⟩ v2).heap[BB]? = w2.heap[BB]? from Below.heap_setCell _ _ _ _ hkb]
    exact r1
  · refine heap_setCell_same _ PB 0 #[.int .i64 (p : Int)] _ _ ?_
    rw [show (w2.setCell ⟨LB, 0, none⟩ v2).heap[PB]? = w2.heap[PB]? from Below.heap_setCell _ _ _ _ hk]
    exact r2
  · rw [show ((w2.setCell ⟨LB, 0, none⟩ v2).setCell ⟨PB, 0, none⟩ (.int .i64 ((p + k : Nat) : Int))).heap[LB]? = (w2.setCell ⟨LB, 0, none⟩ v2).heap[LB]? from Below.heap_setCell _ _ _ _ (Ne.symm hk)]
    exact heap_setCell_same w2 LB 0 #[v] _ _ r3
  · exact hbs2.ch hcs (fun h0 b' hb' hs => by have h2 := hlo h0 b' hb'; rcases hs with hs | hs | hs <;> omega)
  · exact hw.ch hcs (fun _ _ h => PL_subn h) (fun _ _ h => h)
  · exact hbl.trans (hcs.below (fun k hs => by rcases hs with hs | hs | hs <;> omega) (by have := hch.size; omega))
  · exact Nat.le_trans hch.size hcs.size

def NextPostn (B BB PB LB : Nat) (A : Option Addr) (n c : Nat) (l : List UInt8) (p : Nat) (acc : List (List UInt8)) (v : Value) (w : World) (e : Ending) (w' : World) : Prop :=
  e = .returned (.int .i64 (getErr (l.drop p))) ∧ Below B w w' ∧ w.heap.size ≤ w'.heap.size ∧ (getErr (l.drop p) = 0 → ∃ v', ScanStn B BB PB LB A n c l (p + getLen (l.drop p)) (acc ++ [getGet (l.drop p)]) v' w') ∧ (getErr (l.drop p) ≠ 0 → ScanStn B BB PB LB A n c l p acc v w')

set_option maxHeartbeats 4000000 in
set_option maxRecDepth 100000 in
theorem scanNextn (B BB PB LB n c p : Nat) (A : Option Addr) (l : List UInt8) (acc : List (List UInt8)) (v : Value) (w : World) (h : ScanStn B BB PB LB A n c l p acc v w) (hp : p < n) (hacc : 9 * acc.length ≤ p) (hN : n ≤ 1099511627000) :
    Calls Try.prog 51 #[.pointer (some ⟨BB, 0, none⟩), .pointer (some ⟨PB, 0, none⟩), .pointer (some ⟨LB, 0, none⟩)] w (NextPostn B BB PB LB A n c l p acc v w) := by
  obtain ⟨b, o, rfl, _, _⟩ := h.bs.at_ (by omega)
  have hcm := h.bs.max
  have hle := h.bs.le
  have cb := cell_of_row w BB 0 _ _ _ h.hb
  have cp := cell_of_row w PB 0 _ _ _ h.hp
  simp only [List.getElem?_toArray, List.getElem?_cons_zero] at cb cp
  have e9 : ¬ c = p := by omega
  have hpi : (p : Int) ≤ (n : Int) := by omega
  have hpc : p ≤ c := by omega
  have hd := h.bs.drop (i := p) (by omega)
  rw [if_neg e9, Option.map_some, Addr.add_lit] at hd
  have HD := Lib.hid hd
  have H := Lib.hid h
  have HP := Lib.hid hp
  have HA := Lib.hid hacc
  clear h hd hp hacc
  go_enter Try.func51, Try.ntmps51
  go_wp2_with (fail)
  refine (entryGetN _ (n - p) (c - p) (l.drop p) w HD.out (by omega)).mono ?_
  rintro e w1 ⟨A1, c1, rfl, hB1, hfr, hb1⟩
  have H1 := Lib.hid (H.out.below hb1)
  have HB1 : Hid (Below B w w1) := Lib.hid (hb1.mono (by have := H.out.ltB; have := H.out.bB; omega))
  have HZ1 : Hid (w.heap.size ≤ w1.heap.size) := Lib.hid hb1.size
  have HX := Lib.hid hB1
  have HFR := Lib.hid hfr
  have HGL := Lib.hid (fun h : getErr (l.drop p) = 0 => getErr_len h)
  have HDL : Hid ((l.drop p).length = n - p) := Lib.hid HD.out.len
  clear hb1 hB1 hfr
  by_cases he : getErr (l.drop p) = 0
  · have hgl := HGL.out he
    have HEE := Lib.hid he
    have HGL := Lib.hid hgl
    have hlen : getLen (l.drop p) ≤ n - p := by have := HDL.out; omega
    generalize hx : getGet (l.drop p) = x at *
    generalize hk : getLen (l.drop p) = k at *
    rw [he]
    have HXX := Lib.hid hx
    have HKK := Lib.hid hk
    have hkp : k ≤ n - p := hlen
    have hpk : ((p + k : Nat) : Int) = (p : Int) + (k : Int) := by omega
    have HPK := Lib.hid hpk
    clear he hgl hx hk hlen hpk
    obtain ⟨Av, cv, hv⟩ := H.out.rw.form
    subst hv
    have c1l := cell_of_row w1 LB 0 _ _ _ H1.out.hl
    have c1p := cell_of_row w1 PB 0 _ _ _ H1.out.hp
    simp only [List.getElem?_toArray, List.getElem?_cons_zero] at c1l c1p
    have HA1 := Lib.hid ((Below.refl w1.heap.size w1).alloc (Nat.le_refl _) (.cells #[.slice A1 x.length c1] 27))
    have HW1 := Lib.hid (H1.out.below HA1.out)
    have HROW := Lib.hid (heap_alloc_new w1 (.cells #[.slice A1 x.length c1] 27))
    have HXA := Lib.hid (HX.out.below HA1.out)
    have HLT : Hid (0 < x.length → ∀ b, A1 = some b → ¬ (Value.slice Av acc.length cv).ownBlock = some b.block ∧ ¬ PLBn B BB PB LB b.block) := Lib.hid (fun _ b hb => by
      have h1 := HFR.out b hb
      have h2 := H.out.ltB
      obtain ⟨vs, hv⟩ := H.out.rw
      exact ⟨fun e => by have := (World.ownsRow.lt hv.2.1 _ e).2; omega, fun e => by have := H.out.bB; rcases e with e | e | e | e <;> omega⟩)
    have HTN : Hid (¬ PLBn B BB PB LB (w1.alloc (.cells #[.slice A1 x.length c1] 27)).heap.size) := Lib.hid (fun e => by
      have := HW1.out.ltB
      have := HW1.out.bB
      rcases e with e | e | e | e <;> omega)
    have HBZ : Hid (B ≤ (w1.alloc (.cells #[.slice A1 x.length c1] 27)).heap.size) := Lib.hid (by have := HW1.out.ltB; have := HW1.out.bB; omega)
    have hPL : PB ≠ LB := fun e => by
      have h1 := H1.out.hp
      have h2 := H1.out.hl
      rw [e, h2] at h1
      injection h1 with h1
      injection h1 with _ h1
      exact absurd h1 (by decide)
    have hBL : BB ≠ LB := fun e => by
      have h1 := H1.out.hb
      have h2 := H1.out.hl
      rw [e, h2] at h1
      injection h1 with h1
      injection h1 with _ h1
      exact absurd h1 (by decide)
    have hBP : BB ≠ PB := fun e => by
      have h1 := H1.out.hb
      have h2 := H1.out.hp
      rw [e, h2] at h1
      injection h1 with h1
      injection h1 with _ h1
      exact absurd h1 (by decide)
    have HPL := Lib.hid hPL
    have HBL := Lib.hid hBL
    have HBP := Lib.hid hBP
    have hacc : acc.length ≤ p := by have := HA.out; omega
    obtain ⟨Z, hZ⟩ : ∃ Z, acc ++ [x] = Z := ⟨_, rfl⟩
    have HZ := Lib.hid hZ
    clear hZ
    have tok1 : Hid True := Lib.hid trivial
    go_wp2_with (at_builtin; have _t := tok1; go_loud ((refine wpList_rw rfl (.tmp 17) (.tmp 19) rfl B (PLBn B BB PB LB) (.slice Av acc.length cv) acc x A1 c1 rfl HW1.out.rw HXA.out HLT.out HTN.out w1.heap.size rfl HROW.out (by omega) HBZ.out ?_; intro v2 w2 hw2 hgr2 hfr2; rw [HZ.out] at hw2; obtain ⟨A2, c2, rfl⟩ := hw2.form; obtain ⟨z1, z2, z3, z4, HDN⟩ := HW1.out.app (k := k) hw2 hgr2 HPL.out HBL.out HBP.out; clear tok1 hw2 hgr2 hfr2 _t)))
    rw [HPK.out] at HDN
    go_ret
    refine ⟨by rw [HEE.out]; rfl, HB1.out.trans (((HA1.out.mono ?_)).trans HDN.out.2.1), ?_, fun _ => ⟨.slice A2 Z.length c2, ?_⟩, fun h => absurd HEE.out h⟩
    · have := H1.out.ltB; have := H1.out.bB; omega
    · exact Nat.le_trans HZ1.out (Nat.le_trans HA1.out.size HDN.out.2.2)
    · rw [HXX.out, HKK.out, HZ.out]; exact HDN.out.1
  · have hge := get_err (l := l.drop p) rfl he
    have hne : (getErr (l.drop p) == 0) = false := by rw [beq_eq_false_iff_ne]; exact he
    have HEE := Lib.hid he
    clear he
    rw [hge.1, hge.2]
    clear hge
    go_wp2_with (fail)
    go_ret
    exact ⟨rfl, HB1.out, HZ1.out, fun h => absurd h HEE.out, fun _ => H1.out⟩

def placeOfn (PB : Nat) (w : World) : Nat := match w.cell? ⟨PB, 0, none⟩ with | some (.int _ z) => z.toNat | _ => 0
theorem ScanStn.cells {B BB PB LB n c p : Nat} {A : Option Addr} {l : List UInt8} {acc : List (List UInt8)} {v : Value} {w : World} (h : ScanStn B BB PB LB A n c l p acc v w) :
    w.cell? ⟨BB, 0, none⟩ = some (.slice A n c) ∧ w.cell? ⟨PB, 0, none⟩ = some (.int .i64 (p : Int)) ∧ w.cell? ⟨LB, 0, none⟩ = some v ∧ placeOfn PB w = p := by
  have cb := cell_of_row w BB 0 _ _ _ h.hb
  have cp := cell_of_row w PB 0 _ _ _ h.hp
  have cl := cell_of_row w LB 0 _ _ _ h.hl
  simp only [List.getElem?_toArray, List.getElem?_cons_zero] at cb cp cl
  refine ⟨cb, cp, cl, ?_⟩
  unfold placeOfn
  rw [cp]
  simp
theorem ScanStn.new (A : Option Addr) (n c : Nat) (l : List UInt8) (w : World) (hB : Bs w A n c l) :
    ScanStn w.heap.size w.heap.size (w.heap.size + 1 + 1) (w.heap.size + 1) A n c l 0 [] (.slice none 0 0) (((w.alloc (.cells #[.slice A n c] 27)).alloc (.cells #[.slice none 0 0] 47)).alloc (.cells #[.int .i64 0] 3)) ∧ Below w.heap.size w (((w.alloc (.cells #[.slice A n c] 27)).alloc (.cells #[.slice none 0 0] 47)).alloc (.cells #[.int .i64 0] 3)) := by
  have b1 : Below w.heap.size w (w.alloc (.cells #[.slice A n c] 27)) := (Below.refl _ _).alloc (Nat.le_refl _) _
  have b2 : Below w.heap.size w ((w.alloc (.cells #[.slice A n c] 27)).alloc (.cells #[.slice none 0 0] 47)) := b1.alloc (by simp) _
  have b3 : Below w.heap.size w (((w.alloc (.cells #[.slice A n c] 27)).alloc (.cells #[.slice none 0 0] 47)).alloc (.cells #[.int .i64 0] 3)) := b2.alloc (by simp; omega) _
  have z1 : (w.alloc (.cells #[.slice A n c] 27)).heap.size = w.heap.size + 1 := by simp
  have z2 : ((w.alloc (.cells #[.slice A n c] 27)).alloc (.cells #[.slice none 0 0] 47)).heap.size = w.heap.size + 1 + 1 := by simp
  have r1 := heap_alloc_new w (.cells #[.slice A n c] 27)
  have r2 := heap_alloc_new (w.alloc (.cells #[.slice A n c] 27)) (.cells #[.slice none 0 0] 47)
  have r3 := heap_alloc_new ((w.alloc (.cells #[.slice A n c] 27)).alloc (.cells #[.slice none 0 0] 47)) (.cells #[.int .i64 0] 3)
  rw [z1] at r2
  rw [z2] at r3
  have c2 : Below (w.heap.size + 1) (w.alloc (.cells #[.slice A n c] 27)) (((w.alloc (.cells #[.slice A n c] 27)).alloc (.cells #[.slice none 0 0] 47)).alloc (.cells #[.int .i64 0] 3)) := ((Below.refl _ _).alloc (by simp) _).alloc (by simp) _
  have c3 : Below (w.heap.size + 1 + 1) ((w.alloc (.cells #[.slice A n c] 27)).alloc (.cells #[.slice none 0 0] 47)) (((w.alloc (.cells #[.slice A n c] 27)).alloc (.cells #[.slice none 0 0] 47)).alloc (.cells #[.int .i64 0] 3)) := (Below.refl _ _).alloc (by simp) _
  refine ⟨⟨(c2.block _ (by omega)).trans r1, r3, (c3.block _ (by omega)).trans r2, hB.below b3, fun h0 b hb => ?_, Rw.nil _ _ _, Nat.le_refl _, by omega, by omega⟩, b3⟩
  obtain ⟨b', o', e, hlt, _⟩ := hB.at_ h0
  rw [e] at hb
  injection hb with hb
  subst hb
  exact hlt

/-- what Scan gives: rows of the call's own -/
def ScanPostn (l : List UInt8) (w : World) (e : Ending) (w' : World) : Prop :=
  ∃ v, e = .returned (.tuple #[v, .int .i64 ((scan l).2.1 : Int), .int .i64 (scan l).2.2]) ∧ Rw w.heap.size (fun k => k < w.heap.size) w' v (scan l).1 ∧ Below w.heap.size w w'

set_option maxHeartbeats 4000000 in
set_option maxRecDepth 100000 in
theorem entryScann (A : Option Addr) (n c : Nat) (l : List UInt8) (w : World) (hB : Bs w A n c l) (hN : n ≤ 1099511627000) :
    Calls Try.prog 30 #[.slice A n c] w (ScanPostn l w) := by
  have hmf : ∀ (fn : Fn) (first cap : Array Value) (w : World), (Instr.makeFunc fn first cap).run Try.prog w = .ok (.func fn first cap) w := fun _ _ _ _ => rfl
  have hlen := Lib.hid hB.len
  have HB := Lib.hid hB
  clear hB
  go_enter Try.func30, Try.ntmps30
  go_wp2_with (fail)
  have HNEW := Lib.hid (ScanStn.new A n c l w HB.out)
  generalize (((w.alloc (.cells #[.slice A n c] 27)).alloc (.cells #[.slice none 0 0] 47)).alloc (.cells #[.int .i64 0] 3)) = W0 at *
  go_loopw [8] (fun _ wr => ∃ (p : Nat) (acc : List (List UInt8)) (v : Value), ScanStn w.heap.size w.heap.size (w.heap.size + 1 + 1) (w.heap.size + 1) A n c l p acc v wr ∧ ScanAt l p acc ∧ Below w.heap.size w wr) (fun _ wr => n - placeOfn (w.heap.size + 1 + 1) wr)
  case atStart => exact ⟨0, [], .slice none 0 0, HNEW.out.1, ScanAt.start l, HNEW.out.2⟩
  case round =>
    clear HNEW
    obtain ⟨wo, rfl⟩ : ∃ wo : World, wo = wr := ⟨_, rfl⟩
    obtain ⟨p, acc, v, hs, ha, hb⟩ := hrel
    have HS := Lib.hid hs
    have HA := Lib.hid ha
    have HBB := Lib.hid hb
    obtain ⟨cb, cp, cl, hpl⟩ := hs.cells
    have HPL := Lib.hid hpl
    have hpn : p ≤ n := by have := ha.1; have := hlen.out; omega
    clear hs ha hb hpl
    by_cases hlt : p < n
    · have e1 : (p : Int) < (n : Int) := by omega
      have HLT := Lib.hid hlt
      clear hlt
      go_wp2_with (fail)
      refine (scanNextn w.heap.size w.heap.size (w.heap.size + 1 + 1) (w.heap.size + 1) n c p A l acc v wo HS.out HLT.out HA.out.2.1 hN).mono ?_
      rintro e w1 ⟨rfl, hb1, hz1, h0, h1⟩
      have HB1 : Hid (Below w.heap.size w w1) := Lib.hid (HBB.out.trans hb1)
      have H0 := Lib.hid h0
      have H1 := Lib.hid h1
      clear hb1 hz1 h0 h1
      by_cases he : getErr (l.drop p) = 0
      · obtain ⟨v1, hs1⟩ := H0.out he
        have HS1 := Lib.hid hs1
        have HA1 := Lib.hid (HA.out.more he)
        have HGL := Lib.hid (getErr_len he)
        have HPL1 := Lib.hid hs1.cells.2.2.2
        clear hs1 H0 H1
        rw [he]
        go_wp2_with (fail)
        refine ⟨⟨_, _, v1, HS1.out, HA1.out, HB1.out⟩, ?_⟩
        rw [HPL1.out, HPL.out]
        have := HGL.out.1
        have := HLT.out
        omega
      · have hs1 := H1.out he
        have hst := HA.out.stop (by rw [hlen.out]; exact HLT.out) he
        have hne : (getErr (l.drop p) != 0) = true := by rw [bne_iff_ne]; exact he
        obtain ⟨cb1, cp1, cl1, _⟩ := hs1.cells
        have HST := Lib.hid hst
        have hrd := hs1.rw
        obtain ⟨Av, cv, hv⟩ := hrd.form
        subst hv
        have HRD := Lib.hid hrd
        clear hst hs1 H0 H1 he hrd
        generalize getErr (l.drop p) = er at *
        go_wp2_with (fail)
        go_quiet (fail)
        go_wp2_with (fail)
        go_ret3
        refine ⟨.slice Av acc.length cv, ?_, ?_, drawN_below HB1.out _⟩
        · rw [HST.out]; rfl
        · rw [HST.out]; exact (HRD.out.ch (T' := fun k => k < w.heap.size) (Ch.of_below (S := fun _ => False) (drawN_below (Below.refl _ _) _)) (fun _ _ h => h.elim) (fun _ _ h => .inr (.inr (.inr h))))
    · obtain rfl : p = n := by omega
      have hst := HA.out.all hlen.out.symm
      have hrd := HS.out.rw
      obtain ⟨Av, cv, hv⟩ := hrd.form
      subst hv
      have HST := Lib.hid hst
      have HRD := Lib.hid hrd
      clear hst hrd hlt
      go_wp2_with (fail)
      go_quiet (fail)
      go_wp2_with (fail)
      go_ret3
      refine ⟨.slice Av acc.length cv, ?_, ?_, drawN_below HBB.out _⟩
      · rw [HST.out]; rfl
      · rw [HST.out]; exact (HRD.out.ch (T' := fun k => k < w.heap.size) (Ch.of_below (S := fun _ => False) (drawN_below (Below.refl _ _) _)) (fun _ _ h => h.elim) (fun _ _ h => .inr (.inr (.inr h))))
end Go.Proofs.Ythblbmbefhlbjaa
