/- SegmentMakes, walked. -/
import Derived.Test.YtmambhopdbomfaaSegMakesA
import Derived.Test.YtmambhopdbomfaaOpenA3
namespace Go.Proofs.Ytmambhopdbomfaa
open Go.RowKit

/-- three letters -/
def letterD (x : UInt8) : UInt8 := (65 + x.toNat % 26).toUInt8
def lettersD (d : Tri) : List UInt8 := [letterD d.a, letterD d.b, letterD d.c]
theorem letterD_nat (x : UInt8) : (letterD x).toNat = 65 + x.toNat % 26 := by
  unfold letterD
  have : x.toNat % 26 < 26 := Nat.mod_lt _ (by omega)
  simp
  omega
theorem letterD_bar (x : UInt8) : letterD x ≠ 124 := fun e => by
  have h := letterD_nat x
  rw [e] at h
  have : x.toNat % 26 < 26 := Nat.mod_lt _ (by omega)
  have h2 : (124 : UInt8).toNat = 124 := rfl
  omega
theorem lettersD_bar (d : Tri) : (124 : UInt8) ∉ lettersD d := by
  unfold lettersD
  simp only [List.mem_cons, List.not_mem_nil, or_false, not_or]
  exact ⟨fun e => letterD_bar _ e.symm, fun e => letterD_bar _ e.symm, fun e => letterD_bar _ e.symm⟩
def triAt (d : Tri) (k : Nat) : UInt8 := [d.a, d.b, d.c].getD k 0
/-- what a round of the law asks -/
structure Told (nm : ByteArray) (L : List (List UInt8)) : Prop where
  name : nameS (txt (makeD nm 124 L)) = nm
  fields : fieldsD (txt (makeD nm 124 L)) 124 = L
  small : nm.size = 3
  bulk : Lib.lens L + L.length ≤ 1008

/-- a name and a slice in a block of their own -/
def BoxP (nm : ByteArray) (v : Value) (p : Nat) (w : World) : Prop := w.heap[p]? = some (.cells #[.string nm, v] 47)
theorem BoxP.cells {nm : ByteArray} {v : Value} {p : Nat} {w : World} (h : BoxP nm v p w) : w.cell? ⟨p, 0, none⟩ = some (.string nm) ∧ w.cell? ⟨p, 1, none⟩ = some v :=
  ⟨cell_of_row w p 0 _ _ _ h, cell_of_row w p 1 _ _ _ h⟩
theorem BoxP.below {nm : ByteArray} {v : Value} {p : Nat} {w w' : World} (h : BoxP nm v p w) (hb : Below w.heap.size w w') : BoxP nm v p w' := (hb.block p (Array.getElem?_eq_some_iff.1 h).1).trans h

set_option maxHeartbeats 8000000 in
set_option maxRecDepth 100000 in
theorem segmentMakes_walk (d : Tri) (A : Option Addr) (n cp : Nat) (T : List (List UInt8)) (w : World) (hS : Ss w A n cp T) (ht : Lib.lens T + T.length ≤ 1048576) :
    Calls Try.prog 7 #[d.v, .slice A n cp] w (True_ w) := by
  have hmax := hS.nmax
  have HS := Lib.hid hS
  have HT := Lib.hid ht
  obtain ⟨N, hN⟩ : ∃ N, N = Lib.lens T + T.length := ⟨_, rfl⟩
  have HN := Lib.hid hN
  clear hS ht hN
  go_enter Try.func7, Try.ntmps7
  go_wp2_with (fail)
  have hbx := heap_alloc_new w (.cells #[.int .u8 (d.a.toNat : Int), .int .u8 (d.b.toNat : Int), .int .u8 (d.c.toNat : Int)] 46)
  have c0 := cell_of_row _ _ 0 _ _ _ hbx
  have c1 := cell_of_row _ _ 1 _ _ _ hbx
  have c2 := cell_of_row _ _ 2 _ _ _ hbx
  have HB0 : Hid (Below w.heap.size w (w.alloc (.cells #[.int .u8 (d.a.toNat : Int), .int .u8 (d.b.toNat : Int), .int .u8 (d.c.toNat : Int)] 46))) := Lib.hid ((Below.refl _ _).alloc (Nat.le_refl _) _)
  generalize w.alloc (.cells #[.int .u8 (d.a.toNat : Int), .int .u8 (d.b.toNat : Int), .int .u8 (d.c.toNat : Int)] 46) = w0 at *
  clear hbx
  refine (bytes08 A n cp T _ (HS.out.below HB0.out) HT.out N HN.out).mono ?_
  rintro e w2 ⟨rfl, rfl⟩
  by_cases hbig : 1000 < N
  · have d1 : decide ((1000 : Int) < (N : Int)) = true := by simp; omega
    clear hbig
    go_wp2_with (fail)
    refine (alive_ _).mono ?_
    rintro e w3 ⟨rfl, hb3⟩
    have HB3 : Hid (Below w.heap.size w w3) := Lib.hid (HB0.out.trans (hb3.mono HB0.out.size))
    clear hb3
    go_wp2_with (fail)
    go_ret
    exact ⟨rfl, HB3.out⟩
  have d1 : decide ((1000 : Int) < (N : Int)) = false := by simp; omega
  have HNT : Hid (N ≤ 1000) := Lib.hid (by omega)
  clear hbig
  go_wp2_with (fail)
  clear d1 c0 c1 c2
  go_loopw [5, 26, 7] (fun v i _ wr => ∃ k : Nat, k ≤ 3 ∧ i = .int .i64 k ∧ v = .string (txt ((lettersD d).take k)) ∧ Below w.heap.size w wr) (fun _ i _ _ => 3 - (intOf i).toNat)
  case atStart => exact ⟨0, by omega, rfl, rfl, HB0.out⟩
  case round =>
    obtain ⟨k, hk, rfl, rfl, hb⟩ := hrel
    have HB := Lib.hid hb
    clear hb HB0
    by_cases hlt : k < 3
    · have e1 : (k : Int) < 3 := by omega
      have hcv : ∀ x : UInt8, (convert 22 9 (.slice (some ⟨wr.heap.size, 0, none⟩) 1 1)).run Try.prog (wr.alloc (.cells #[u8 (letterD x)] 5)) = .ok (.string (txt [letterD x])) (wr.alloc (.cells #[u8 (letterD x)] 5)) := fun x =>
        (Bs.of_block (w := wr.alloc (.cells #[u8 (letterD x)] 5)) (g := wr.heap.size) (n := 1) (c := 1) (l := [letterD x]) (heap_alloc_new wr _) (by rfl) rfl (by decide) (by decide)).str (P := Try.prog) 22 5 9 Try.underlying22 Try.underlying5 Try.underlying9
      have HB2 : Hid (∀ x : UInt8, Below w.heap.size w (wr.alloc (.cells #[u8 (letterD x)] 5))) := Lib.hid (fun x => HB.out.alloc HB.out.size _)
      have ew : ∀ x : UInt8, IntKind.u8.wrap (65 + (x.toNat : Int) % 26) = ((letterD x).toNat : Int) := fun x => by
        rw [letterD_nat, IntKind.wrap_u8]
        omega
      match k, hlt with
      | 0, _ =>
        rw [show ((0 : Nat) : Int) = 0 from rfl]
        have i0 : ∀ W, (Instr.index 46 (.agg #[.int .u8 (d.a.toNat : Int), .int .u8 (d.b.toNat : Int), .int .u8 (d.c.toNat : Int)]) (.int .i64 0)).run Try.prog W = .ok (.int .u8 (d.a.toNat : Int)) W := fun _ => by kernel_rfl
        clear hlt hk
        go_wp2_with (fail)
        exact ⟨⟨1, by omega, by go_num, by rfl, (HB2.out d.a)⟩, by simp [intOf]⟩
      | 1, _ =>
        rw [show ((1 : Nat) : Int) = 1 from rfl]
        have i0 : ∀ W, (Instr.index 46 (.agg #[.int .u8 (d.a.toNat : Int), .int .u8 (d.b.toNat : Int), .int .u8 (d.c.toNat : Int)]) (.int .i64 1)).run Try.prog W = .ok (.int .u8 (d.b.toNat : Int)) W := fun _ => by kernel_rfl
        clear hlt hk
        go_wp2_with (fail)
        exact ⟨⟨2, by omega, by go_num, by rfl, (HB2.out d.b)⟩, by simp [intOf]⟩
      | 2, _ =>
        rw [show ((2 : Nat) : Int) = 2 from rfl]
        have i0 : ∀ W, (Instr.index 46 (.agg #[.int .u8 (d.a.toNat : Int), .int .u8 (d.b.toNat : Int), .int .u8 (d.c.toNat : Int)]) (.int .i64 2)).run Try.prog W = .ok (.int .u8 (d.c.toNat : Int)) W := fun _ => by kernel_rfl
        clear hlt hk
        go_wp2_with (fail)
        exact ⟨⟨3, by omega, by go_num, by rfl, (HB2.out d.c)⟩, by simp [intOf]⟩
    · obtain rfl : k = 3 := by omega
      clear hlt hk
      rw [show (lettersD d).take 3 = lettersD d from rfl]
      have HL3 : Hid ((txt (lettersD d)).size = 3) := Lib.hid rfl
      have HLB : Hid ((124 : UInt8) ∉ (txt (lettersD d)).data.toList) := Lib.hid (lettersD_bar d)
      generalize txt (lettersD d) = nm0 at *
      have HO0 : Hid (OwnS wr w.heap.size (.slice none 0 0) []) := Lib.hid (OwnS.nil _ _)
      have HB00 : Hid (Below w.heap.size w wr) := HB
      go_wp2_with (fail)
      go_loopw [8, 39, 10, 11, 12, 45] (fun v i _ _ _ _ wr => ∃ k : Nat, k ≤ n ∧ i = .int .i64 k ∧ OwnS wr w.heap.size v (cleanOf 124 (T.take k)) ∧ Below w.heap.size w wr) (fun _ i _ _ _ _ _ => n - (intOf i).toNat)
      case atStart => exact ⟨0, Nat.zero_le _, rfl, HO0.out, HB00.out⟩
      case round =>
        clear HO0 HB00 HB
        obtain ⟨wo, rfl⟩ : ∃ wo : World, wo = wr := ⟨_, rfl⟩
        obtain ⟨k, hk, rfl, ho, hb⟩ := hrel
        have HO := Lib.hid ho
        have HB := Lib.hid hb
        clear ho hb
        have HTL := Lib.hid HS.out.len
        by_cases hlt : k < n
        · obtain ⟨b, o, rfl, _, hc⟩ := (HS.out.below HB.out).read hlt
          have hl := lens_getD T k (by have := HTL.out; omega)
          have hb2 := Lib.lens_take_le T (k + 1)
          have hTb := HT.out
          have e1 : (k : Int) < (n : Int) := by omega
          have HCN := Lib.hid (cleanOf_no 124 T k (by have := HTL.out; omega))
          have HCY := Lib.hid (cleanOf_yes 124 T k (by have := HTL.out; omega))
          have HCL := Lib.hid (cleanOf_len 124 T k)
          obtain ⟨y, hy⟩ : ∃ y : ByteArray, y = txt (T.getD k []) := ⟨_, rfl⟩
          have hyl : y.data.toList = T.getD k [] := by rw [hy]
          have hysz : y.size = (T.getD k []).length := by rw [hy]; rfl
          rw [show str (T.getD k []) = .string y from congrArg Value.string hy.symm] at hc
          rw [← hysz] at hl
          rw [← hyl] at HCN HCY
          have hy2 : (y.size : Int) ≤ 1048576 := by omega
          have HLT := Lib.hid hlt
          clear hl hb2 hlt hTb hy hyl hysz
          go_wp2_with (fail)
          go_loop [11, 45, 12] (fun v i _ => ∃ j : Nat, j ≤ y.size ∧ i = .int .i64 j ∧ v = .bool ((y.data.toList.take j).contains 124)) (fun _ i _ => y.size - (intOf i).toNat)
          case atStart => exact ⟨0, Nat.zero_le _, rfl, rfl⟩
          case round =>
            obtain ⟨j, hj, rfl, rfl⟩ := hrel
            by_cases hjy : j < y.size
            · have HCT := Lib.hid (contains_take 124 y j hjy)
              have e2 : (j : Int) < (y.size : Int) := by omega
              cases hq2 : (y.data.toList.take j).contains 124
              · by_cases hx : y[j] = 124
                · have d : (((y[j].toNat : Nat) : Int) == 124) = true := by rw [hx]; rfl
                  have HX : Hid ((y.data.toList.take (j + 1)).contains 124 = true) := Lib.hid (by rw [HCT.out, hq2]; simp [hx])
                  clear hx hq2
                  go_wp2_with (fail)
                  exact ⟨⟨j + 1, by omega, by go_num, by rw [HX.out]⟩, by simp [intOf]; omega⟩
                · have d : (((y[j].toNat : Nat) : Int) == 124) = false := by
                    rw [beq_eq_false_iff_ne]; intro e; exact hx (UInt8.toNat_inj.1 (by have : (124 : UInt8).toNat = 124 := rfl; omega))
                  have HX : Hid ((y.data.toList.take (j + 1)).contains 124 = false) := Lib.hid (by rw [HCT.out, hq2]; simp [hx])
                  clear hx hq2
                  go_wp2_with (fail)
                  exact ⟨⟨j + 1, by omega, by go_num, by rw [HX.out]⟩, by simp [intOf]; omega⟩
              · have HX : Hid ((y.data.toList.take (j + 1)).contains 124 = true) := Lib.hid (by rw [HCT.out, hq2]; rfl)
                clear hq2
                go_wp2_with (fail)
                exact ⟨⟨j + 1, by omega, by go_num, by rw [HX.out]⟩, by simp [intOf]; omega⟩
            · obtain rfl : j = y.size := by omega
              rw [List.take_of_length_le (by simp)]
              clear hjy hj
              cases hq2 : y.data.toList.contains 124
              · have HCN2 := Lib.hid (HCN.out hq2)
                clear hq2 HCN HCY
                have tok1 : Hid True := Lib.hid trivial
                go_wp2_with (at_builtin; have _t := tok1; go_loud ((refine wpList_str rfl (.tmp 58) (.tmp 60) rfl w.heap.size _ (cleanOf 124 (T.take k)) rfl (HO.out.below ((Below.refl _ wo).alloc (Nat.le_refl _) _)) wo.heap.size y.data.toList rfl (heap_alloc_new wo _) (by have := HCL.out; have := HLT.out; have := HT.out; have := HS.out.len; omega) (by have := HB.out.size; simp; omega) ?_; intro v' w' hown hbel hgr; have HOWN := Lib.hid hown; have HBEL := Lib.hid hbel; clear tok1 hown hbel hgr _t)))
                have hw2 : Below w.heap.size w w' := (HB.out.alloc HB.out.size _).trans HBEL.out
                refine ⟨⟨_, _, _, _, _, ⟨k + 1, HLT.out, rfl, by rw [HCN2.out]; exact HOWN.out, hw2⟩, rfl, rfl, rfl, rfl, by go_num⟩, by have := HLT.out; simp [intOf]; omega⟩
              · have HCY2 := Lib.hid (HCY.out hq2)
                clear hq2 HCN HCY
                go_wp2_with (fail)
                exact ⟨⟨k + 1, HLT.out, by go_num, by rw [HCY2.out]; exact HO.out, HB.out⟩, by have := HLT.out; simp [intOf]; omega⟩
        · obtain rfl : k = n := by omega
          rw [List.take_of_length_le (by have := HTL.out; omega)] at HO
          have HCB : Hid (Lib.lens (cleanOf 124 T) + (cleanOf 124 T).length ≤ 1000) := Lib.hid (by have h1 := cleanOf_bulk 124 T; have h2 := HN.out; have h3 := HNT.out; omega)
          have HCC := Lib.hid (cleanOf_mem 124 T)
          generalize cleanOf 124 T = U at *
          obtain ⟨A3, c3, rfl, hU, _⟩ := HO.out.ss
          have HU := Lib.hid hU
          clear hlt hk hU
          have HEAD : Hid (Told mshB ([124] :: [94, 126, 92, 38] :: U)) := Lib.hid ⟨by rw [makeD_head, List.append_assoc, List.append_assoc]; exact nameS_of mshB _ rfl, fields_head 124 _ U (by decide) HCC.out, rfl, by have := HCB.out; simp [Lib.lens] at this ⊢; omega⟩
          have HTA : Hid (∀ nm : ByteArray, nm ≠ mshB → nm.size = 3 → (124 : UInt8) ∉ nm.data.toList → Told nm U) := Lib.hid fun nm h1 h2 h3 => ⟨by rw [makeD_plain nm 124 U h1]; exact nameS_of nm _ h2, fields_plain nm 124 U h1 h2 h3 HCC.out, h2, by have := HCB.out; omega⟩
          by_cases hm : nm0 = mshB
          · have d1 : (nm0.toList == [77, 83, 72]) = true := by rw [hm, Go.ByteArray.toList_eq]; rfl
            have HT0 : Hid (Told ⟨#[77, 83, 65]⟩ U) := Lib.hid (HTA.out _ (by decide) rfl (by decide))
            clear hm
            go_wp2_with (at_builtin; go_loud ((refine wpList_strs rfl (.tmp 65) (.tmp 66) rfl wo.heap.size _ [[124], [94, 126, 92, 38]] rfl (OwnS.two wo [124] [94, 126, 92, 38] wo.heap.size (Nat.le_refl _)) w.heap.size _ U rfl (HO.out.below ((Below.refl _ wo).alloc (Nat.le_refl _) _)) (by have := HCB.out; simp; omega) (by simp) ?_; intro v' w' hown hbel; obtain ⟨A4, c4, rfl, hS4, _⟩ := hown.ss; have HS4 := Lib.hid hS4; have HBEL := Lib.hid hbel; clear hown hbel hS4)))
            have HBQ : Hid (Below wo.heap.size wo w') := Lib.hid (((Below.refl _ _).alloc (Nat.le_refl _) _).trans HBEL.out)
            have hrow := heap_alloc_new w' (.cells #[.string ⟨#[77, 83, 65]⟩, .slice A3 U.length c3, .string ⟨#[77, 83, 72]⟩, .slice A4 (U.length + 1 + 1) c4] 47)
            have HSU : Hid (Ss (w'.alloc (.cells #[.string ⟨#[77, 83, 65]⟩, .slice A3 U.length c3, .string ⟨#[77, 83, 72]⟩, .slice A4 (U.length + 1 + 1) c4] 47)) A3 U.length c3 U) := Lib.hid (HU.out.below (HBQ.out.alloc HBQ.out.size _))
            have HSH : Hid (Ss (w'.alloc (.cells #[.string ⟨#[77, 83, 65]⟩, .slice A3 U.length c3, .string ⟨#[77, 83, 72]⟩, .slice A4 (U.length + 1 + 1) c4] 47)) A4 (U.length + 1 + 1) c4 ([124] :: [94, 126, 92, 38] :: U)) := Lib.hid (HS4.out.below ((Below.refl _ _).alloc (Nat.le_refl _) _))
            have HBW : Hid (Below w.heap.size w (w'.alloc (.cells #[.string ⟨#[77, 83, 65]⟩, .slice A3 U.length c3, .string ⟨#[77, 83, 72]⟩, .slice A4 (U.length + 1 + 1) c4] 47))) := Lib.hid (HB.out.trans ((HBQ.out.alloc HBQ.out.size _).mono HB.out.size))
            have HGQ : Hid (w'.heap.size < (w'.alloc (.cells #[.string ⟨#[77, 83, 65]⟩, .slice A3 U.length c3, .string ⟨#[77, 83, 72]⟩, .slice A4 (U.length + 1 + 1) c4] 47)).heap.size) := Lib.hid (by simp)
            generalize w'.alloc (.cells #[.string ⟨#[77, 83, 65]⟩, .slice A3 U.length c3, .string ⟨#[77, 83, 72]⟩, .slice A4 (U.length + 1 + 1) c4] 47) = wq at *
            have HROW := Lib.hid hrow
            generalize w'.heap.size = g at *
            clear hrow HBQ HBEL HB HO HU HS4 d1
            go_loopw [75, 15, 16, 17, 18, 19, 20, 102] (fun i _ _ _ _ _ _ _ wr => ∃ k : Nat, k ≤ 2 ∧ i = .int .i64 k ∧ Below wq.heap.size wq wr) (fun i _ _ _ _ _ _ _ _ => 2 - (intOf i).toNat)
            case atStart => exact ⟨0, by omega, rfl, Below.refl _ _⟩
            case round =>
              obtain ⟨wo, rfl⟩ : ∃ wo : World, wo = wr := ⟨_, rfl⟩
              obtain ⟨k, hk, rfl, hb⟩ := hrel
              have HB := Lib.hid hb
              have hrow := (hb.block g HGQ.out).trans HROW.out
              have q0 := cell_of_row _ _ 0 _ _ _ hrow
              have q1 := cell_of_row _ _ 1 _ _ _ hrow
              have q2 := cell_of_row _ _ 2 _ _ _ hrow
              have q3 := cell_of_row _ _ 3 _ _ _ hrow
              clear hb hrow
              by_cases hlt : k < 2
              · match k, hlt with
                | 0, _ =>
                  rw [show ((0 : Nat) : Int) = 0 from rfl]
                  clear hlt hk
                  go_wp2_with (fail)
                  obtain ⟨nm, hnm⟩ : ∃ nm : ByteArray, nm = ⟨#[77, 83, 65]⟩ := ⟨_, rfl⟩
                  obtain ⟨m, hm⟩ : ∃ m : Nat, m = U.length := ⟨_, rfl⟩
                  obtain ⟨L, hL⟩ : ∃ L : List (List UInt8), L = U := ⟨_, rfl⟩
                  have HTO : Hid (Told nm L) := Lib.hid (by rw [hnm, hL]; exact HT0.out)
                  have HSX : Hid (Ss wq A3 m c3 L) := Lib.hid (by rw [hm, hL]; exact HSU.out)
                  have HLM : Hid (L.length = m) := Lib.hid HSX.out.len
                  have hbx : BoxP nm (.slice A3 m c3) wo.heap.size (wo.alloc (.cells #[.string ⟨#[77, 83, 65]⟩, .slice A3 (U.length) c3] 47)) := by rw [hnm, hm]; exact heap_alloc_new wo _
                  have HB1 : Hid (Below wq.heap.size wq (wo.alloc (.cells #[.string ⟨#[77, 83, 65]⟩, .slice A3 (U.length) c3] 47))) := Lib.hid (HB.out.alloc HB.out.size _)
                  generalize wo.alloc (.cells #[.string ⟨#[77, 83, 65]⟩, .slice A3 (U.length) c3] 47) = w1 at *
                  generalize wo.heap.size = p at *
                  have HX1 := Lib.hid hbx
                  clear hbx hnm hm hL q0 q1 q2 q3 HB
                  obtain ⟨c0, c1⟩ := HX1.out.cells
                  have d0 : w1.drew.cell? ⟨p, 0, none⟩ = some (.string nm) := c0
                  have d1 : w1.drew.cell? ⟨p, 1, none⟩ = some (.slice A3 m c3) := c1
                  go_region_held3 (fun w' => w'.cell? ⟨p, 0, none⟩ = some (.string nm) ∧ w'.cell? ⟨p, 1, none⟩ = some (.slice A3 m c3)) (first | exact ⟨e0, e1⟩ | go_keep)
                    (first
                    | (go_at_call 30; refine (plain_ _).mono ?_; rintro e wP ⟨rfl, hbP⟩; have HXP : Hid (BoxP nm (.slice A3 m c3) p wP) := Lib.hid (HX1.out.below ((Below.refl _ _).drew.trans hbP)); have HBP : Hid (Below wq.heap.size wq wP) := Lib.hid (HB1.out.drew.trans (hbP.mono HB1.out.drew.size)); obtain ⟨e0, e1⟩ := HXP.out.cells; clear hbP)
                    | (go_at_call 23; refine (segMake plainS nm A3 m c3 L _ (HSX.out.below HBP.out) (by have := HTO.out.small; omega) (by have := HTO.out.bulk; omega)).mono ?_; rintro e wM ⟨rfl, hbM⟩; have HXM : Hid (BoxP nm (.slice A3 m c3) p wM) := Lib.hid (HXP.out.below hbM); have HBM : Hid (Below wq.heap.size wq wM) := Lib.hid (HBP.out.trans (hbM.mono HBP.out.size)); obtain ⟨f0, f1⟩ := HXM.out.cells; clear hbM))
                  rw [show plainS.a = 124 from rfl]
                  obtain ⟨s, hs⟩ : ∃ s : ByteArray, s = txt (makeD nm 124 L) := ⟨_, rfl⟩
                  rw [show str (makeD nm 124 L) = .string s from congrArg Value.string hs.symm]
                  have HNS : Hid (nameS s = nm) := Lib.hid (by rw [hs]; exact HTO.out.name)
                  have HFS : Hid (fieldsD s 124 = L) := Lib.hid (by rw [hs]; exact HTO.out.fields)
                  have HSZ : Hid (s.size ≤ 1000000) := Lib.hid (by
                    rw [hs, txt_size']
                    have h1 := mkTo_len nm 124 L L.length (Nat.le_refl _)
                    rw [List.take_length] at h1
                    have h2 := HTO.out.bulk
                    have h3 := HTO.out.small
                    unfold makeD
                    omega)
                  have HML : Hid (m ≤ 1008) := Lib.hid (by have := HTO.out.bulk; have := HLM.out; omega)
                  have hst : (nm.toList == nm.toList) = true := by simp
                  clear hs c0 c1 d0 d1
                  have d0 : wM.drew.cell? ⟨p, 0, none⟩ = some (.string nm) := f0
                  have d1 : wM.drew.cell? ⟨p, 1, none⟩ = some (.slice A3 m c3) := f1
                  go_wp2_with (fail)
                  go_region_held3 (fun w' => w'.cell? ⟨p, 0, none⟩ = some (.string nm) ∧ w'.cell? ⟨p, 1, none⟩ = some (.slice A3 m c3)) (first | exact ⟨g0, g1⟩ | exact ⟨h0, h1⟩ | go_keep)
                    (first
                    | (go_at_call 12; refine (nameS_ s _).mono ?_; rintro e wN ⟨rfl, rfl⟩; rw [HNS.out])
                    | (go_at_call 30; refine (plain_ _).mono ?_; rintro e wP2 ⟨rfl, hbP⟩; have HXP2 : Hid (BoxP nm (.slice A3 m c3) p wP2) := Lib.hid (HXM.out.below ((Below.refl _ _).drew.trans hbP)); have HBP2 : Hid (Below wq.heap.size wq wP2) := Lib.hid (HBM.out.drew.trans (hbP.mono HBM.out.drew.size)); obtain ⟨g0, g1⟩ := HXP2.out.cells; clear hbP)
                    | (go_at_call 20; refine (count_ s plainS _ (by have := HSZ.out; omega)).mono ?_; rintro e wC ⟨rfl, hbC⟩; rw [show plainS.a = 124 from rfl, HFS.out, HLM.out]; have HXC : Hid (BoxP nm (.slice A3 m c3) p wC) := Lib.hid (HXP2.out.below hbC); have HBC : Hid (Below wq.heap.size wq wC) := Lib.hid (HBP2.out.trans (hbC.mono HBP2.out.size)); obtain ⟨h0, h1⟩ := HXC.out.cells; clear hbC))
                  clear f0 f1 g0 g1 d0 d1
                  go_wp2_with (fail)
                  go_loopw [102, 17, 18, 19, 20] (fun i _ _ _ _ wr => ∃ j : Nat, j ≤ m ∧ i = .int .i64 j ∧ Below wq.heap.size wq wr) (fun i _ _ _ _ _ => m - (intOf i).toNat)
                  case atStart => exact ⟨0, by omega, rfl, HBC.out⟩
                  case round =>
                    obtain ⟨wi, rfl⟩ : ∃ wi : World, wi = wr := ⟨_, rfl⟩
                    obtain ⟨j, hj, rfl, hb⟩ := hrel
                    have HBI := Lib.hid hb
                    clear hb hst
                    by_cases hlt : j < m
                    · obtain ⟨b, o, rfl, _, hc⟩ := (HSX.out.below HBI.out).read hlt
                      have e1 : (j : Int) < (m : Int) := by omega
                      obtain ⟨x, hx⟩ : ∃ x, x = L.getD j [] := ⟨_, rfl⟩
                      rw [← hx] at hc
                      have HLT := Lib.hid hlt
                      have ew : IntKind.i64.wrap ((j : Int) + 1) = (j : Int) + 1 := by rw [IntKind.wrap_i64]; have := HML.out; omega
                      have HNX : Hid (nthD (fieldsD s plainS.a) ((j : Int) + 1) = some x) := Lib.hid (by
                        rw [show plainS.a = 124 from rfl, HFS.out]
                        unfold nthD
                        rw [if_pos (by omega), show ((j : Int) + 1 - 1).toNat = j by omega, hx, List.getD_eq_getElem?_getD, List.getElem?_eq_getElem (by rw [HLM.out]; exact hlt)]
                        rfl)
                      have hst : ((txt x).toList == (txt x).toList) = true := by simp
                      clear hx hlt
                      go_wp2_with (fail)
                      refine (plain_ _).mono ?_
                      rintro e w5 ⟨rfl, hb5⟩
                      have HB5 : Hid (Below wq.heap.size wq w5) := Lib.hid (HBI.out.trans (hb5.mono HBI.out.size))
                      clear hb5
                      go_wp2_with (fail)
                      refine (field_ s ((j : Int) + 1) plainS _ (by have := HSZ.out; omega) (by have := HML.out; have := HLT.out; omega) (by omega)).mono ?_
                      rintro e w6 ⟨rfl, hb6⟩
                      rw [HNX.out]
                      have HB6 : Hid (Below wq.heap.size wq w6) := Lib.hid (HB5.out.trans (hb6.mono HB5.out.size))
                      clear hb6
                      go_wp2_with (fail)
                      exact ⟨⟨j + 1, HLT.out, by go_num, HB6.out⟩, by have := HLT.out; simp [intOf]; omega⟩
                    · obtain rfl : j = m := by omega
                      clear hlt hj
                      go_wp2_with (fail)
                      exact ⟨⟨1, by omega, rfl, HBI.out⟩, by simp [intOf]⟩
                | 1, _ =>
                  rw [show ((1 : Nat) : Int) = 1 from rfl]
                  clear hlt hk
                  go_wp2_with (fail)
                  obtain ⟨nm, hnm⟩ : ∃ nm : ByteArray, nm = ⟨#[77, 83, 72]⟩ := ⟨_, rfl⟩
                  obtain ⟨m, hm⟩ : ∃ m : Nat, m = U.length + 1 + 1 := ⟨_, rfl⟩
                  obtain ⟨L, hL⟩ : ∃ L : List (List UInt8), L = [124] :: [94, 126, 92, 38] :: U := ⟨_, rfl⟩
                  have HTO : Hid (Told nm L) := Lib.hid (by rw [hnm, hL]; exact HEAD.out)
                  have HSX : Hid (Ss wq A4 m c4 L) := Lib.hid (by rw [hm, hL]; exact HSH.out)
                  have HLM : Hid (L.length = m) := Lib.hid HSX.out.len
                  have hbx : BoxP nm (.slice A4 m c4) wo.heap.size (wo.alloc (.cells #[.string ⟨#[77, 83, 72]⟩, .slice A4 (U.length + 1 + 1) c4] 47)) := by rw [hnm, hm]; exact heap_alloc_new wo _
                  have HB1 : Hid (Below wq.heap.size wq (wo.alloc (.cells #[.string ⟨#[77, 83, 72]⟩, .slice A4 (U.length + 1 + 1) c4] 47))) := Lib.hid (HB.out.alloc HB.out.size _)
                  generalize wo.alloc (.cells #[.string ⟨#[77, 83, 72]⟩, .slice A4 (U.length + 1 + 1) c4] 47) = w1 at *
                  generalize wo.heap.size = p at *
                  have HX1 := Lib.hid hbx
                  clear hbx hnm hm hL q0 q1 q2 q3 HB
                  obtain ⟨c0, c1⟩ := HX1.out.cells
                  have d0 : w1.drew.cell? ⟨p, 0, none⟩ = some (.string nm) := c0
                  have d1 : w1.drew.cell? ⟨p, 1, none⟩ = some (.slice A4 m c4) := c1
                  go_region_held3 (fun w' => w'.cell? ⟨p, 0, none⟩ = some (.string nm) ∧ w'.cell? ⟨p, 1, none⟩ = some (.slice A4 m c4)) (first | exact ⟨e0, e1⟩ | go_keep)
                    (first
                    | (go_at_call 30; refine (plain_ _).mono ?_; rintro e wP ⟨rfl, hbP⟩; have HXP : Hid (BoxP nm (.slice A4 m c4) p wP) := Lib.hid (HX1.out.below ((Below.refl _ _).drew.trans hbP)); have HBP : Hid (Below wq.heap.size wq wP) := Lib.hid (HB1.out.drew.trans (hbP.mono HB1.out.drew.size)); obtain ⟨e0, e1⟩ := HXP.out.cells; clear hbP)
                    | (go_at_call 23; refine (segMake plainS nm A4 m c4 L _ (HSX.out.below HBP.out) (by have := HTO.out.small; omega) (by have := HTO.out.bulk; omega)).mono ?_; rintro e wM ⟨rfl, hbM⟩; have HXM : Hid (BoxP nm (.slice A4 m c4) p wM) := Lib.hid (HXP.out.below hbM); have HBM : Hid (Below wq.heap.size wq wM) := Lib.hid (HBP.out.trans (hbM.mono HBP.out.size)); obtain ⟨f0, f1⟩ := HXM.out.cells; clear hbM))
                  rw [show plainS.a = 124 from rfl]
                  obtain ⟨s, hs⟩ : ∃ s : ByteArray, s = txt (makeD nm 124 L) := ⟨_, rfl⟩
                  rw [show str (makeD nm 124 L) = .string s from congrArg Value.string hs.symm]
                  have HNS : Hid (nameS s = nm) := Lib.hid (by rw [hs]; exact HTO.out.name)
                  have HFS : Hid (fieldsD s 124 = L) := Lib.hid (by rw [hs]; exact HTO.out.fields)
                  have HSZ : Hid (s.size ≤ 1000000) := Lib.hid (by
                    rw [hs, txt_size']
                    have h1 := mkTo_len nm 124 L L.length (Nat.le_refl _)
                    rw [List.take_length] at h1
                    have h2 := HTO.out.bulk
                    have h3 := HTO.out.small
                    unfold makeD
                    omega)
                  have HML : Hid (m ≤ 1008) := Lib.hid (by have := HTO.out.bulk; have := HLM.out; omega)
                  have hst : (nm.toList == nm.toList) = true := by simp
                  clear hs c0 c1 d0 d1
                  have d0 : wM.drew.cell? ⟨p, 0, none⟩ = some (.string nm) := f0
                  have d1 : wM.drew.cell? ⟨p, 1, none⟩ = some (.slice A4 m c4) := f1
                  go_wp2_with (fail)
                  go_region_held3 (fun w' => w'.cell? ⟨p, 0, none⟩ = some (.string nm) ∧ w'.cell? ⟨p, 1, none⟩ = some (.slice A4 m c4)) (first | exact ⟨g0, g1⟩ | exact ⟨h0, h1⟩ | go_keep)
                    (first
                    | (go_at_call 12; refine (nameS_ s _).mono ?_; rintro e wN ⟨rfl, rfl⟩; rw [HNS.out])
                    | (go_at_call 30; refine (plain_ _).mono ?_; rintro e wP2 ⟨rfl, hbP⟩; have HXP2 : Hid (BoxP nm (.slice A4 m c4) p wP2) := Lib.hid (HXM.out.below ((Below.refl _ _).drew.trans hbP)); have HBP2 : Hid (Below wq.heap.size wq wP2) := Lib.hid (HBM.out.drew.trans (hbP.mono HBM.out.drew.size)); obtain ⟨g0, g1⟩ := HXP2.out.cells; clear hbP)
                    | (go_at_call 20; refine (count_ s plainS _ (by have := HSZ.out; omega)).mono ?_; rintro e wC ⟨rfl, hbC⟩; rw [show plainS.a = 124 from rfl, HFS.out, HLM.out]; have HXC : Hid (BoxP nm (.slice A4 m c4) p wC) := Lib.hid (HXP2.out.below hbC); have HBC : Hid (Below wq.heap.size wq wC) := Lib.hid (HBP2.out.trans (hbC.mono HBP2.out.size)); obtain ⟨h0, h1⟩ := HXC.out.cells; clear hbC))
                  clear f0 f1 g0 g1 d0 d1
                  go_wp2_with (fail)
                  go_loopw [102, 17, 18, 19, 20] (fun i _ _ _ _ wr => ∃ j : Nat, j ≤ m ∧ i = .int .i64 j ∧ Below wq.heap.size wq wr) (fun i _ _ _ _ _ => m - (intOf i).toNat)
                  case atStart => exact ⟨0, by omega, rfl, HBC.out⟩
                  case round =>
                    obtain ⟨wi, rfl⟩ : ∃ wi : World, wi = wr := ⟨_, rfl⟩
                    obtain ⟨j, hj, rfl, hb⟩ := hrel
                    have HBI := Lib.hid hb
                    clear hb hst
                    by_cases hlt : j < m
                    · obtain ⟨b, o, rfl, _, hc⟩ := (HSX.out.below HBI.out).read hlt
                      have e1 : (j : Int) < (m : Int) := by omega
                      obtain ⟨x, hx⟩ : ∃ x, x = L.getD j [] := ⟨_, rfl⟩
                      rw [← hx] at hc
                      have HLT := Lib.hid hlt
                      have ew : IntKind.i64.wrap ((j : Int) + 1) = (j : Int) + 1 := by rw [IntKind.wrap_i64]; have := HML.out; omega
                      have HNX : Hid (nthD (fieldsD s plainS.a) ((j : Int) + 1) = some x) := Lib.hid (by
                        rw [show plainS.a = 124 from rfl, HFS.out]
                        unfold nthD
                        rw [if_pos (by omega), show ((j : Int) + 1 - 1).toNat = j by omega, hx, List.getD_eq_getElem?_getD, List.getElem?_eq_getElem (by rw [HLM.out]; exact hlt)]
                        rfl)
                      have hst : ((txt x).toList == (txt x).toList) = true := by simp
                      clear hx hlt
                      go_wp2_with (fail)
                      refine (plain_ _).mono ?_
                      rintro e w5 ⟨rfl, hb5⟩
                      have HB5 : Hid (Below wq.heap.size wq w5) := Lib.hid (HBI.out.trans (hb5.mono HBI.out.size))
                      clear hb5
                      go_wp2_with (fail)
                      refine (field_ s ((j : Int) + 1) plainS _ (by have := HSZ.out; omega) (by have := HML.out; have := HLT.out; omega) (by omega)).mono ?_
                      rintro e w6 ⟨rfl, hb6⟩
                      rw [HNX.out]
                      have HB6 : Hid (Below wq.heap.size wq w6) := Lib.hid (HB5.out.trans (hb6.mono HB5.out.size))
                      clear hb6
                      go_wp2_with (fail)
                      exact ⟨⟨j + 1, HLT.out, by go_num, HB6.out⟩, by have := HLT.out; simp [intOf]; omega⟩
                    · obtain rfl : j = m := by omega
                      clear hlt hj
                      go_wp2_with (fail)
                      exact ⟨⟨2, by omega, rfl, HBI.out⟩, by simp [intOf]⟩
              · obtain rfl : k = 2 := by omega
                clear hlt hk q0 q1 q2 q3
                go_wp2_with (fail)
                refine (alive_ _).mono ?_
                rintro e w3 ⟨rfl, hb3⟩
                have HB3 : Hid (Below w.heap.size w w3) := Lib.hid (HBW.out.trans ((HB.out.trans (hb3.mono HB.out.size)).mono HBW.out.size))
                clear hb3
                go_wp2_with (fail)
                go_ret
                exact ⟨rfl, HB3.out⟩
          · have d1 : (nm0.toList == [77, 83, 72]) = false := by
              rw [Go.ByteArray.toList_eq, beq_eq_false_iff_ne]
              exact fun e => hm (ByteArray.ext (Array.toList_inj.1 e))
            have HT0 : Hid (Told nm0 U) := Lib.hid (HTA.out _ hm HL3.out HLB.out)
            clear hm
            go_wp2_with (at_builtin; go_loud ((refine wpList_strs rfl (.tmp 65) (.tmp 66) rfl wo.heap.size _ [[124], [94, 126, 92, 38]] rfl (OwnS.two wo [124] [94, 126, 92, 38] wo.heap.size (Nat.le_refl _)) w.heap.size _ U rfl (HO.out.below ((Below.refl _ wo).alloc (Nat.le_refl _) _)) (by have := HCB.out; simp; omega) (by simp) ?_; intro v' w' hown hbel; obtain ⟨A4, c4, rfl, hS4, _⟩ := hown.ss; have HS4 := Lib.hid hS4; have HBEL := Lib.hid hbel; clear hown hbel hS4)))
            have HBQ : Hid (Below wo.heap.size wo w') := Lib.hid (((Below.refl _ _).alloc (Nat.le_refl _) _).trans HBEL.out)
            have hrow := heap_alloc_new w' (.cells #[.string nm0, .slice A3 U.length c3, .string ⟨#[77, 83, 72]⟩, .slice A4 (U.length + 1 + 1) c4] 47)
            have HSU : Hid (Ss (w'.alloc (.cells #[.string nm0, .slice A3 U.length c3, .string ⟨#[77, 83, 72]⟩, .slice A4 (U.length + 1 + 1) c4] 47)) A3 U.length c3 U) := Lib.hid (HU.out.below (HBQ.out.alloc HBQ.out.size _))
            have HSH : Hid (Ss (w'.alloc (.cells #[.string nm0, .slice A3 U.length c3, .string ⟨#[77, 83, 72]⟩, .slice A4 (U.length + 1 + 1) c4] 47)) A4 (U.length + 1 + 1) c4 ([124] :: [94, 126, 92, 38] :: U)) := Lib.hid (HS4.out.below ((Below.refl _ _).alloc (Nat.le_refl _) _))
            have HBW : Hid (Below w.heap.size w (w'.alloc (.cells #[.string nm0, .slice A3 U.length c3, .string ⟨#[77, 83, 72]⟩, .slice A4 (U.length + 1 + 1) c4] 47))) := Lib.hid (HB.out.trans ((HBQ.out.alloc HBQ.out.size _).mono HB.out.size))
            have HGQ : Hid (w'.heap.size < (w'.alloc (.cells #[.string nm0, .slice A3 U.length c3, .string ⟨#[77, 83, 72]⟩, .slice A4 (U.length + 1 + 1) c4] 47)).heap.size) := Lib.hid (by simp)
            generalize w'.alloc (.cells #[.string nm0, .slice A3 U.length c3, .string ⟨#[77, 83, 72]⟩, .slice A4 (U.length + 1 + 1) c4] 47) = wq at *
            have HROW := Lib.hid hrow
            generalize w'.heap.size = g at *
            clear hrow HBQ HBEL HB HO HU HS4 d1
            go_loopw [75, 15, 16, 17, 18, 19, 20, 102] (fun i _ _ _ _ _ _ _ wr => ∃ k : Nat, k ≤ 2 ∧ i = .int .i64 k ∧ Below wq.heap.size wq wr) (fun i _ _ _ _ _ _ _ _ => 2 - (intOf i).toNat)
            case atStart => exact ⟨0, by omega, rfl, Below.refl _ _⟩
            case round =>
              obtain ⟨wo, rfl⟩ : ∃ wo : World, wo = wr := ⟨_, rfl⟩
              obtain ⟨k, hk, rfl, hb⟩ := hrel
              have HB := Lib.hid hb
              have hrow := (hb.block g HGQ.out).trans HROW.out
              have q0 := cell_of_row _ _ 0 _ _ _ hrow
              have q1 := cell_of_row _ _ 1 _ _ _ hrow
              have q2 := cell_of_row _ _ 2 _ _ _ hrow
              have q3 := cell_of_row _ _ 3 _ _ _ hrow
              clear hb hrow
              by_cases hlt : k < 2
              · match k, hlt with
                | 0, _ =>
                  rw [show ((0 : Nat) : Int) = 0 from rfl]
                  clear hlt hk
                  go_wp2_with (fail)
                  obtain ⟨nm, hnm⟩ : ∃ nm : ByteArray, nm = nm0 := ⟨_, rfl⟩
                  obtain ⟨m, hm⟩ : ∃ m : Nat, m = U.length := ⟨_, rfl⟩
                  obtain ⟨L, hL⟩ : ∃ L : List (List UInt8), L = U := ⟨_, rfl⟩
                  have HTO : Hid (Told nm L) := Lib.hid (by rw [hnm, hL]; exact HT0.out)
                  have HSX : Hid (Ss wq A3 m c3 L) := Lib.hid (by rw [hm, hL]; exact HSU.out)
                  have HLM : Hid (L.length = m) := Lib.hid HSX.out.len
                  have hbx : BoxP nm (.slice A3 m c3) wo.heap.size (wo.alloc (.cells #[.string nm0, .slice A3 (U.length) c3] 47)) := by rw [hnm, hm]; exact heap_alloc_new wo _
                  have HB1 : Hid (Below wq.heap.size wq (wo.alloc (.cells #[.string nm0, .slice A3 (U.length) c3] 47))) := Lib.hid (HB.out.alloc HB.out.size _)
                  generalize wo.alloc (.cells #[.string nm0, .slice A3 (U.length) c3] 47) = w1 at *
                  generalize wo.heap.size = p at *
                  have HX1 := Lib.hid hbx
                  clear hbx hnm hm hL q0 q1 q2 q3 HB
                  obtain ⟨c0, c1⟩ := HX1.out.cells
                  have d0 : w1.drew.cell? ⟨p, 0, none⟩ = some (.string nm) := c0
                  have d1 : w1.drew.cell? ⟨p, 1, none⟩ = some (.slice A3 m c3) := c1
                  go_region_held3 (fun w' => w'.cell? ⟨p, 0, none⟩ = some (.string nm) ∧ w'.cell? ⟨p, 1, none⟩ = some (.slice A3 m c3)) (first | exact ⟨e0, e1⟩ | go_keep)
                    (first
                    | (go_at_call 30; refine (plain_ _).mono ?_; rintro e wP ⟨rfl, hbP⟩; have HXP : Hid (BoxP nm (.slice A3 m c3) p wP) := Lib.hid (HX1.out.below ((Below.refl _ _).drew.trans hbP)); have HBP : Hid (Below wq.heap.size wq wP) := Lib.hid (HB1.out.drew.trans (hbP.mono HB1.out.drew.size)); obtain ⟨e0, e1⟩ := HXP.out.cells; clear hbP)
                    | (go_at_call 23; refine (segMake plainS nm A3 m c3 L _ (HSX.out.below HBP.out) (by have := HTO.out.small; omega) (by have := HTO.out.bulk; omega)).mono ?_; rintro e wM ⟨rfl, hbM⟩; have HXM : Hid (BoxP nm (.slice A3 m c3) p wM) := Lib.hid (HXP.out.below hbM); have HBM : Hid (Below wq.heap.size wq wM) := Lib.hid (HBP.out.trans (hbM.mono HBP.out.size)); obtain ⟨f0, f1⟩ := HXM.out.cells; clear hbM))
                  rw [show plainS.a = 124 from rfl]
                  obtain ⟨s, hs⟩ : ∃ s : ByteArray, s = txt (makeD nm 124 L) := ⟨_, rfl⟩
                  rw [show str (makeD nm 124 L) = .string s from congrArg Value.string hs.symm]
                  have HNS : Hid (nameS s = nm) := Lib.hid (by rw [hs]; exact HTO.out.name)
                  have HFS : Hid (fieldsD s 124 = L) := Lib.hid (by rw [hs]; exact HTO.out.fields)
                  have HSZ : Hid (s.size ≤ 1000000) := Lib.hid (by
                    rw [hs, txt_size']
                    have h1 := mkTo_len nm 124 L L.length (Nat.le_refl _)
                    rw [List.take_length] at h1
                    have h2 := HTO.out.bulk
                    have h3 := HTO.out.small
                    unfold makeD
                    omega)
                  have HML : Hid (m ≤ 1008) := Lib.hid (by have := HTO.out.bulk; have := HLM.out; omega)
                  have hst : (nm.toList == nm.toList) = true := by simp
                  clear hs c0 c1 d0 d1
                  have d0 : wM.drew.cell? ⟨p, 0, none⟩ = some (.string nm) := f0
                  have d1 : wM.drew.cell? ⟨p, 1, none⟩ = some (.slice A3 m c3) := f1
                  go_wp2_with (fail)
                  go_region_held3 (fun w' => w'.cell? ⟨p, 0, none⟩ = some (.string nm) ∧ w'.cell? ⟨p, 1, none⟩ = some (.slice A3 m c3)) (first | exact ⟨g0, g1⟩ | exact ⟨h0, h1⟩ | go_keep)
                    (first
                    | (go_at_call 12; refine (nameS_ s _).mono ?_; rintro e wN ⟨rfl, rfl⟩; rw [HNS.out])
                    | (go_at_call 30; refine (plain_ _).mono ?_; rintro e wP2 ⟨rfl, hbP⟩; have HXP2 : Hid (BoxP nm (.slice A3 m c3) p wP2) := Lib.hid (HXM.out.below ((Below.refl _ _).drew.trans hbP)); have HBP2 : Hid (Below wq.heap.size wq wP2) := Lib.hid (HBM.out.drew.trans (hbP.mono HBM.out.drew.size)); obtain ⟨g0, g1⟩ := HXP2.out.cells; clear hbP)
                    | (go_at_call 20; refine (count_ s plainS _ (by have := HSZ.out; omega)).mono ?_; rintro e wC ⟨rfl, hbC⟩; rw [show plainS.a = 124 from rfl, HFS.out, HLM.out]; have HXC : Hid (BoxP nm (.slice A3 m c3) p wC) := Lib.hid (HXP2.out.below hbC); have HBC : Hid (Below wq.heap.size wq wC) := Lib.hid (HBP2.out.trans (hbC.mono HBP2.out.size)); obtain ⟨h0, h1⟩ := HXC.out.cells; clear hbC))
                  clear f0 f1 g0 g1 d0 d1
                  go_wp2_with (fail)
                  go_loopw [102, 17, 18, 19, 20] (fun i _ _ _ _ wr => ∃ j : Nat, j ≤ m ∧ i = .int .i64 j ∧ Below wq.heap.size wq wr) (fun i _ _ _ _ _ => m - (intOf i).toNat)
                  case atStart => exact ⟨0, by omega, rfl, HBC.out⟩
                  case round =>
                    obtain ⟨wi, rfl⟩ : ∃ wi : World, wi = wr := ⟨_, rfl⟩
                    obtain ⟨j, hj, rfl, hb⟩ := hrel
                    have HBI := Lib.hid hb
                    clear hb hst
                    by_cases hlt : j < m
                    · obtain ⟨b, o, rfl, _, hc⟩ := (HSX.out.below HBI.out).read hlt
                      have e1 : (j : Int) < (m : Int) := by omega
                      obtain ⟨x, hx⟩ : ∃ x, x = L.getD j [] := ⟨_, rfl⟩
                      rw [← hx] at hc
                      have HLT := Lib.hid hlt
                      have ew : IntKind.i64.wrap ((j : Int) + 1) = (j : Int) + 1 := by rw [IntKind.wrap_i64]; have := HML.out; omega
                      have HNX : Hid (nthD (fieldsD s plainS.a) ((j : Int) + 1) = some x) := Lib.hid (by
                        rw [show plainS.a = 124 from rfl, HFS.out]
                        unfold nthD
                        rw [if_pos (by omega), show ((j : Int) + 1 - 1).toNat = j by omega, hx, List.getD_eq_getElem?_getD, List.getElem?_eq_getElem (by rw [HLM.out]; exact hlt)]
                        rfl)
                      have hst : ((txt x).toList == (txt x).toList) = true := by simp
                      clear hx hlt
                      go_wp2_with (fail)
                      refine (plain_ _).mono ?_
                      rintro e w5 ⟨rfl, hb5⟩
                      have HB5 : Hid (Below wq.heap.size wq w5) := Lib.hid (HBI.out.trans (hb5.mono HBI.out.size))
                      clear hb5
                      go_wp2_with (fail)
                      refine (field_ s ((j : Int) + 1) plainS _ (by have := HSZ.out; omega) (by have := HML.out; have := HLT.out; omega) (by omega)).mono ?_
                      rintro e w6 ⟨rfl, hb6⟩
                      rw [HNX.out]
                      have HB6 : Hid (Below wq.heap.size wq w6) := Lib.hid (HB5.out.trans (hb6.mono HB5.out.size))
                      clear hb6
                      go_wp2_with (fail)
                      exact ⟨⟨j + 1, HLT.out, by go_num, HB6.out⟩, by have := HLT.out; simp [intOf]; omega⟩
                    · obtain rfl : j = m := by omega
                      clear hlt hj
                      go_wp2_with (fail)
                      exact ⟨⟨1, by omega, rfl, HBI.out⟩, by simp [intOf]⟩
                | 1, _ =>
                  rw [show ((1 : Nat) : Int) = 1 from rfl]
                  clear hlt hk
                  go_wp2_with (fail)
                  obtain ⟨nm, hnm⟩ : ∃ nm : ByteArray, nm = ⟨#[77, 83, 72]⟩ := ⟨_, rfl⟩
                  obtain ⟨m, hm⟩ : ∃ m : Nat, m = U.length + 1 + 1 := ⟨_, rfl⟩
                  obtain ⟨L, hL⟩ : ∃ L : List (List UInt8), L = [124] :: [94, 126, 92, 38] :: U := ⟨_, rfl⟩
                  have HTO : Hid (Told nm L) := Lib.hid (by rw [hnm, hL]; exact HEAD.out)
                  have HSX : Hid (Ss wq A4 m c4 L) := Lib.hid (by rw [hm, hL]; exact HSH.out)
                  have HLM : Hid (L.length = m) := Lib.hid HSX.out.len
                  have hbx : BoxP nm (.slice A4 m c4) wo.heap.size (wo.alloc (.cells #[.string ⟨#[77, 83, 72]⟩, .slice A4 (U.length + 1 + 1) c4] 47)) := by rw [hnm, hm]; exact heap_alloc_new wo _
                  have HB1 : Hid (Below wq.heap.size wq (wo.alloc (.cells #[.string ⟨#[77, 83, 72]⟩, .slice A4 (U.length + 1 + 1) c4] 47))) := Lib.hid (HB.out.alloc HB.out.size _)
                  generalize wo.alloc (.cells #[.string ⟨#[77, 83, 72]⟩, .slice A4 (U.length + 1 + 1) c4] 47) = w1 at *
                  generalize wo.heap.size = p at *
                  have HX1 := Lib.hid hbx
                  clear hbx hnm hm hL q0 q1 q2 q3 HB
                  obtain ⟨c0, c1⟩ := HX1.out.cells
                  have d0 : w1.drew.cell? ⟨p, 0, none⟩ = some (.string nm) := c0
                  have d1 : w1.drew.cell? ⟨p, 1, none⟩ = some (.slice A4 m c4) := c1
                  go_region_held3 (fun w' => w'.cell? ⟨p, 0, none⟩ = some (.string nm) ∧ w'.cell? ⟨p, 1, none⟩ = some (.slice A4 m c4)) (first | exact ⟨e0, e1⟩ | go_keep)
                    (first
                    | (go_at_call 30; refine (plain_ _).mono ?_; rintro e wP ⟨rfl, hbP⟩; have HXP : Hid (BoxP nm (.slice A4 m c4) p wP) := Lib.hid (HX1.out.below ((Below.refl _ _).drew.trans hbP)); have HBP : Hid (Below wq.heap.size wq wP) := Lib.hid (HB1.out.drew.trans (hbP.mono HB1.out.drew.size)); obtain ⟨e0, e1⟩ := HXP.out.cells; clear hbP)
                    | (go_at_call 23; refine (segMake plainS nm A4 m c4 L _ (HSX.out.below HBP.out) (by have := HTO.out.small; omega) (by have := HTO.out.bulk; omega)).mono ?_; rintro e wM ⟨rfl, hbM⟩; have HXM : Hid (BoxP nm (.slice A4 m c4) p wM) := Lib.hid (HXP.out.below hbM); have HBM : Hid (Below wq.heap.size wq wM) := Lib.hid (HBP.out.trans (hbM.mono HBP.out.size)); obtain ⟨f0, f1⟩ := HXM.out.cells; clear hbM))
                  rw [show plainS.a = 124 from rfl]
                  obtain ⟨s, hs⟩ : ∃ s : ByteArray, s = txt (makeD nm 124 L) := ⟨_, rfl⟩
                  rw [show str (makeD nm 124 L) = .string s from congrArg Value.string hs.symm]
                  have HNS : Hid (nameS s = nm) := Lib.hid (by rw [hs]; exact HTO.out.name)
                  have HFS : Hid (fieldsD s 124 = L) := Lib.hid (by rw [hs]; exact HTO.out.fields)
                  have HSZ : Hid (s.size ≤ 1000000) := Lib.hid (by
                    rw [hs, txt_size']
                    have h1 := mkTo_len nm 124 L L.length (Nat.le_refl _)
                    rw [List.take_length] at h1
                    have h2 := HTO.out.bulk
                    have h3 := HTO.out.small
                    unfold makeD
                    omega)
                  have HML : Hid (m ≤ 1008) := Lib.hid (by have := HTO.out.bulk; have := HLM.out; omega)
                  have hst : (nm.toList == nm.toList) = true := by simp
                  clear hs c0 c1 d0 d1
                  have d0 : wM.drew.cell? ⟨p, 0, none⟩ = some (.string nm) := f0
                  have d1 : wM.drew.cell? ⟨p, 1, none⟩ = some (.slice A4 m c4) := f1
                  go_wp2_with (fail)
                  go_region_held3 (fun w' => w'.cell? ⟨p, 0, none⟩ = some (.string nm) ∧ w'.cell? ⟨p, 1, none⟩ = some (.slice A4 m c4)) (first | exact ⟨g0, g1⟩ | exact ⟨h0, h1⟩ | go_keep)
                    (first
                    | (go_at_call 12; refine (nameS_ s _).mono ?_; rintro e wN ⟨rfl, rfl⟩; rw [HNS.out])
                    | (go_at_call 30; refine (plain_ _).mono ?_; rintro e wP2 ⟨rfl, hbP⟩; have HXP2 : Hid (BoxP nm (.slice A4 m c4) p wP2) := Lib.hid (HXM.out.below ((Below.refl _ _).drew.trans hbP)); have HBP2 : Hid (Below wq.heap.size wq wP2) := Lib.hid (HBM.out.drew.trans (hbP.mono HBM.out.drew.size)); obtain ⟨g0, g1⟩ := HXP2.out.cells; clear hbP)
                    | (go_at_call 20; refine (count_ s plainS _ (by have := HSZ.out; omega)).mono ?_; rintro e wC ⟨rfl, hbC⟩; rw [show plainS.a = 124 from rfl, HFS.out, HLM.out]; have HXC : Hid (BoxP nm (.slice A4 m c4) p wC) := Lib.hid (HXP2.out.below hbC); have HBC : Hid (Below wq.heap.size wq wC) := Lib.hid (HBP2.out.trans (hbC.mono HBP2.out.size)); obtain ⟨h0, h1⟩ := HXC.out.cells; clear hbC))
                  clear f0 f1 g0 g1 d0 d1
                  go_wp2_with (fail)
                  go_loopw [102, 17, 18, 19, 20] (fun i _ _ _ _ wr => ∃ j : Nat, j ≤ m ∧ i = .int .i64 j ∧ Below wq.heap.size wq wr) (fun i _ _ _ _ _ => m - (intOf i).toNat)
                  case atStart => exact ⟨0, by omega, rfl, HBC.out⟩
                  case round =>
                    obtain ⟨wi, rfl⟩ : ∃ wi : World, wi = wr := ⟨_, rfl⟩
                    obtain ⟨j, hj, rfl, hb⟩ := hrel
                    have HBI := Lib.hid hb
                    clear hb hst
                    by_cases hlt : j < m
                    · obtain ⟨b, o, rfl, _, hc⟩ := (HSX.out.below HBI.out).read hlt
                      have e1 : (j : Int) < (m : Int) := by omega
                      obtain ⟨x, hx⟩ : ∃ x, x = L.getD j [] := ⟨_, rfl⟩
                      rw [← hx] at hc
                      have HLT := Lib.hid hlt
                      have ew : IntKind.i64.wrap ((j : Int) + 1) = (j : Int) + 1 := by rw [IntKind.wrap_i64]; have := HML.out; omega
                      have HNX : Hid (nthD (fieldsD s plainS.a) ((j : Int) + 1) = some x) := Lib.hid (by
                        rw [show plainS.a = 124 from rfl, HFS.out]
                        unfold nthD
                        rw [if_pos (by omega), show ((j : Int) + 1 - 1).toNat = j by omega, hx, List.getD_eq_getElem?_getD, List.getElem?_eq_getElem (by rw [HLM.out]; exact hlt)]
                        rfl)
                      have hst : ((txt x).toList == (txt x).toList) = true := by simp
                      clear hx hlt
                      go_wp2_with (fail)
                      refine (plain_ _).mono ?_
                      rintro e w5 ⟨rfl, hb5⟩
                      have HB5 : Hid (Below wq.heap.size wq w5) := Lib.hid (HBI.out.trans (hb5.mono HBI.out.size))
                      clear hb5
                      go_wp2_with (fail)
                      refine (field_ s ((j : Int) + 1) plainS _ (by have := HSZ.out; omega) (by have := HML.out; have := HLT.out; omega) (by omega)).mono ?_
                      rintro e w6 ⟨rfl, hb6⟩
                      rw [HNX.out]
                      have HB6 : Hid (Below wq.heap.size wq w6) := Lib.hid (HB5.out.trans (hb6.mono HB5.out.size))
                      clear hb6
                      go_wp2_with (fail)
                      exact ⟨⟨j + 1, HLT.out, by go_num, HB6.out⟩, by have := HLT.out; simp [intOf]; omega⟩
                    · obtain rfl : j = m := by omega
                      clear hlt hj
                      go_wp2_with (fail)
                      exact ⟨⟨2, by omega, rfl, HBI.out⟩, by simp [intOf]⟩
              · obtain rfl : k = 2 := by omega
                clear hlt hk q0 q1 q2 q3
                go_wp2_with (fail)
                refine (alive_ _).mono ?_
                rintro e w3 ⟨rfl, hb3⟩
                have HB3 : Hid (Below w.heap.size w w3) := Lib.hid (HBW.out.trans ((HB.out.trans (hb3.mono HB.out.size)).mono HBW.out.size))
                clear hb3
                go_wp2_with (fail)
                go_ret
                exact ⟨rfl, HB3.out⟩
end Go.Proofs.Ytmambhopdbomfaa
