/- MshKnown, walked. -/
import Derived.Test.YtodgcmjdnfbegaaDoorMsh5
import Derived.Deep.CutRange
import Derived.Deep.DeepCutAuto
namespace Go.Proofs.YtodgcmjdnfbegaaDoor
open Go.RowKit

/-- P, D or T -/
def pB : Nat → ByteArray
  | 0 => ⟨#[80]⟩
  | 1 => ⟨#[68]⟩
  | _ => ⟨#[84]⟩
theorem head_app (c : UInt8) (r : List UInt8) : ∀ a : List UInt8, c ∉ a → (cutAt c (a ++ r)).headD [] = a ++ (cutAt c r).headD []
  | [], _ => rfl
  | x :: a, h => by
    have ih := head_app c r a (fun e => h (List.mem_cons_of_mem _ e))
    obtain ⟨p, q, h1, h2⟩ := cutAt_cons (c := c) (x := x) (fun e => h (by rw [e]; exact List.mem_cons_self ..)) (a ++ r)
    rw [List.cons_append, h2, List.cons_append, ← ih, h1]
    rfl
theorem firstD_plain (a : ByteArray) (h1 : (126 : UInt8) ∉ a.data.toList) (h2 : (94 : UInt8) ∉ a.data.toList) : firstD a plainS = a.data.toList := by
  unfold firstD
  rw [show plainS.c = 126 from rfl, show plainS.b = 94 from rfl, cutAt_none 126 _ h1]
  show (cutAt 94 a.data.toList).headD [] = _
  rw [cutAt_none 94 _ h2]
  rfl
theorem firstD_more (a m : ByteArray) (h1 : (126 : UInt8) ∉ a.data.toList) (h2 : (94 : UInt8) ∉ a.data.toList) : firstD (a ++ ⟨#[94]⟩ ++ m) plainS = a.data.toList := by
  have e : (a ++ ⟨#[94]⟩ ++ m).data.toList = a.data.toList ++ 94 :: m.data.toList := by simp
  unfold firstD
  rw [show plainS.c = 126 from rfl, show plainS.b = 94 from rfl, e, head_app 126 _ _ h1]
  obtain ⟨p, q, h3, h4⟩ := cutAt_cons (c := 126) (x := 94) (by decide) m.data.toList
  rw [h4]
  show (cutAt 94 (a.data.toList ++ 94 :: p)).headD [] = _
  rw [cutAt_clean 94 p _ h2]
  rfl
theorem vB_clean : ∀ K, K < 10 → (126 : UInt8) ∉ (vB K).data.toList ∧ (94 : UInt8) ∉ (vB K).data.toList ∧ knownD (txt (vB K).data.toList) = true ∧ knownD (txt (vB K ++ ⟨#[120]⟩).data.toList) = false ∧ (126 : UInt8) ∉ (vB K ++ ⟨#[120]⟩).data.toList ∧ (94 : UInt8) ∉ (vB K ++ ⟨#[120]⟩).data.toList ∧ (vB K).size ≤ 5 := by decide +kernel
theorem pB_clean : ∀ K, K < 3 → (126 : UInt8) ∉ (pB K).data.toList ∧ (94 : UInt8) ∉ (pB K).data.toList ∧ procD (txt (pB K).data.toList) = true ∧ (pB K).size = 1 := by decide +kernel
def hK (vb pb : ByteArray) : Hd := ⟨plainS, ⟨#[]⟩, ⟨#[]⟩, ⟨#[]⟩, ⟨#[]⟩, ⟨#[]⟩, ⟨#[]⟩, ⟨#[65, 68, 84]⟩, ⟨#[49]⟩, pb, vb⟩
theorem check_hK (vb pb : ByteArray) : checkD (hK vb pb) = if !knownD (txt (firstD vb plainS)) then 12 else if !procD (txt (firstD pb plainS)) then 13 else 0 := by
  have h1 : (hK vb pb).a6.toList.isEmpty = false := by show (ByteArray.toList ⟨#[65, 68, 84]⟩).isEmpty = false; rw [Go.ByteArray.toList_eq]; rfl
  have h2 : (hK vb pb).a7.toList.isEmpty = false := by show (ByteArray.toList ⟨#[49]⟩).isEmpty = false; rw [Go.ByteArray.toList_eq]; rfl
  unfold checkD
  rw [h1, h2]
  rfl

set_option maxHeartbeats 8000000 in
set_option maxRecDepth 100000 in
theorem mshKnown_walk (x y : UInt8) (more : ByteArray) (w : World) (hv : Vers w) (hm : more.size ≤ maxLen) : Calls Tryd.prog 7 #[u8 x, u8 y, .string more] w (True_ w) := by
  have HV := Lib.hid hv
  have HMS := Lib.hid hm
  clear hm
  have hx64 : IntKind.i64.wrap (x.toNat : Int) = (x.toNat : Int) := by rw [IntKind.wrap_i64]; have := x.toNat_lt; omega
  have hw64 : wrap64 (x.toNat : Int) = (x.toNat : Int) := by have := x.toNat_lt; unfold wrap64; omega
  obtain ⟨K, hKx⟩ : ∃ K : Nat, (x.toNat : Int).tmod 10 = (K : Int) := ⟨x.toNat % 10, by rw [Int.tmod_eq_emod_of_nonneg (by omega)]; omega⟩
  obtain ⟨q, hqy⟩ : ∃ q : Nat, (y.toNat : Int) % 3 = (q : Int) := ⟨y.toNat % 3, by omega⟩
  have HK : Hid (K < 10) := Lib.hid (by rw [Int.tmod_eq_emod_of_nonneg (by omega)] at hKx; omega)
  have HQ : Hid (q < 3) := Lib.hid (by omega)
  go_enter Tryd.func7, Tryd.ntmps7
  go_wp2_with (fail)
  refine (versions_ w hv).mono ?_
  rintro e w1 ⟨A, c, rfl, hS, hb1⟩
  have HS1 := Lib.hid hS
  have HB1 := Lib.hid hb1
  clear hS hb1 hv
  go_wp2_with (fail)
  refine (alive09 w1 (HV.out.below HB1.out)).mono ?_
  rintro e w2 ⟨rfl, hb2⟩
  have HB2 := Lib.hid (HB1.out.trans (hb2.mono HB1.out.size))
  have HS2 := Lib.hid (HS1.out.below hb2)
  clear hb2
  by_cases hbig : 300 < more.size
  · have d1 : decide ((300 : Int) < (more.size : Int)) = true := by simp; omega
    clear hbig hKx hqy
    go_wp2_with (fail)
    refine (alive09 w2 (HV.out.below HB2.out)).mono ?_
    rintro e w3 ⟨rfl, hb3⟩
    have HB3 := Lib.hid (HB2.out.trans (hb3.mono HB2.out.size))
    clear hb3
    go_wp2_with (fail)
    go_ret
    exact ⟨rfl, HB3.out⟩
  have d1 : decide ((300 : Int) < (more.size : Int)) = false := by simp; omega
  have HML : Hid (more.size ≤ 300) := Lib.hid (by omega)
  clear hbig
  obtain ⟨b, o, rfl, hlb, hc⟩ := HS2.out.read HK.out
  have hvk : (versL.map (·.data.toList)).getD K [] = (vB K).data.toList := by
    have h := HK.out
    match K, h with
    | 0, _ => rfl
    | 1, _ => rfl
    | 2, _ => rfl
    | 3, _ => rfl
    | 4, _ => rfl
    | 5, _ => rfl
    | 6, _ => rfl
    | 7, _ => rfl
    | 8, _ => rfl
    | 9, _ => rfl
  rw [hvk, show str (vB K).data.toList = .string (vB K) from rfl] at hc
  have ek : (K : Int) < 10 := by have := HK.out; omega
  have eq3 : (q : Int) < 3 := by have := HQ.out; omega
  obtain ⟨n1, n2, n3, n4, n5, n6, n7⟩ := vB_clean K HK.out
  obtain ⟨m1, m2, m3, m4⟩ := pB_clean q HQ.out
  obtain ⟨vb, hvb⟩ : ∃ vb, vb = vB K := ⟨_, rfl⟩
  obtain ⟨pb, hpb⟩ : ∃ pb, pb = pB q := ⟨_, rfl⟩
  have hc0 : w2.drew.cell? ⟨b, o + K, none⟩ = some (.string vb) := by rw [hvb]; exact hc
  have hc1 : ∀ ob : Obj, (w2.alloc ob).cell? ⟨b, o + K, none⟩ = some (.string vb) := fun ob => (((Below.refl w2.heap.size w2).alloc (Nat.le_refl _) ob).cell (p := ⟨b, o + K, none⟩) hlb).trans hc0
  have hp1 : (w2.alloc (.cells #[.string ⟨#[80]⟩, .string ⟨#[68]⟩, .string ⟨#[84]⟩] 9)).cell? ⟨w2.heap.size, q, none⟩ = some (.string pb) := by
    have h := HQ.out
    rw [hpb]
    match q, h with
    | 0, _ => exact cell_of_row _ _ 0 _ _ _ (heap_alloc_new w2 _)
    | 1, _ => exact cell_of_row _ _ 1 _ _ _ (heap_alloc_new w2 _)
    | 2, _ => exact cell_of_row _ _ 2 _ _ _ (heap_alloc_new w2 _)
  rw [← hvb] at n1 n2 n3 n4 n5 n6 n7
  rw [← hpb] at m1 m2 m3 m4
  have K1 : Hid (checkD (hK vb pb) = 0) := Lib.hid (by rw [check_hK, firstD_plain vb n1 n2, firstD_plain pb m1 m2, n3, m3]; rfl)
  have K2 : Hid (checkD (hK (vb ++ ⟨#[94]⟩ ++ more) (pb ++ ⟨#[94]⟩ ++ more)) = 0) := Lib.hid (by rw [check_hK, firstD_more vb more n1 n2, firstD_more pb more m1 m2, n3, m3]; rfl)
  have K3 : Hid (checkD (hK (vb ++ ⟨#[120]⟩) pb) = 12) := Lib.hid (by rw [check_hK, firstD_plain _ n5 n6, n4]; rfl)
  have K4 : Hid (checkD (hK ⟨#[]⟩ pb) = 12) := Lib.hid (by rw [check_hK, show knownD (txt (firstD ⟨#[]⟩ plainS)) = false from by decide +kernel]; rfl)
  have K5 : Hid (checkD (hK vb ⟨#[80, 68]⟩) = 13) := Lib.hid (by rw [check_hK, firstD_plain vb n1 n2, n3, show procD (txt (firstD ⟨#[80, 68]⟩ plainS)) = false from by decide +kernel]; rfl)
  have N7 := Lib.hid n7
  have M4 := Lib.hid m4
  clear hc hvk hvb hpb n1 n2 n3 n4 n5 n6 n7 m1 m2 m3 m4
  go_wp2_with (fail)
  go_region
  have HB3 : Hid (Below w.heap.size w (w2.alloc (.cells #[.string ⟨#[80]⟩, .string ⟨#[68]⟩, .string ⟨#[84]⟩] 9)).drew) := Lib.hid (HB2.out.alloc HB2.out.size _).drew
  generalize (w2.alloc (.cells #[.string ⟨#[80]⟩, .string ⟨#[68]⟩, .string ⟨#[84]⟩] 9)).drew = w3 at *
  clear hc0 hc1 hp1 hlb hx64 hw64 hKx hqy ek eq3 HS1 HS2 HB1 HB2 d1
  have HX4 : Hid (BoxH (hK vb pb) w3.heap.size (w3.alloc (.cells #[.int .u8 124, .int .u8 94, .int .u8 126, .int .u8 92, .int .u8 38, .string ⟨#[]⟩, .string ⟨#[]⟩, .string ⟨#[]⟩, .string ⟨#[]⟩, .string ⟨#[]⟩, .string ⟨#[]⟩, .string ⟨#[65, 68, 84]⟩, .string ⟨#[49]⟩, .string pb, .string vb] TH))) := Lib.hid (heap_alloc_new w3 _)
  have HB4 : Hid (Below w.heap.size w (w3.alloc (.cells #[.int .u8 124, .int .u8 94, .int .u8 126, .int .u8 92, .int .u8 38, .string ⟨#[]⟩, .string ⟨#[]⟩, .string ⟨#[]⟩, .string ⟨#[]⟩, .string ⟨#[]⟩, .string ⟨#[]⟩, .string ⟨#[65, 68, 84]⟩, .string ⟨#[49]⟩, .string pb, .string vb] TH))) := Lib.hid (HB3.out.alloc HB3.out.size _)
  go_wp2_with (fail)
  generalize w3.alloc (.cells #[.int .u8 124, .int .u8 94, .int .u8 126, .int .u8 92, .int .u8 38, .string ⟨#[]⟩, .string ⟨#[]⟩, .string ⟨#[]⟩, .string ⟨#[]⟩, .string ⟨#[]⟩, .string ⟨#[]⟩, .string ⟨#[65, 68, 84]⟩, .string ⟨#[49]⟩, .string pb, .string vb] TH) = w4 at *
  have HGW : Hid (w.heap.size ≤ w3.heap.size) := Lib.hid HB3.out.size
  generalize w3.heap.size = g at *
  obtain ⟨h, hh⟩ : ∃ h, h = hK vb pb := ⟨_, rfl⟩
  rw [← hh] at HX4 K1
  have HH := Lib.hid hh
  clear hh
  have HSZ : Hid (h.a8.size ≤ 1000000000 ∧ h.a9.size ≤ 1000000000) := Lib.hid (by rw [HH.out]; exact ⟨by show pb.size ≤ 1000000000; have := M4.out; omega, by show vb.size ≤ 1000000000; have := N7.out; omega⟩)
  obtain ⟨h2, hh2⟩ : ∃ h2, h2 = hK (vb ++ ⟨#[94]⟩ ++ more) (pb ++ ⟨#[94]⟩ ++ more) := ⟨_, rfl⟩
  have HSZ2 : Hid (h2.a8.size ≤ 1000000000 ∧ h2.a9.size ≤ 1000000000) := Lib.hid (by rw [hh2]; exact ⟨by show (pb ++ ⟨#[94]⟩ ++ more).size ≤ 1000000000; rw [ByteArray.size_append, ByteArray.size_append]; have := M4.out; have := HML.out; show pb.size + 1 + more.size ≤ _; omega, by show (vb ++ ⟨#[94]⟩ ++ more).size ≤ 1000000000; rw [ByteArray.size_append, ByteArray.size_append]; have := N7.out; have := HML.out; show vb.size + 1 + more.size ≤ _; omega⟩)
  rw [← hh2] at K2
  have HH2 := Lib.hid hh2
  clear hh2
  obtain ⟨h3, hh3⟩ : ∃ h3, h3 = hK (vb ++ ⟨#[120]⟩) pb := ⟨_, rfl⟩
  have HSZ3 : Hid (h3.a8.size ≤ 1000000000 ∧ h3.a9.size ≤ 1000000000) := Lib.hid (by rw [hh3]; exact ⟨by show pb.size ≤ 1000000000; have := M4.out; omega, by show (vb ++ ⟨#[120]⟩).size ≤ 1000000000; rw [ByteArray.size_append]; have := N7.out; show vb.size + 1 ≤ _; omega⟩)
  rw [← hh3] at K3
  have HH3 := Lib.hid hh3
  clear hh3
  obtain ⟨h4, hh4⟩ : ∃ h4, h4 = hK ⟨#[]⟩ pb := ⟨_, rfl⟩
  have HSZ4 : Hid (h4.a8.size ≤ 1000000000 ∧ h4.a9.size ≤ 1000000000) := Lib.hid (by rw [hh4]; exact ⟨by show pb.size ≤ 1000000000; have := M4.out; omega, by show (0 : Nat) ≤ 1000000000; omega⟩)
  rw [← hh4] at K4
  have HH4 := Lib.hid hh4
  clear hh4
  obtain ⟨h5, hh5⟩ : ∃ h5, h5 = hK vb ⟨#[80, 68]⟩ := ⟨_, rfl⟩
  have HSZ5 : Hid (h5.a8.size ≤ 1000000000 ∧ h5.a9.size ≤ 1000000000) := Lib.hid (by rw [hh5]; exact ⟨by show (2 : Nat) ≤ 1000000000; omega, by show vb.size ≤ 1000000000; have := N7.out; omega⟩)
  rw [← hh5] at K5
  have HH5 := Lib.hid hh5
  clear hh5
  have HN3 : Hid (g < w4.heap.size ∧ w.heap.size ≤ w4.heap.size ∧ w.heap.size ≤ g) := Lib.hid ⟨(Array.getElem?_eq_some_iff.1 HX4.out).1, HB4.out.size, HGW.out⟩
  go_cut [11, 12] (fun x y wx => ∃ n3 n4 : Nat, x = .pointer (some ⟨n3, 0, none⟩) ∧ y = .pointer (some ⟨n4, 0, none⟩) ∧ n3 ≠ n4 ∧ w4.heap.size ≤ n3 ∧ w4.heap.size ≤ n4 ∧ BoxH h n3 wx ∧ BoxH h n4 wx ∧ Below w4.heap.size w4 wx)
  case first =>
    as_aux_lemma =>
      have HG0 : Hid (∀ o1 o2 : Obj, BoxH h g ((w4.alloc o1).alloc o2)) := Lib.hid (fun o1 o2 => HX4.out.below (((Below.refl _ _).alloc (Nat.le_refl _) _).alloc (by simp) _))
      have HG1 : Hid (∀ o1 : Obj, BoxH h g (w4.alloc o1)) := Lib.hid (fun o1 => HX4.out.below ((Below.refl _ _).alloc (Nat.le_refl _) _))
      obtain ⟨c0, c1, c2, c3, c4, c5, c6, c7, c8, c9, c10, c11, c12, c13, c14⟩ := HX4.out.cells
      have p0 : ∀ o1 o2 : Obj, ((w4.alloc o1).alloc o2).cell? ⟨g, 0, none⟩ = some (u8 h.d.a) := fun o1 o2 => cell_of_row _ g 0 _ _ _ (HG0.out o1 o2)
      have q0 : ∀ o1 : Obj, (w4.alloc o1).cell? ⟨g, 0, none⟩ = some (u8 h.d.a) := fun o1 => cell_of_row _ g 0 _ _ _ (HG1.out o1)
      have p1 : ∀ o1 o2 : Obj, ((w4.alloc o1).alloc o2).cell? ⟨g, 1, none⟩ = some (u8 h.d.b) := fun o1 o2 => cell_of_row _ g 1 _ _ _ (HG0.out o1 o2)
      have q1 : ∀ o1 : Obj, (w4.alloc o1).cell? ⟨g, 1, none⟩ = some (u8 h.d.b) := fun o1 => cell_of_row _ g 1 _ _ _ (HG1.out o1)
      have p2 : ∀ o1 o2 : Obj, ((w4.alloc o1).alloc o2).cell? ⟨g, 2, none⟩ = some (u8 h.d.c) := fun o1 o2 => cell_of_row _ g 2 _ _ _ (HG0.out o1 o2)
      have q2 : ∀ o1 : Obj, (w4.alloc o1).cell? ⟨g, 2, none⟩ = some (u8 h.d.c) := fun o1 => cell_of_row _ g 2 _ _ _ (HG1.out o1)
      have p3 : ∀ o1 o2 : Obj, ((w4.alloc o1).alloc o2).cell? ⟨g, 3, none⟩ = some (u8 h.d.d) := fun o1 o2 => cell_of_row _ g 3 _ _ _ (HG0.out o1 o2)
      have q3 : ∀ o1 : Obj, (w4.alloc o1).cell? ⟨g, 3, none⟩ = some (u8 h.d.d) := fun o1 => cell_of_row _ g 3 _ _ _ (HG1.out o1)
      have p4 : ∀ o1 o2 : Obj, ((w4.alloc o1).alloc o2).cell? ⟨g, 4, none⟩ = some (u8 h.d.e) := fun o1 o2 => cell_of_row _ g 4 _ _ _ (HG0.out o1 o2)
      have q4 : ∀ o1 : Obj, (w4.alloc o1).cell? ⟨g, 4, none⟩ = some (u8 h.d.e) := fun o1 => cell_of_row _ g 4 _ _ _ (HG1.out o1)
      have p5 : ∀ o1 o2 : Obj, ((w4.alloc o1).alloc o2).cell? ⟨g, 5, none⟩ = some (.string h.a0) := fun o1 o2 => cell_of_row _ g 5 _ _ _ (HG0.out o1 o2)
      have q5 : ∀ o1 : Obj, (w4.alloc o1).cell? ⟨g, 5, none⟩ = some (.string h.a0) := fun o1 => cell_of_row _ g 5 _ _ _ (HG1.out o1)
      have p6 : ∀ o1 o2 : Obj, ((w4.alloc o1).alloc o2).cell? ⟨g, 6, none⟩ = some (.string h.a1) := fun o1 o2 => cell_of_row _ g 6 _ _ _ (HG0.out o1 o2)
      have q6 : ∀ o1 : Obj, (w4.alloc o1).cell? ⟨g, 6, none⟩ = some (.string h.a1) := fun o1 => cell_of_row _ g 6 _ _ _ (HG1.out o1)
      have p7 : ∀ o1 o2 : Obj, ((w4.alloc o1).alloc o2).cell? ⟨g, 7, none⟩ = some (.string h.a2) := fun o1 o2 => cell_of_row _ g 7 _ _ _ (HG0.out o1 o2)
      have q7 : ∀ o1 : Obj, (w4.alloc o1).cell? ⟨g, 7, none⟩ = some (.string h.a2) := fun o1 => cell_of_row _ g 7 _ _ _ (HG1.out o1)
      have p8 : ∀ o1 o2 : Obj, ((w4.alloc o1).alloc o2).cell? ⟨g, 8, none⟩ = some (.string h.a3) := fun o1 o2 => cell_of_row _ g 8 _ _ _ (HG0.out o1 o2)
      have q8 : ∀ o1 : Obj, (w4.alloc o1).cell? ⟨g, 8, none⟩ = some (.string h.a3) := fun o1 => cell_of_row _ g 8 _ _ _ (HG1.out o1)
      have p9 : ∀ o1 o2 : Obj, ((w4.alloc o1).alloc o2).cell? ⟨g, 9, none⟩ = some (.string h.a4) := fun o1 o2 => cell_of_row _ g 9 _ _ _ (HG0.out o1 o2)
      have q9 : ∀ o1 : Obj, (w4.alloc o1).cell? ⟨g, 9, none⟩ = some (.string h.a4) := fun o1 => cell_of_row _ g 9 _ _ _ (HG1.out o1)
      have p10 : ∀ o1 o2 : Obj, ((w4.alloc o1).alloc o2).cell? ⟨g, 10, none⟩ = some (.string h.a5) := fun o1 o2 => cell_of_row _ g 10 _ _ _ (HG0.out o1 o2)
      have q10 : ∀ o1 : Obj, (w4.alloc o1).cell? ⟨g, 10, none⟩ = some (.string h.a5) := fun o1 => cell_of_row _ g 10 _ _ _ (HG1.out o1)
      have p11 : ∀ o1 o2 : Obj, ((w4.alloc o1).alloc o2).cell? ⟨g, 11, none⟩ = some (.string h.a6) := fun o1 o2 => cell_of_row _ g 11 _ _ _ (HG0.out o1 o2)
      have q11 : ∀ o1 : Obj, (w4.alloc o1).cell? ⟨g, 11, none⟩ = some (.string h.a6) := fun o1 => cell_of_row _ g 11 _ _ _ (HG1.out o1)
      have p12 : ∀ o1 o2 : Obj, ((w4.alloc o1).alloc o2).cell? ⟨g, 12, none⟩ = some (.string h.a7) := fun o1 o2 => cell_of_row _ g 12 _ _ _ (HG0.out o1 o2)
      have q12 : ∀ o1 : Obj, (w4.alloc o1).cell? ⟨g, 12, none⟩ = some (.string h.a7) := fun o1 => cell_of_row _ g 12 _ _ _ (HG1.out o1)
      have p13 : ∀ o1 o2 : Obj, ((w4.alloc o1).alloc o2).cell? ⟨g, 13, none⟩ = some (.string h.a8) := fun o1 o2 => cell_of_row _ g 13 _ _ _ (HG0.out o1 o2)
      have q13 : ∀ o1 : Obj, (w4.alloc o1).cell? ⟨g, 13, none⟩ = some (.string h.a8) := fun o1 => cell_of_row _ g 13 _ _ _ (HG1.out o1)
      have p14 : ∀ o1 o2 : Obj, ((w4.alloc o1).alloc o2).cell? ⟨g, 14, none⟩ = some (.string h.a9) := fun o1 o2 => cell_of_row _ g 14 _ _ _ (HG0.out o1 o2)
      have q14 : ∀ o1 : Obj, (w4.alloc o1).cell? ⟨g, 14, none⟩ = some (.string h.a9) := fun o1 => cell_of_row _ g 14 _ _ _ (HG1.out o1)
      have HPP : Hid (BoxH h w4.heap.size ((w4.alloc (.cells #[u8 h.d.a, u8 h.d.b, u8 h.d.c, u8 h.d.d, u8 h.d.e, .string h.a0, .string h.a1, .string h.a2, .string h.a3, .string h.a4, .string h.a5, .string h.a6, .string h.a7, .string h.a8, .string h.a9] TH)).alloc (.cells #[u8 h.d.a, u8 h.d.b, u8 h.d.c, u8 h.d.d, u8 h.d.e, .string h.a0, .string h.a1, .string h.a2, .string h.a3, .string h.a4, .string h.a5, .string h.a6, .string h.a7, .string h.a8, .string h.a9] TH)).drew) := Lib.hid (BoxH.below (w := w4.alloc (.cells #[u8 h.d.a, u8 h.d.b, u8 h.d.c, u8 h.d.d, u8 h.d.e, .string h.a0, .string h.a1, .string h.a2, .string h.a3, .string h.a4, .string h.a5, .string h.a6, .string h.a7, .string h.a8, .string h.a9] TH)) (heap_alloc_new w4 _) ((Below.refl _ _).alloc (Nat.le_refl _) _).drew)
      have HQQ : Hid (BoxH h (w4.heap.size + 1) ((w4.alloc (.cells #[u8 h.d.a, u8 h.d.b, u8 h.d.c, u8 h.d.d, u8 h.d.e, .string h.a0, .string h.a1, .string h.a2, .string h.a3, .string h.a4, .string h.a5, .string h.a6, .string h.a7, .string h.a8, .string h.a9] TH)).alloc (.cells #[u8 h.d.a, u8 h.d.b, u8 h.d.c, u8 h.d.d, u8 h.d.e, .string h.a0, .string h.a1, .string h.a2, .string h.a3, .string h.a4, .string h.a5, .string h.a6, .string h.a7, .string h.a8, .string h.a9] TH)).drew) := Lib.hid (by
        have := heap_alloc_new (w4.alloc (.cells #[u8 h.d.a, u8 h.d.b, u8 h.d.c, u8 h.d.d, u8 h.d.e, .string h.a0, .string h.a1, .string h.a2, .string h.a3, .string h.a4, .string h.a5, .string h.a6, .string h.a7, .string h.a8, .string h.a9] TH)) (.cells #[u8 h.d.a, u8 h.d.b, u8 h.d.c, u8 h.d.d, u8 h.d.e, .string h.a0, .string h.a1, .string h.a2, .string h.a3, .string h.a4, .string h.a5, .string h.a6, .string h.a7, .string h.a8, .string h.a9] TH)
        simp only [World.size_alloc] at this
        exact this)
      have HBB : Hid (Below w4.heap.size w4 ((w4.alloc (.cells #[u8 h.d.a, u8 h.d.b, u8 h.d.c, u8 h.d.d, u8 h.d.e, .string h.a0, .string h.a1, .string h.a2, .string h.a3, .string h.a4, .string h.a5, .string h.a6, .string h.a7, .string h.a8, .string h.a9] TH)).alloc (.cells #[u8 h.d.a, u8 h.d.b, u8 h.d.c, u8 h.d.d, u8 h.d.e, .string h.a0, .string h.a1, .string h.a2, .string h.a3, .string h.a4, .string h.a5, .string h.a6, .string h.a7, .string h.a8, .string h.a9] TH)).drew) := Lib.hid (((Below.refl _ _).alloc (Nat.le_refl _) _).alloc (by simp) _).drew
      go_region
      all_goals
        go_wp2_with (fail)
        go_meet
        first
        | exact ⟨w4.heap.size, w4.heap.size + 1, rfl, rfl, by omega, by omega, by omega, HPP.out, HQQ.out, HBB.out⟩
        | exact ⟨w4.heap.size + 1, w4.heap.size, rfl, rfl, by omega, by omega, by omega, HQQ.out, HPP.out, HBB.out⟩
  case rest =>
    as_aux_lemma =>
      obtain ⟨n3, n4, rfl, rfl, hne, hl3, hl4, h3', h4', hbc⟩ := hcut
      have HL3 : Hid (n3 ≠ n4 ∧ g ≠ n3 ∧ g ≠ n4 ∧ w.heap.size ≤ n3 ∧ w.heap.size ≤ n4) := Lib.hid (by have := HN3.out; omega)
      have H3 : Hid (BoxH h n3 wc) := Lib.hid h3'
      have H4 : Hid (BoxH h n4 wc) := Lib.hid h4'
      have HGG : Hid (BoxH h g wc) := Lib.hid (HX4.out.below hbc)
      have HBB : Hid (Below w.heap.size w wc) := Lib.hid (HB4.out.trans (hbc.mono HB4.out.size))
      clear hne hl3 hl4 h3' h4' hbc HX4
      have L1 : ¬ 9223372036854775807 < vb.size + 1 := by have := N7.out; omega
      have L2 : ¬ 9223372036854775807 < vb.size + 1 + more.size := by have := N7.out; have := HML.out; omega
      have L3 : ¬ 9223372036854775807 < pb.size + 1 := by have := M4.out; omega
      have L4 : ¬ 9223372036854775807 < pb.size + 1 + more.size := by have := M4.out; have := HML.out; omega
      obtain ⟨c0, c1, c2, c3, c4, c5, c6, c7, c8, c9, c10, c11, c12, c13, c14⟩ := H3.out.cells
      obtain ⟨f0, f1, f2, f3, f4, f5, f6, f7, f8, f9, f10, f11, f12, f13, f14⟩ := H3.out.frz
      obtain ⟨W1, hW1⟩ : ∃ W1, W1 = (wc.setCell ⟨n3, 14, none⟩ (.string (vb ++ ⟨#[94]⟩ ++ more))).setCell ⟨n3, 13, none⟩ (.string (pb ++ ⟨#[94]⟩ ++ more)) := ⟨_, rfl⟩
      have HE3 : Hid (BoxH h2 n3 W1) := Lib.hid (by rw [hW1, HH2.out]; have t := (H3.out.set9 (vb ++ ⟨#[94]⟩ ++ more)).set8 (pb ++ ⟨#[94]⟩ ++ more); rw [HH.out] at t; exact t)
      have HE4 : Hid (BoxH h n4 W1) := Lib.hid (by rw [hW1]; exact (H4.out.other (fun e => HL3.out.1 e.symm) _ _).other (fun e => HL3.out.1 e.symm) _ _)
      have HEG : Hid (BoxH h g W1) := Lib.hid (by rw [hW1]; exact (HGG.out.other HL3.out.2.1 _ _).other HL3.out.2.1 _ _)
      have HEB : Hid (Below w.heap.size w W1) := Lib.hid (by rw [hW1]; exact (HBB.out.setCell (p := ⟨n3, 14, none⟩) HL3.out.2.2.2.1 _).setCell (p := ⟨n3, 13, none⟩) HL3.out.2.2.2.1 _)
      obtain ⟨q0, q1, q2, q3, q4, q5, q6, q7, q8, q9, q10, q11, q12, q13, q14⟩ := HEG.out.cells
      rw [hW1] at q0 q1 q2 q3 q4 q5 q6 q7 q8 q9 q10 q11 q12 q13 q14
      have HW1 := Lib.hid hW1
      clear hW1
      go_wp2_with (fail)
      rw [← HW1.out]
      refine (check_ h W1 (HV.out.below HEB.out) HSZ.out.1 HSZ.out.2).mono ?_
      rintro e w5 ⟨rfl, hb5⟩
      rw [K1.out]
      have H35 := Lib.hid (HE3.out.below hb5)
      have H45 := Lib.hid (HE4.out.below hb5)
      have HB5 := Lib.hid (HEB.out.trans (hb5.mono HEB.out.size))
      clear hb5 c0 c1 c2 c3 c4 c5 c6 c7 c8 c9 c10 c11 c12 c13 c14 f0 f1 f2 f3 f4 f5 f6 f7 f8 f9 f10 f11 f12 f13 f14 q0 q1 q2 q3 q4 q5 q6 q7 q8 q9 q10 q11 q12 q13 q14
      obtain ⟨c0, c1, c2, c3, c4, c5, c6, c7, c8, c9, c10, c11, c12, c13, c14⟩ := H35.out.cells
      go_wp2_with (fail)
      refine (check_ h2 w5 (HV.out.below HB5.out) HSZ2.out.1 HSZ2.out.2).mono ?_
      rintro e w6 ⟨rfl, hb6⟩
      rw [K2.out]
      have H46 := Lib.hid (H45.out.below hb6)
      have HB6 := Lib.hid (HB5.out.trans (hb6.mono HB5.out.size))
      clear hb6 c0 c1 c2 c3 c4 c5 c6 c7 c8 c9 c10 c11 c12 c13 c14
      obtain ⟨c0, c1, c2, c3, c4, c5, c6, c7, c8, c9, c10, c11, c12, c13, c14⟩ := H46.out.cells
      obtain ⟨f0, f1, f2, f3, f4, f5, f6, f7, f8, f9, f10, f11, f12, f13, f14⟩ := H46.out.frz
      obtain ⟨W7, hW7⟩ : ∃ W7, W7 = w6.setCell ⟨n4, 14, none⟩ (.string (vb ++ ⟨#[120]⟩)) := ⟨_, rfl⟩
      have H47 : Hid (BoxH h3 n4 W7) := Lib.hid (by rw [hW7, HH3.out]; have t := H46.out.set9 (vb ++ ⟨#[120]⟩); rw [HH.out] at t; exact t)
      have HB7 : Hid (Below w.heap.size w W7) := Lib.hid (by rw [hW7]; exact HB6.out.setCell (p := ⟨n4, 14, none⟩) HL3.out.2.2.2.2 _)
      obtain ⟨q0, q1, q2, q3, q4, q5, q6, q7, q8, q9, q10, q11, q12, q13, q14⟩ := H47.out.cells
      rw [hW7] at q0 q1 q2 q3 q4 q5 q6 q7 q8 q9 q10 q11 q12 q13 q14
      have HW7 := Lib.hid hW7
      clear hW7
      go_wp2_with (fail)
      rw [← HW7.out]
      refine (check_ h3 W7 (HV.out.below HB7.out) HSZ3.out.1 HSZ3.out.2).mono ?_
      rintro e w8 ⟨rfl, hb8⟩
      rw [K3.out]
      have H48 := Lib.hid (H47.out.below hb8)
      have HB8 := Lib.hid (HB7.out.trans (hb8.mono HB7.out.size))
      clear hb8 c0 c1 c2 c3 c4 c5 c6 c7 c8 c9 c10 c11 c12 c13 c14 f0 f1 f2 f3 f4 f5 f6 f7 f8 f9 f10 f11 f12 f13 f14 q0 q1 q2 q3 q4 q5 q6 q7 q8 q9 q10 q11 q12 q13 q14
      obtain ⟨c0, c1, c2, c3, c4, c5, c6, c7, c8, c9, c10, c11, c12, c13, c14⟩ := H48.out.cells
      obtain ⟨f0, f1, f2, f3, f4, f5, f6, f7, f8, f9, f10, f11, f12, f13, f14⟩ := H48.out.frz
      obtain ⟨W9, hW9⟩ : ∃ W9, W9 = w8.setCell ⟨n4, 14, none⟩ (.string ⟨#[]⟩) := ⟨_, rfl⟩
      have H49 : Hid (BoxH h4 n4 W9) := Lib.hid (by rw [hW9, HH4.out]; have t := H48.out.set9 ⟨#[]⟩; rw [HH3.out] at t; exact t)
      have HB9 : Hid (Below w.heap.size w W9) := Lib.hid (by rw [hW9]; exact HB8.out.setCell (p := ⟨n4, 14, none⟩) HL3.out.2.2.2.2 _)
      obtain ⟨q0, q1, q2, q3, q4, q5, q6, q7, q8, q9, q10, q11, q12, q13, q14⟩ := H49.out.cells
      rw [hW9] at q0 q1 q2 q3 q4 q5 q6 q7 q8 q9 q10 q11 q12 q13 q14
      have HW9 := Lib.hid hW9
      clear hW9
      go_wp2_with (fail)
      rw [← HW9.out]
      refine (check_ h4 W9 (HV.out.below HB9.out) HSZ4.out.1 HSZ4.out.2).mono ?_
      rintro e w10 ⟨rfl, hb10⟩
      rw [K4.out]
      have H410 := Lib.hid (H49.out.below hb10)
      have HB10 := Lib.hid (HB9.out.trans (hb10.mono HB9.out.size))
      clear hb10 c0 c1 c2 c3 c4 c5 c6 c7 c8 c9 c10 c11 c12 c13 c14 f0 f1 f2 f3 f4 f5 f6 f7 f8 f9 f10 f11 f12 f13 f14 q0 q1 q2 q3 q4 q5 q6 q7 q8 q9 q10 q11 q12 q13 q14
      obtain ⟨c0, c1, c2, c3, c4, c5, c6, c7, c8, c9, c10, c11, c12, c13, c14⟩ := H410.out.cells
      obtain ⟨f0, f1, f2, f3, f4, f5, f6, f7, f8, f9, f10, f11, f12, f13, f14⟩ := H410.out.frz
      obtain ⟨W11, hW11⟩ : ∃ W11, W11 = (w10.setCell ⟨n4, 14, none⟩ (.string vb)).setCell ⟨n4, 13, none⟩ (.string ⟨#[80, 68]⟩) := ⟨_, rfl⟩
      have H411 : Hid (BoxH h5 n4 W11) := Lib.hid (by rw [hW11, HH5.out]; have t := (H410.out.set9 vb).set8 ⟨#[80, 68]⟩; rw [HH4.out] at t; exact t)
      have HB11 : Hid (Below w.heap.size w W11) := Lib.hid (by rw [hW11]; exact (HB10.out.setCell (p := ⟨n4, 14, none⟩) HL3.out.2.2.2.2 _).setCell (p := ⟨n4, 13, none⟩) HL3.out.2.2.2.2 _)
      obtain ⟨q0, q1, q2, q3, q4, q5, q6, q7, q8, q9, q10, q11, q12, q13, q14⟩ := H411.out.cells
      rw [hW11] at q0 q1 q2 q3 q4 q5 q6 q7 q8 q9 q10 q11 q12 q13 q14
      have HW11 := Lib.hid hW11
      clear hW11
      go_wp2_with (fail)
      rw [← HW11.out]
      refine (check_ h5 W11 (HV.out.below HB11.out) HSZ5.out.1 HSZ5.out.2).mono ?_
      rintro e w12 ⟨rfl, hb12⟩
      rw [K5.out]
      have HB12 := Lib.hid (HB11.out.trans (hb12.mono HB11.out.size))
      clear hb12 c0 c1 c2 c3 c4 c5 c6 c7 c8 c9 c10 c11 c12 c13 c14 f0 f1 f2 f3 f4 f5 f6 f7 f8 f9 f10 f11 f12 f13 f14 q0 q1 q2 q3 q4 q5 q6 q7 q8 q9 q10 q11 q12 q13 q14
      go_wp2_with (fail)
      go_ret
      exact ⟨rfl, HB12.out⟩
end Go.Proofs.YtodgcmjdnfbegaaDoor
