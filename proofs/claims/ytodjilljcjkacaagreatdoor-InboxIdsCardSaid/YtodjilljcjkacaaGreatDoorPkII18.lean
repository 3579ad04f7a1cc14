/- Laid together: In7, Txt, FrameWrapO, In8, In9, In10, Rws, In11, In13, CodesI, DfBk. -/
import Derived.Test.YtodjilljcjkacaaGreatDoorPkII17
import Derived.Laws.Tables

/- Layer 17: New and the smaller methods, walked. -/
namespace Go.Proofs.YtodjilljcjkacaaGreatDoor
open Go.RowKit Go.MapKept

theorem Df.baseL {B B' D most : Nat} {O : Option Nat} {s : St} {w : World} (h : Df B' D O most s w) (hB : B ≤ B') : Df B D O most s w := by
  obtain ⟨fv, e, hne, h1, ho, hd⟩ := h
  exact ⟨fv, e, hne, Nat.le_trans hB h1, ⟨ho.1, ho.2.imp id (fun ⟨g, cap, cur, e, h1, h2⟩ => ⟨g, cap, cur, e, Nat.le_trans hB h1, h2⟩)⟩, hd⟩
set_option maxRecDepth 100000
set_option maxHeartbeats 2000000
section
variable {Z : Nat → Prop} {w : World} {B D M L Q X g sn kp most : Nat} {O : Option Nat} {d : Dk} {F : List Ent} {T : List (List UInt8)} {v va : Value} {s : St} {an : List (List UInt8)}
theorem inNew (hd : DkAt w B D M d F) (hl : LgAt Z w B L D M F nmI T g v) (m : Nat) (h0 : 1 ≤ m) (h1 : m ≤ 65536) (hBw : B ≤ w.heap.size) (hZ : ∀ k, Z k → k < w.heap.size ∧ ¬ LT L D M F k) :
    Calls Tryz.prog 33 #[pL L, .int .i64 m] w fun e w' => ∃ X Q, e = .returned (.tuple #[pI X, .int .i64 0]) ∧ IB Z w' B D M L Q X none d F T g v m newS (.slice none 0 0) [] 0 0 ∧ Below w.heap.size w w' ∧ w.heap.size ≤ X := by
  have HD := Lib.hid hd
  have HL := Lib.hid hl
  have HBW := Lib.hid hBw
  have HZ := Lib.hid hZ
  clear hd hl hBw hZ
  go_enter Tryz.func33, Tryz.ntmps33
  go_wp2_with (fail)
  refine (dNew m h0 h1 w).mono ?_
  rintro e w1 ⟨Q, rfl, hdf, hb1⟩
  have HF := Lib.hid hdf
  have HB1 := Lib.hid hb1
  clear hdf hb1
  go_wp2_with (fail)
  refine bodyPost_ret (v := .tuple #[pI w1.heap.size, .int .i64 0]) (by simp [results, Tryz.results33, go_sem]) rfl ⟨w1.heap.size, Q, rfl, ?_, HB1.out.alloc HB1.out.size _, HB1.out.size⟩
  have hb2 : Below w1.heap.size w1 (w1.alloc (.cells (ibCells Q L (.slice none 0 0) 0 0) TIB)) := (Below.refl _ _).alloc (Nat.le_refl _) _
  have hq : w.heap.size ≤ Q ∧ Q < w1.heap.size := ⟨HF.out.base, HF.out.lt⟩
  have hd1 := HD.out.below HB1.out
  have hft : ∀ k, WFoot L D M F v k → k < w.heap.size := fun k hk => (HL.out.foot_lt HD.out hk).2
  refine ⟨hd1.below hb2, ?_, (HF.out.baseL HBW.out).below hb2, heap_alloc_new w1 _, Nat.le_trans HBW.out HB1.out.size, Rw.nil _ _ _, fun k hk hw => ?_, fun k hk => ?_⟩
  · refine ((HL.out.widen (fun k hk => ?_)).below HB1.out).below hb2
    rcases hk with hk | hk | (hk | hk) | hk
    · exact .inl hk
    · exact .inr (by have := HB1.out.size; omega)
    · exact .inr (by omega)
    · cases hk
    · cases hk
  · have := hft k hw
    rcases hk with hk | hk
    · omega
    · cases hk
  · obtain ⟨h3, h4⟩ := HZ.out k hk
    have := HB1.out.size
    refine ⟨by simp; omega, by omega, fun hk2 => ?_, h4⟩
    rcases hk2 with hk2 | hk2
    · omega
    · cases hk2
theorem inSeen (h : IB Z w B D M L Q X O d F T g v most s va an sn kp) : Calls Tryz.prog 29 #[pI X] w fun e w' => e = .returned (.int .i64 (sn : Int)) ∧ w' = w := by
  have c := h.cell 3
  simp only [List.getElem?_toArray, List.getElem?_cons_zero, List.getElem?_cons_succ] at c
  clear h
  go_enter Tryz.func29, Tryz.ntmps29
  go_wp2_with (fail)
  go_ret
  exact ⟨rfl, rfl⟩
theorem inKept (h : IB Z w B D M L Q X O d F T g v most s va an sn kp) : Calls Tryz.prog 30 #[pI X] w fun e w' => e = .returned (.int .i64 (kp : Int)) ∧ w' = w := by
  have c := h.cell 4
  simp only [List.getElem?_toArray, List.getElem?_cons_zero, List.getElem?_cons_succ] at c
  clear h
  go_enter Tryz.func30, Tryz.ntmps30
  go_wp2_with (fail)
  go_ret
  exact ⟨rfl, rfl⟩
theorem inTake (h : IB Z w B D M L Q X O d F T g v most s va an sn kp) : Calls Tryz.prog 19 #[pI X] w fun e w' => e = .returned va ∧ IB Z w' B D M L Q X O d F T g v most s (.slice none 0 0) [] sn kp ∧ Rw B (fun k => Z k ∨ FI L D M Q X O F v (.slice none 0 0) k) w' va an ∧ Ch (At1 X) w w' := by
  have c := h.cell 2
  have f := h.frozen 2
  simp only [List.getElem?_toArray, List.getElem?_cons_zero, List.getElem?_cons_succ] at c
  have H := Lib.hid h
  clear h
  go_enter Tryz.func19, Tryz.ntmps19
  obtain ⟨Av, cv, rfl⟩ := H.out.an.form
  obtain ⟨na, hna⟩ : ∃ na, na = an.length := ⟨_, rfl⟩
  have HNA := Lib.hid hna
  rw [← hna] at c H ⊢
  clear hna
  go_wp2_with (fail)
  go_ret
  obtain ⟨h1, h2⟩ := H.out.taken
  refine ⟨rfl, h1, ?_, h2⟩
  exact (H.out.an.ch h2 (fun k _ hk => .inr (.inl hk)) (fun k _ hk => by
    rcases hk with hk | hk | hk | hk | hk
    · exact .inl hk
    · exact .inr (.inl hk)
    · exact .inr (.inr (.inl hk))
    · exact .inr (.inr (.inr hk))
    · cases hk))
end
end Go.Proofs.YtodjilljcjkacaaGreatDoor
/- Sums of texts, and their bytes, in one step each. -/
namespace Go.Proofs.YtodjilljcjkacaaGreatDoor
open Go.RowKit

theorem addT (X Y : List UInt8) (h : X.length + Y.length ≤ 9223372036854775807) (W : World) : (binOp .add 9 (.string (txt X)) (.string (txt Y))).run Tryz.prog W = .ok (.string (txt (X ++ Y))) W := by
  rw [add_run _ _ (by simp only [txt_size]; omega) W, txt_app]
theorem wpList_addT {ops : Array Oper} {rest : List Oper} {dst : Option Tmp} {x y : Operand} {tb ty : TypeId} {pos : String} {af} {a : Act} {w : World} {Q : Exit → Act → World → Prop}
    (X Y Z : List UInt8) (hZ : Hid (Z = X ++ Y)) (hx : a.eval x = .string (txt X)) (hy : a.eval y = .string (txt Y)) (h : Z.length ≤ 9223372036854775807)
    (next : wpList Tryz.prog ops Q rest (a.put dst (str Z)) w) : wpList Tryz.prog ops Q ((⟨dst, .binOp .add 9 x y tb, ty, pos, af, none⟩ : Oper) :: rest) a w :=
  wpList_plain rfl fun K hK => by
    obtain rfl : Z = X ++ Y := hZ
    unfold Oper.wp execOp
    simp only [hx, hy]
    simp [eqGuard, addT X Y (by rw [List.length_append] at h; exact h) w, Result.andThen, Oper.upon]
    exact hK _ _ next
theorem wpList_convT {ops : Array Oper} {rest : List Oper} {dst : Option Tmp} {x : Operand} {ty : TypeId} {pos : String} {af} {a : Act} {w : World} {Q : Exit → Act → World → Prop}
    (l : List UInt8) (N g : Nat) (hx : a.eval x = .string (txt l)) (hN : l.length = N) (hl : N ≤ maxLen) (hg : w.heap.size = g)
    (next : ∀ cap W, Hid (Conv W g N cap g l) → Below w.heap.size w W → wpList Tryz.prog ops Q rest (a.put dst (.slice (some ⟨g, 0, none⟩) N cap)) W) : wpList Tryz.prog ops Q ((⟨dst, .convert 9 40 x, ty, pos, af, none⟩ : Oper) :: rest) a w := by
  subst hg
  obtain ⟨cap, W, hrun, hC, hb⟩ := conv_list (P := Tryz.prog) w 9 40 5 l N Tryz.underlying9 Tryz.underlying40 Tryz.underlying5 hN hl
  refine wpList_plain rfl fun K hK => ?_
  unfold Oper.wp execOp
  simp only [hx]
  simp [hrun, Result.andThen, Oper.upon]
  exact hK _ _ (next cap W (Lib.hid hC) hb)
end Go.Proofs.YtodjilljcjkacaaGreatDoor
/- Layer 4: Wrap, its frame in memory of the call's own. -/
namespace Go.Proofs.YtodjilljcjkacaaGreatDoor
open Go.RowKit

/-- bytes in memory of the call's own, that may be added to -/
def RetOwnW (l : List UInt8) (w : World) (e : Ending) (w' : World) : Prop := ∃ v, e = .returned (.tuple #[v, .int .i64 0]) ∧ Own 5 w' w.heap.size v l ∧ Below w.heap.size w w'
theorem Own.baseL {E : TypeId} {B B' : Nat} {w : World} {v : Value} {l : List UInt8} (h : Own E w B' v l) (hB : B ≤ B') : Own E w B v l :=
  ⟨h.1, h.2.imp id (fun ⟨g, cap, cur, e, h1, h2⟩ => ⟨g, cap, cur, e, Nat.le_trans hB h1, h2⟩)⟩
set_option maxRecDepth 100000 in
theorem frameWrap_own (A : Option Addr) (n c : Nat) (l : List UInt8) (w : World) (hS : Signs w) (hB : Bs w A n c l) (hg : good l = true) (hn : n ≤ 140737488351232) :
    Calls Tryz.prog 38 #[.slice A n c] w (RetOwnW (11 :: (l ++ [28, 13])) w) := by
  have hgo := Lib.hid (frameGood_b A n c l w hS hB true hg)
  have hmk : ∀ W : World, (Instr.makeSlice 40 (.int .i64 0) (.int .i64 ((n : Int) + 3))).run Tryz.prog W = .ok (.slice (some ⟨W.heap.size, 0, none⟩) 0 (n + 3)) (W.alloc (.cells (Array.replicate (n + 3) (.int .u8 0)) 5)) := by
    intro W
    rw [show ((n : Int) + 3) = ((n + 3 : Nat) : Int) from by omega]
    exact run_mk _ _ Tryz.underlying40 byteInfoF 0 (n + 3) (by omega) (by omega) W
  have HS := Lib.hid hS
  have HB := Lib.hid hB
  have HL : l.length ≤ n := by have := hB.len; omega
  have tok1 : True := trivial
  have tok2 : True := trivial
  have tok3 : True := trivial
  clear hS hB hg
  go_enter Tryz.func38, Tryz.ntmps38
  go_wp2_with (first
    | (go_at_call 68; refine (hgo.out).mono ?_; rintro e w1 ⟨rfl, hb1⟩
       have S1 := Lib.hid (HS.out.below hb1)
       have B1 := Lib.hid (HB.out.below hb1)
       obtain ⟨s0, s1, s2⟩ := HS.out.below hb1
       have hsz1 : 0 < w1.heap.size := World.block_lt_of_cell? w1 _ s0)
    | (go_at_call 69; refine (frameCount _ (by omega) (by omega) _).mono ?_; rintro e w' ⟨rfl, rfl⟩)
    | (at_builtin; have _t := tok1
       go_loud (refine wpList_app rfl (.tmp 12) (.tmp 15) 40 rfl w1.heap.size 5 Tryz.underlying40 byteInfoF _ [] rfl ((Own.made 5 w1 (Array.replicate (n + 3) (.int .u8 0)) (n + 3) (Nat.le_refl _) (by simp only [maxLen]; omega) (by simp)).alloc _) _ 1 1 [11] rfl (Bs.lit _ [11] 5 _ _ (by simp) rfl rfl (by simp [maxLen])) (by simp) (by simp; omega) ?_)
       intro v2 w2 hown2 hb2 hg2
       have b12 : Below w1.heap.size w1 w2 := (((Below.refl _ _).alloc (Nat.le_refl _) _).alloc (by simp) _).trans hb2
       clear tok1 hb2 hg2 _t)
    | (at_builtin; have _t := tok2
       go_loud (refine wpList_app rfl (.tmp 17) (.tmp 18) 40 rfl w1.heap.size 5 Tryz.underlying40 byteInfoF _ _ rfl hown2 _ n c l rfl (B1.out.below b12) (by simp; omega) b12.size ?_)
       intro v3 w3 hown3 hb3 hg3
       have b13 := b12.trans hb3
       clear tok2 hb3 hg3 _t
       obtain ⟨s03, s13, s23⟩ := S1.out.below b13)
    | (at_builtin; have _t := tok3
       go_loud (refine wpList_app rfl (.tmp 20) (.tmp 25) 40 rfl w1.heap.size 5 Tryz.underlying40 byteInfoF _ _ rfl (hown3.alloc _) _ 2 2 [28, 13] rfl (Bs.lit _ [28, 13] 5 _ _ (by simp) rfl rfl (by simp [maxLen])) (by simp; omega) (by have := b13.size; simp; omega) ?_)
       intro v4 w4 hown4 hb4 hg4
       have b14 : Below w1.heap.size w1 w4 := (b13.alloc b13.size _).trans hb4
       clear tok3 hb4 hg4 _t))
  go_ret2
  have hl4 : ([] ++ [11] ++ l ++ [28, 13] : List UInt8) = 11 :: (l ++ [28, 13]) := by simp
  rw [hl4] at hown4
  exact ⟨v4, rfl, hown4.baseL hb1.size, hb1.trans (b14.mono hb1.size)⟩
end Go.Proofs.YtodjilljcjkacaaGreatDoor
/- Layer 17: the law's own small functions: right, begin, room, most. -/
namespace Go.Proofs.YtodjilljcjkacaaGreatDoor
open Go.RowKit Go.MapKept

abbrev preR : List UInt8 := [77, 83, 72, 124, 94, 126, 92, 38, 124, 124, 124, 124, 124, 124, 124, 65, 68, 84, 124]
abbrev sufR : List UInt8 := [124, 80, 124, 50, 46, 53, 13]
def rightD (y : List UInt8) : List UInt8 := preR ++ y ++ sufR
theorem rightD_len (y : List UInt8) : (rightD y).length = y.length + 26 := by simp [rightD]
set_option maxRecDepth 100000
set_option maxHeartbeats 2000000
theorem right17 (y : List UInt8) (hy : y.length ≤ 1000000) (w : World) : Calls Tryz.prog 39 #[.string (txt y)] w fun e w' => ∃ b c, e = .returned (.slice (some ⟨b, 0, none⟩) (rightD y).length c) ∧ Bs w' (some ⟨b, 0, none⟩) (rightD y).length c (rightD y) ∧ w.heap.size ≤ b ∧ Below w.heap.size w w' := by
  obtain ⟨Z1, hZ1⟩ : ∃ Z1, Z1 = preR ++ y := ⟨_, rfl⟩
  have HZ1 := Lib.hid hZ1
  have HZ2 : Hid (rightD y = Z1 ++ sufR) := Lib.hid (by rw [hZ1]; rfl)
  have HL1 : Hid (Z1.length ≤ 2000000) := Lib.hid (by rw [hZ1]; simp; omega)
  have HL2 : Hid ((rightD y).length ≤ 2000000) := Lib.hid (by rw [rightD_len]; omega)
  obtain ⟨Z2, hZ2⟩ : ∃ Z2, Z2 = rightD y := ⟨_, rfl⟩
  rw [← hZ2] at HZ2 HL2 ⊢
  obtain ⟨N, hN⟩ : ∃ N, Z2.length = N := ⟨_, rfl⟩
  have HN := Lib.hid hN
  rw [hN] at HL2 ⊢
  clear hZ1 hZ2 hy hN
  go_enter Tryz.func39, Tryz.ntmps39
  have tok1 : Hid True := Lib.hid trivial
  go_wp2_with (first | (with_reducible refine wpList_addT (dst := some 4) preR y Z1 HZ1 (by kernel_rfl) (by kernel_rfl) (by have := HL1.out; omega) ?_) | (with_reducible refine wpList_addT (dst := some 5) Z1 sufR Z2 HZ2 (by kernel_rfl) (by kernel_rfl) (by have := HN.out; have := HL2.out; omega) ?_) | (have _t := tok1; with_reducible refine wpList_convT Z2 N w.heap.size (by kernel_rfl) HN.out (by have := HL2.out; simp only [maxLen]; omega) rfl ?_; intro cap5 W5 HC5 hbv5; have HBV5 := Lib.hid hbv5; clear tok1 hbv5 _t))
  go_ret
  exact ⟨w.heap.size, cap5, rfl, HC5.out.bs, Nat.le_refl _, HBV5.out⟩
theorem begin17 (n : Int) (hn : 0 ≤ n ∧ n ≤ 1073741824) (m : Nat) (h0 : 1 ≤ m) (h1 : m ≤ 65536) (w : World) : Calls Tryz.prog 10 #[.int .i64 n, .int .i64 m] w fun e w' => ∃ D M L Q X v, e = .returned (.tuple #[pD D, pL L, pI X]) ∧
    IB (fun k => k < w.heap.size) w' w.heap.size D M L Q X none ⟨n, 0, 0, 0, 0, 0⟩ [] [] 0 v m newS (.slice none 0 0) [] 0 0 ∧ Below w.heap.size w w' := by
  go_enter Tryz.func10, Tryz.ntmps10
  go_wp2_with (fail)
  refine (dkNew n hn w).mono ?_
  rintro e w1 ⟨D, M, rfl, hd1, hb1⟩
  have HD1 := Lib.hid hd1
  have HB1 := Lib.hid hb1
  clear hd1 hb1
  go_wp2_with (fail)
  refine (walOpen_new (E := fun k => k < w.heap.size) hn HD1.out nmI (by decide) nameL HB1.out.size (fun k hk => Nat.lt_of_lt_of_le hk HB1.out.size)).mono ?_
  rintro e w2 ⟨L, v, rfl, hl2, hd2, hc2, _, _⟩
  have HB2 := Lib.hid (HB1.out.trans (hc2.below HD1.out HB1.out.size))
  have HL2 := Lib.hid hl2
  have HD2 := Lib.hid hd2
  clear hl2 hd2 hc2 HD1 HB1
  go_wp2_with (fail)
  refine (inNew HD2.out HL2.out m h0 h1 HB2.out.size (fun k hk => ⟨Nat.lt_of_lt_of_le hk HB2.out.size, fun hl => by have := (HL2.out.foot_lt HD2.out (.inl hl)).1; omega⟩)).mono ?_
  rintro e w3 ⟨X, Q, rfl, hi, hb3, _⟩
  have HI := Lib.hid hi
  have HB3 := Lib.hid (HB2.out.trans (hb3.mono HB2.out.size))
  clear hi hb3 HL2 HD2 HB2
  go_wp2_with (fail)
  exact bodyPost_ret (v := .tuple #[pD D, pL L, pI X]) (by simp [results, Tryz.results10, go_sem]) rfl ⟨D, M, L, Q, X, v, rfl, HI.out, HB3.out⟩
end Go.Proofs.YtodjilljcjkacaaGreatDoor
/- Layer 17: the document's example, walked. -/
namespace Go.Proofs.YtodjilljcjkacaaGreatDoor
open Go.RowKit Go.MapKept

abbrev m7 : List UInt8 := rightD [55]
abbrev m0 : List UInt8 := rightD []
abbrev mx : List UInt8 := [120, 121, 122]
abbrev fr (l : List UInt8) : List UInt8 := 11 :: (l ++ [28, 13])
theorem ex_feed : (feedD 500 newS (fr m7 ++ fr m0 ++ fr mx)).2 = [m7, m0, mx] := by decide +kernel
theorem ex_v7 : (verdictD m7).2.1 = cB 0 := by decide +kernel
theorem ex_v0 : (verdictD m0).2.1 ≠ cB 0 := by decide +kernel
theorem ex_vx : (verdictD mx).2.1 ≠ cB 0 := by decide +kernel
theorem ex_r7 : (replyD m7 true).2 = true := by decide +kernel
theorem ex_r0 : (replyD m0 false).2 = true := by decide +kernel
theorem ex_rx : (replyD mx false).2 = false := by decide +kernel
theorem ex_g7 : good m7 = true := by decide +kernel
theorem ex_g0 : good m0 = true := by decide +kernel
theorem ex_gx : good mx = true := by decide +kernel
theorem ex_run : (feedM ⟨1000, 0, 0, 0, 0, 0⟩ (fsOf []) [] 0 0 [] [m7, m0, mx]).r = .inl 0 ∧ (feedM ⟨1000, 0, 0, 0, 0, 0⟩ (fsOf []) [] 0 0 [] [m7, m0, mx]).kp = 1 ∧ (feedM ⟨1000, 0, 0, 0, 0, 0⟩ (fsOf []) [] 0 0 [] [m7, m0, mx]).La.length = 2 ∧ (feedM ⟨1000, 0, 0, 0, 0, 0⟩ (fsOf []) [] 0 0 [] [m7, m0, mx]).T.length = 1 := by
  have h7 : (keepD ⟨1000, 0, 0, 0, 0, 0⟩ (fsOf []) 0 m7).1 = .inl 0 := by
    unfold keepD
    rw [if_pos ex_v7]
    rcases (addD_plain (newW_plain 1000 nmI) nameL m7 (by decide +kernel)).2 with h | h
    · exact h.2.1
    · have h1 := h.1
      rw [record_length, rightD_len] at h1
      have : (recs []).length = 0 := rfl
      rw [this] at h1
      exact absurd h1 (by decide)
  have hk0 : ∀ d fs g, keepD d fs g m0 = (.inl 1, d, fs) := fun d fs g => if_neg ex_v0
  have hkx : ∀ d fs g, keepD d fs g mx = (.inl 1, d, fs) := fun d fs g => if_neg ex_vx
  have a7 : (ansD m7 (.inl 0)).length = 1 := by
    have e : ansD m7 (.inl 0) = [(replyD m7 true).1] := by
      show (if (replyD m7 true).2 = true then [(replyD m7 true).1] else []) = _
      rw [if_pos ex_r7]
    rw [e]; rfl
  have a0 : (ansD m0 (.inl 1)).length = 1 := by
    have e : ansD m0 (.inl 1) = [(replyD m0 false).1] := by
      show (if (replyD m0 false).2 = true then [(replyD m0 false).1] else []) = _
      rw [if_pos ex_r0]
    rw [e]; rfl
  have ax : (ansD mx (.inl 1)).length = 0 := by
    have e : ansD mx (.inl 1) = [] := by
      show (if (replyD mx false).2 = true then [(replyD mx false).1] else []) = _
      rw [if_neg (by rw [ex_rx]; decide)]
    rw [e]; rfl
  simp only [feedM, h7, hk0, hkx]
  refine ⟨by simp, by simp, ?_, by simp⟩
  simp [List.length_append, a7, a0, ax]
set_option maxRecDepth 100000
set_option maxHeartbeats 8000000
theorem alive17 (w : World) (hG : ∀ W, Below w.heap.size w W → Vers W ∧ Signs W ∧ Cds W) : Calls Tryz.prog 8 #[] w (True_ w) := by
  have HG := Lib.hid hG
  clear hG
  have hcv := fun w C n c => Lib.run_convert_bytes_const (P := Tryz.prog) w 40 5 C n c Tryz.underlying40 Tryz.underlying5
  go_enter Tryz.func8, Tryz.ntmps8
  go_wp2_with (fail)
  refine (begin17 1000 (by decide) 500 (by decide) (by decide) w).mono ?_
  rintro e w1 ⟨D, M, L, Q, X, v, rfl, hi, hb1⟩
  have HI1 := Lib.hid hi
  have HB1 := Lib.hid hb1
  clear hi hb1
  go_wp2_with (fail)
  refine (right17 [55] (by decide) w1).mono ?_
  rintro e w2 ⟨b2, c2, rfl, hs2, _, hb2⟩
  have HS2 := Lib.hid hs2
  have HB2 := Lib.hid (HB1.out.trans (hb2.mono HB1.out.size))
  have HI2 := Lib.hid (HI1.out.below hb2)
  have HZ2 : Hid (w1.heap.size ≤ w2.heap.size) := Lib.hid hb2.size
  have HFL : Hid (∀ k, FI L D M Q X none [] v (.slice none 0 0) k → k < w1.heap.size) := Lib.hid (fun k hk => (HI1.out.foot_lt hk).2)
  clear hs2 hb2 HI1
  go_wp2_with (fail)
  refine (frameWrap_own _ _ _ _ w2 (HG.out w2 HB2.out).2.1 HS2.out ex_g7 (by decide)).mono ?_
  rintro e w3 ⟨v3, rfl, ho3, hb3⟩
  have HO3 := Lib.hid ho3
  have HC3 := Lib.hid hb3
  have HV3 : Hid (∀ k, v3.ownBlock = some k → k < w3.heap.size) := Lib.hid (fun k hk => (World.ownsRow.lt ho3 k hk).2)
  clear ho3 hb3 HS2
  go_wp2_with (fail)
  refine (right17 [] (by decide) w3).mono ?_
  rintro e w4 ⟨b4, c4, rfl, hs4, _, hb4⟩
  have HS4 := Lib.hid hs4
  have HC4 := Lib.hid (HC3.out.trans (hb4.mono HC3.out.size))
  have HO4 := Lib.hid (HO3.out.below hb4)
  have HD4 : Hid (w3.heap.size ≤ w4.heap.size) := Lib.hid hb4.size
  clear hs4 hb4 HO3 HC3
  go_wp2_with (fail)
  refine (frameWrap_own _ _ _ _ w4 (HG.out w4 (HB2.out.trans (HC4.out.mono HB2.out.size))).2.1 HS4.out ex_g0 (by decide)).mono ?_
  rintro e w5 ⟨v5, rfl, ho5, hb5⟩
  have HO5 := Lib.hid ho5
  have HC5 := Lib.hid (HC4.out.trans (hb5.mono HC4.out.size))
  have HP5 := Lib.hid (HO4.out.below hb5)
  have HD5 : Hid (w3.heap.size ≤ w5.heap.size) := Lib.hid (Nat.le_trans HD4.out hb5.size)
  clear ho5 hb5 HS4 HO4 HD4 HC4
  have hb6 : Below w5.heap.size w5 (w5.alloc (.cells #[.int .u8 120, .int .u8 121, .int .u8 122] 5 (3, 4))) := (Below.refl _ _).alloc (Nat.le_refl _) _
  have HC6 := Lib.hid (HC5.out.trans (hb6.mono HC5.out.size))
  have HO6 := Lib.hid (HO5.out.below hb6)
  have HP6 := Lib.hid (HP5.out.below hb6)
  have HS6 : Hid (Bs (w5.alloc (.cells #[.int .u8 120, .int .u8 121, .int .u8 122] 5 (3, 4))) (some ⟨w5.heap.size, 0, none⟩) 3 3 mx) := Lib.hid (Bs.litText w5 [120, 121, 122] 5 _ _ _ _ rfl rfl rfl (by simp [maxLen]))
  have HD6 : Hid (w3.heap.size ≤ (w5.alloc (.cells #[.int .u8 120, .int .u8 121, .int .u8 122] 5 (3, 4))).heap.size) := Lib.hid (Nat.le_trans HD5.out hb6.size)
  clear hb6 HO5 HP5 HC5 HD5
  go_wp2_with (fail)
  refine (frameWrap_own _ _ _ _ _ (HG.out _ (HB2.out.trans (HC6.out.mono HB2.out.size))).2.1 HS6.out ex_gx (by decide)).mono ?_
  rintro e w7 ⟨v7, rfl, ho7, hb7⟩
  have HC7 := Lib.hid (HC6.out.trans (hb7.mono HC6.out.size))
  have HP7 := Lib.hid (HO6.out.below hb7)
  have HR7 := Lib.hid (HP6.out.below hb7)
  obtain ⟨A5, c5, e5, hs5, _⟩ := HP7.out.bs
  obtain ⟨A7, c7, e7, hs7, hlo7⟩ := ho7.bs
  rw [show (11 :: (rightD [] ++ [28, 13]) : List UInt8).length = 29 from by decide +kernel] at e5 hs5
  rw [show (11 :: (mx ++ [28, 13]) : List UInt8).length = 6 from by decide +kernel] at e7 hs7
  subst e5 e7
  have HS5 := Lib.hid hs5
  have HS7 := Lib.hid hs7
  have HN7 : Hid (∀ b, A7 = some b → ¬ v3.ownBlock = some b.block) := Lib.hid (fun b hb hk => by
    have h1 := hlo7 b hb
    have h2 := HV3.out _ hk
    have h3 := HD6.out
    omega)
  clear hs5 hs7 HP7 ho7 hb7 hlo7 HO6 HP6 HS6 HC6 HD6 HV3
  have tok1 : Hid True := Lib.hid trivial
  have tok2 : Hid True := Lib.hid trivial
  go_wp2_with (first
    | (at_builtin; have _t := tok1; go_loud ((refine wpList_app rfl (.tmp 35) (.tmp 36) 40 rfl w2.heap.size 5 Tryz.underlying40 byteInfoF v3 (fr m7) rfl HR7.out A5 29 c5 (fr m0) rfl HS5.out (by decide +kernel) HC7.out.size ?_; intro v8 w8 ho8 hb8 hg8; have HO8 := Lib.hid ho8; have HC8 := Lib.hid (HC7.out.trans hb8); have HS8 := Lib.hid (HS7.out.ch (Ch.of_grown (S := fun k => v3.ownBlock = some k) hg8 (fun k hk => hk)) (fun _ b hb hk => HN7.out b hb hk)); clear tok1 ho8 hb8 hg8 _t)))
    | (at_builtin; have _t := tok2; go_loud ((refine wpList_app rfl (.tmp 37) (.tmp 38) 40 rfl w2.heap.size 5 Tryz.underlying40 byteInfoF v8 (fr m7 ++ fr m0) rfl HO8.out A7 6 c7 (fr mx) rfl HS8.out (by decide +kernel) HC8.out.size ?_; intro v9 w9 ho9 hb9 hg9; have HO9 := Lib.hid ho9; have HC9 := Lib.hid (HC8.out.trans hb9); clear tok2 ho9 hb9 hg9 _t))))
  obtain ⟨A9, c9, e9, hs9, hlo9⟩ := HO9.out.bs
  rw [show (fr m7 ++ fr m0 ++ fr mx : List UInt8).length = 65 from by decide +kernel] at e9 hs9
  subst e9
  have HB9 := Lib.hid (HB2.out.trans (HC9.out.mono HB2.out.size))
  have hF := mFeed (HI2.out.below HC9.out) A9 65 c9 0 _ hs9 (fun _ b hb hk => by have := hlo9 b hb; have := HFL.out _ hk; have := HZ2.out; omega) (by decide) ⟨Nat.le_refl _, Nat.le_refl _, Nat.le_refl _, Nat.zero_le _⟩ (by decide) (by decide) (fun W hb => HG.out W (HB9.out.trans hb)) (newW_ok 1000 (by decide)) (by show (0 : Int) + 3 * 65 + 8 ≤ _; decide) (by decide) (by decide) (by decide) (by decide) (by decide) HB9.out.size
  rw [ex_feed] at hF
  refine hF.mono ?_
  rintro e w10 ⟨F', v', va', O', he, hfs, hi10, hic10⟩
  obtain ⟨e1, e2, e3, e4⟩ := ex_run
  generalize feedM ⟨1000, 0, 0, 0, 0, 0⟩ (fsOf []) [] 0 0 [] [m7, m0, mx] = R at *
  have HB10 : Hid (Below w.heap.size w w10) := Lib.hid (HB9.out.trans (hic10.ch.below (fun k hk => ((HI2.out.below HC9.out).foot_lt hk).1) HB9.out.size))
  rw [e1] at he
  obtain rfl : e = .returned (.int .i64 0) := he
  obtain ⟨La, R1⟩ : ∃ La, La = [] ++ R.La := ⟨_, rfl⟩
  have HLA : Hid (La.length = 2) := Lib.hid (by rw [R1]; exact e3)
  rw [← R1, e2, e3] at hi10
  have HI := Lib.hid hi10
  have HT := Lib.hid e4
  clear e1 e2 e3 e4 R1 hi10 hic10 hF hs9 hlo9 hfs HI2 HC9 HB9 hcv
  obtain ⟨Av, cv, hva⟩ := HI.out.an.form
  rw [HLA.out] at hva
  subst hva
  go_wp2_with (fail)
  refine (inTake HI.out).mono ?_
  rintro e w11 ⟨rfl, hi11, _, hc11⟩
  have HI11 := Lib.hid hi11
  have HB11 : Hid (Below w.heap.size w w11) := Lib.hid (HB10.out.trans (hc11.below (fun k hk => by rw [show k = X from hk]; exact HI.out.xb) HB10.out.size))
  clear hi11 hc11 HB10
  go_wp2_with (fail)
  refine (inSeen HI11.out).mono ?_
  rintro e w12 ⟨rfl, rfl⟩
  go_wp2_with (fail)
  refine (inKept HI11.out).mono ?_
  rintro e w12 ⟨rfl, rfl⟩
  go_wp2_with (fail)
  refine (walLen HI11.out.lg).mono ?_
  rintro e w12 ⟨rfl, rfl⟩
  rw [HT.out]
  go_wp2_with (fail)
  go_ret
  exact ⟨rfl, HB11.out⟩
end Go.Proofs.YtodjilljcjkacaaGreatDoor
/- Layer 17: what the messages leave, bounded; two inboxes beside each other. -/
namespace Go.Proofs.YtodjilljcjkacaaGreatDoor
open Go.RowKit Go.MapKept

/-- the bounds that further feeding wants -/
structure InB (d : Dk) (fs : Fs) (T : List (List UInt8)) (g kp : Nat) (N : Nat) : Prop where
  ok : FsOk d fs
  ops : d.ops ≤ 3 * N
  g : g ≤ 29008 * N
  T : T.length ≤ N
  kp : kp ≤ N
theorem feedM_b : ∀ (Ms : List (List UInt8)) (d : Dk) (fs : Fs) (T : List (List UInt8)) (g kp : Nat) (La : List (List UInt8)) (N : Nat), InB d fs T g kp N → N + Ms.length ≤ 1000000000 → (∀ x ∈ Ms, x.length ≤ 29000) →
    InB (feedM d fs T g kp La Ms).d (feedM d fs T g kp La Ms).fs (feedM d fs T g kp La Ms).T (feedM d fs T g kp La Ms).g (feedM d fs T g kp La Ms).kp (N + Ms.length) ∧ (feedM d fs T g kp La Ms).La.length ≤ La.length + Ms.length
  | [], d, fs, T, g, kp, La, N, h, _, _ => ⟨h, Nat.le_refl _⟩
  | m :: r, d, fs, T, g, kp, La, N, h, hN, hx => by
    have hm := hx m (by simp)
    have ho := h.ops
    have hk := keepD_ok h.ok (by simp at hN; omega) g m
    have h1 := h.g
    have h2 := h.T
    have h3 := h.kp
    have hr := record_length m
    rw [List.length_cons] at hN ⊢
    unfold feedM
    split
    · exact ⟨⟨hk.1, by have := hk.2; show (keepD d fs g m).2.1.ops ≤ _; omega, by show g ≤ _; omega, by show T.length ≤ _; omega, by show kp ≤ _; omega⟩, by show La.length ≤ _; omega⟩
    · rename_i x _
      have ha := ansD_len m (.inl x)
      have hb : InB (keepD d fs g m).2.1 (keepD d fs g m).2.2 (if x = 0 then T ++ [m] else T) (if x = 0 then g + (record m).length else g) (if x = 0 then kp + 1 else kp) (N + 1) := by
        refine ⟨hk.1, by have := hk.2; omega, ?_, ?_, ?_⟩
        · split <;> omega
        · split <;> (try rw [List.length_append, List.length_singleton]) <;> omega
        · split <;> omega
      obtain ⟨q1, q2⟩ := feedM_b r _ _ _ _ _ (La ++ ansD m (.inl x)) (N + 1) hb (by omega) (fun y hy => hx y (by simp [hy]))
      rw [List.length_append] at q2
      rw [show N + (r.length + 1) = N + 1 + r.length from by omega]
      exact ⟨q1, by omega⟩
section
variable {Z Z' S : Nat → Prop} {w w' : World} {B D M L Q X g sn kp most : Nat} {O : Option Nat} {d : Dk} {F : List Ent} {T : List (List UInt8)} {v va : Value} {s : St} {an : List (List UInt8)}
/-- what lies beside it changes, and grows -/
theorem IB.beside (h : IB Z w B D M L Q X O d F T g v most s va an sn kp) (c : Ch S w w') (hS : ∀ k, k < w.heap.size → S k → Z k) (hZ : ∀ k, Z' k → k < w'.heap.size ∧ (Z k ∨ w.heap.size ≤ k)) : IB Z' w' B D M L Q X O d F T g v most s va an sn kp := by
  have hn : ∀ k, FI L D M Q X O F v va k → ¬ S k := fun k hf hs => h.zf (hS k (h.foot_lt hf).2 hs) hf
  refine ⟨h.dk.ch c (fun k hk => hn k (.inr (.inr (.inl (.inl (.inr hk)))))), ?_, h.df.ch c (hn Q (.inr (.inl (.inl rfl)))) (fun k hk => hn k (.inr (.inl (.inr hk.symm)))), c.row h.row (hn X (.inl rfl)), h.xb, ?_, h.ap, fun k hk => ?_⟩
  · refine ((h.lg.widen (E' := fun k => (Z k ∨ k = X ∨ dS Q O k ∨ va.ownBlock = some k) ∨ w.heap.size ≤ k) (fun k hk => hk)).chE c (fun k hk hs => .inl (.inl (hS k hk hs))) (hn L (.inr (.inr (.inl (.inl (.inl rfl))))))).widen (fun k hk => .inl ?_)
    rcases hk with h1 | h1
    · rcases (hZ k h1).2 with h2 | h2
      · exact .inl (.inl h2)
      · exact .inr h2
    · exact .inl (.inr h1)
  · refine (Rw.widen h.an (T' := fun k => (Z k ∨ k = X ∨ dS Q O k ∨ WFoot L D M F v k) ∨ w.heap.size ≤ k) (fun k hk => hk)).ch c (fun k hk hs => .inl (.inl (hS k hk hs))) (fun k _ hk => ?_)
    rcases hk with h1 | h1
    · rcases (hZ k h1).2 with h2 | h2
      · exact .inl (.inl h2)
      · exact .inr h2
    · exact .inl (.inr h1)
  · obtain ⟨h0, h1 | h1⟩ := hZ k hk
    · obtain ⟨_, h3⟩ := h.zl k h1
      exact ⟨h0, h3⟩
    · have hlt : ∀ j, FI L D M Q X O F v va j → j < w.heap.size := fun j hj => (h.foot_lt hj).2
      refine ⟨h0, fun e => ?_, fun hd => ?_, fun hl => ?_⟩
      · have := hlt k (.inl e); omega
      · have := hlt k (.inr (.inl hd)); omega
      · have := hlt k (.inr (.inr (.inl (.inl hl)))); omega
/-- another's step -/
theorem IB.other {A A' : Nat → Prop} (h : IB (fun k => A k ∨ Z k) w B D M L Q X O d F T g v most s va an sn kp) (c : ICh A A' w w') (hl : ∀ k, A' k → k < w'.heap.size) : IB (fun k => A' k ∨ Z k) w' B D M L Q X O d F T g v most s va an sn kp :=
  h.beside c.ch (fun k _ hk => .inl hk) (fun k hk => by
    rcases hk with hk | hk
    · exact ⟨hl k hk, (c.foot k hk).imp .inl id⟩
    · have := (h.zl k (.inr hk)).1
      exact ⟨Nat.lt_of_lt_of_le this c.ch.size, .inl (.inr hk)⟩)
end
end Go.Proofs.YtodjilljcjkacaaGreatDoor
/- A row of slices of bytes, of the call's own, that avoids some blocks: many slices more. No condition. -/
namespace Go.Proofs.YtodjilljcjkacaaGreatDoor
open Go.RowKit

section
variable {B : Nat} {T : Nat → Prop} {w w' : World} {v v' : Value} {L L2 : List (List UInt8)} {vs vs2 : List Value}
/-- slices that may be added to v -/
def MayV (T : Nat → Prop) (w : World) (v : Value) (L2 : List (List UInt8)) (vs2 : List Value) : Prop :=
  ∀ (i : Nat) (u : Value) (x : List UInt8), vs2[i]? = some u → L2[i]? = some x → ∃ A c, u = .slice A x.length c ∧ Bs w A x.length c x ∧ (0 < x.length → ∀ b, A = some b → ¬ v.ownBlock = some b.block ∧ ¬ T b.block)
theorem RwV.many (h : RwV B T w v L vs) (hl2 : vs2.length = L2.length) (h12 : ∀ u ∈ vs2, u.oneCell' = true) (hx : MayV T w v L2 vs2) (hTn : ¬ T w.heap.size)
    (hown : w'.ownsRow B 40 1 v' (L.length + L2.length) (vs ++ vs2)) (hgr : w.grownBy w' v.ownBlock) (hfr : v'.ownBlock = v.ownBlock ∨ v'.ownBlock = some w.heap.size) : RwV B T w' v' (L ++ L2) (vs ++ vs2) := by
  obtain ⟨hl, ho, h1, h2, hg⟩ := h
  have hch : Ch (fun k => v.ownBlock = some k) w w' := Ch.of_grown hgr (fun k hk => hk)
  have hnew : ∀ b : Addr, b.block < w.heap.size → ¬ v.ownBlock = some b.block → ¬ v'.ownBlock = some b.block := fun b hb hne e => by
    rcases hfr with q | q
    · exact hne (by rw [← q]; exact e)
    · rw [q] at e; injection e with e; omega
  have hblk : ∀ (A : Option Addr) (c : Nat) (y : List UInt8), Bs w A y.length c y → 0 < y.length → ∀ b, A = some b → b.block < w.heap.size := fun A c y hb h0 b hA => by
    obtain ⟨b', o', e', hlt, _⟩ := hb.at_ h0
    rw [e'] at hA
    injection hA with hA
    subst hA
    exact hlt
  have hstep : ∀ (u : Value) (z : List UInt8), (∃ A c, u = .slice A z.length c ∧ Bs w A z.length c z ∧ (0 < z.length → ∀ b, A = some b → ¬ v.ownBlock = some b.block ∧ ¬ T b.block)) → ∃ A c, u = .slice A z.length c ∧ Bs w' A z.length c z ∧ (0 < z.length → ∀ b, A = some b → ¬ v'.ownBlock = some b.block ∧ ¬ T b.block) := by
    rintro u z ⟨A', c', e, hb, hne⟩
    exact ⟨A', c', e, hb.ch hch (fun h0 b hA hs => (hne h0 b hA).1 hs), fun h0 b hA => ⟨hnew b (hblk _ _ _ hb h0 b hA) (hne h0 b hA).1, (hne h0 b hA).2⟩⟩
  refine ⟨by simp [hl, hl2], by rw [List.length_append]; exact hown, fun u hu => ?_, fun k hk ht => ?_, fun i u z e1 e2 => ?_⟩
  · rcases List.mem_append.1 hu with hu | hu
    · exact h1 u hu
    · exact h12 u hu
  · rcases hfr with q | q
    · exact h2 k (by rw [← q]; exact hk) ht
    · rw [q] at hk; injection hk with hk; rw [← hk] at ht; exact hTn ht
  · by_cases hi : i < L.length
    · rw [List.getElem?_append_left (by rw [hl]; exact hi)] at e1
      rw [List.getElem?_append_left hi] at e2
      exact hstep u z (hg i u z e1 e2)
    · rw [List.getElem?_append_right (by rw [hl]; omega), hl] at e1
      rw [List.getElem?_append_right (by omega)] at e2
      exact hstep u z (hx _ u z e1 e2)
end

end Go.Proofs.YtodjilljcjkacaaGreatDoor
/- Layer 17: two inboxes that are fed the same. -/
namespace Go.Proofs.YtodjilljcjkacaaGreatDoor
open Go.RowKit Go.MapKept

theorem keepD_plain {d : Dk} {fs : Fs} {rs : List (List UInt8)} (h : WPlain d fs nmI rs) (m : List UInt8) : ∃ x, (keepD d fs (recs rs).length m).1 = .inl x ∧
    WPlain (keepD d fs (recs rs).length m).2.1 (keepD d fs (recs rs).length m).2.2 nmI (if x = 0 then rs ++ [m] else rs) ∧ (if x = 0 then (recs rs).length + (record m).length else (recs rs).length) = (recs (if x = 0 then rs ++ [m] else rs)).length ∧ (keepD d fs (recs rs).length m).2.1.room = d.room := by
  unfold keepD
  split
  · by_cases hk : okLen m.length = true
    · obtain ⟨hr, h1 | h1⟩ := addD_plain h nameL m hk
      · exact ⟨0, h1.2.1, by simpa using h1.2.2, by simp [recs_snoc], hr⟩
      · exact ⟨4, h1.2.1, by simpa using h1.2.2, by simp, hr⟩
    · have e : addD d fs nmI (recs rs).length m = (.inl 9, d, fs) := if_neg hk
      rw [e]
      exact ⟨9, rfl, by simpa using h, by simp, rfl⟩
  · exact ⟨1, rfl, by simpa using h, by simp, rfl⟩
theorem feedM_plain : ∀ (Ms : List (List UInt8)) (d : Dk) (fs : Fs) (T : List (List UInt8)) (kp : Nat) (La : List (List UInt8)), WPlain d fs nmI T →
    (feedM d fs T (recs T).length kp La Ms).r = .inl 0 ∧ WPlain (feedM d fs T (recs T).length kp La Ms).d (feedM d fs T (recs T).length kp La Ms).fs nmI (feedM d fs T (recs T).length kp La Ms).T ∧ (feedM d fs T (recs T).length kp La Ms).g = (recs (feedM d fs T (recs T).length kp La Ms).T).length ∧ (feedM d fs T (recs T).length kp La Ms).d.room = d.room
  | [], d, fs, T, kp, La, h => ⟨rfl, h, rfl, rfl⟩
  | m :: r, d, fs, T, kp, La, h => by
    obtain ⟨x, h1, h2, h3, h4⟩ := keepD_plain h m
    unfold feedM
    rw [h1]
    simp only
    rw [h3]
    obtain ⟨a, b, c, e⟩ := feedM_plain r _ _ _ (if x = 0 then kp + 1 else kp) (La ++ ansD m (.inl x)) h2
    exact ⟨a, b, c, e.trans h4⟩
end Go.Proofs.YtodjilljcjkacaaGreatDoor
/- Layer 17: an inbox on a new log that was fed some bytes, in whatever pieces. -/
namespace Go.Proofs.YtodjilljcjkacaaGreatDoor
open Go.RowKit Go.MapKept

theorem feedM_front (X : List (List UInt8)) : ∀ (Ms : List (List UInt8)) (d : Dk) (fs : Fs) (T : List (List UInt8)) (g kp : Nat) (La : List (List UInt8)),
    feedM d fs T g kp (X ++ La) Ms = { feedM d fs T g kp La Ms with La := X ++ (feedM d fs T g kp La Ms).La }
  | [], d, fs, T, g, kp, La => rfl
  | m :: r, d, fs, T, g, kp, La => by
    unfold feedM
    split
    · rfl
    · rw [List.append_assoc]
      exact feedM_front X r _ _ _ _ _ _
theorem feedM_step {d : Dk} {fs : Fs} {T : List (List UInt8)} {g kp : Nat} {La : List (List UInt8)} {m : List UInt8} {x : Int} (e : (keepD d fs g m).1 = .inl x) {r : List (List UInt8)} :
    feedM d fs T g kp La (m :: r) = feedM (keepD d fs g m).2.1 (keepD d fs g m).2.2 (if x = 0 then T ++ [m] else T) (if x = 0 then g + (record m).length else g) (if x = 0 then kp + 1 else kp) (La ++ ansD m (.inl x)) r := by
  show (match (keepD d fs g m).1 with
    | .inr op => (⟨.inr op, (keepD d fs g m).2.1, (keepD d fs g m).2.2, T, g, kp, La⟩ : InR)
    | .inl x => feedM (keepD d fs g m).2.1 (keepD d fs g m).2.2 (if x = 0 then T ++ [m] else T) (if x = 0 then g + (record m).length else g) (if x = 0 then kp + 1 else kp) (La ++ ansD m (.inl x)) r) = _
  rw [e]
theorem feedM_more : ∀ (M1 M2 : List (List UInt8)) (d : Dk) (fs : Fs) (T : List (List UInt8)) (g kp : Nat) (La : List (List UInt8)), (feedM d fs T g kp La M1).r = .inl 0 →
    feedM d fs T g kp La (M1 ++ M2) = feedM (feedM d fs T g kp La M1).d (feedM d fs T g kp La M1).fs (feedM d fs T g kp La M1).T (feedM d fs T g kp La M1).g (feedM d fs T g kp La M1).kp (feedM d fs T g kp La M1).La M2
  | [], M2, d, fs, T, g, kp, La, _ => rfl
  | m :: r, M2, d, fs, T, g, kp, La, h => by
    rw [List.cons_append]
    cases e : (keepD d fs g m).1 with
    | inr op =>
      have : (feedM d fs T g kp La (m :: r)).r = .inr op := by
        unfold feedM
        rw [e]
      rw [this] at h
      cases h
    | inl x =>
      rw [feedM_step e] at h ⊢
      rw [feedM_step e]
      exact feedM_more r M2 _ _ _ _ _ _ h
/-- an inbox with so much room, of frames of up to most bytes, behind these bytes -/
def runD (room : Int) (most : Nat) (p : List UInt8) : InR := feedM ⟨room, 0, 0, 0, 0, 0⟩ (fsOf []) [] 0 0 [] (feedD most newS p).2
theorem runD_ok (room : Int) (hr : 0 ≤ room ∧ room ≤ 1073741824) (most : Nat) (hm : most ≤ 29000) (p : List UInt8) (hp : p.length ≤ 1000000) :
    (runD room most p).r = .inl 0 ∧ WPlain (runD room most p).d (runD room most p).fs nmI (runD room most p).T ∧ (runD room most p).g = (recs (runD room most p).T).length ∧ InB (runD room most p).d (runD room most p).fs (runD room most p).T (runD room most p).g (runD room most p).kp p.length ∧ (runD room most p).La.length ≤ p.length ∧ St.Up most p.length (feedD most newS p).1 := by
  have h0 : St.Up most 0 newS := ⟨Nat.le_refl _, Nat.le_refl _, Nat.le_refl _, Nat.zero_le _⟩
  have hl := feed_len most newS p p.length (Nat.le_refl _)
  have hs := feed_short h0 p p.length (Nat.le_refl _)
  have hu := feed_up h0 p p.length (Nat.le_refl _)
  rw [List.take_length] at hl hs hu
  obtain ⟨q1, q2⟩ := feedM_b (feedD most newS p).2 ⟨room, 0, 0, 0, 0, 0⟩ (fsOf []) [] 0 0 [] 0 ⟨newW_ok room hr, by show (0 : Int) ≤ _; decide, Nat.le_refl _, Nat.le_refl _, Nat.le_refl _⟩ (by omega) (fun x hx => Nat.le_trans (hs x hx) hm)
  obtain ⟨p1, p2, p3, _⟩ := feedM_plain (feedD most newS p).2 ⟨room, 0, 0, 0, 0, 0⟩ (fsOf []) [] 0 [] (newW_plain room nmI)
  refine ⟨p1, p2, p3, ?_, by have : (runD room most p).La.length ≤ 0 + (feedD most newS p).2.length := q2; omega, by simpa using hu⟩
  exact ⟨q1.ok, by have h := q1.ops; have e : (runD room most p).d.ops ≤ 3 * ((0 + (feedD most newS p).2.length : Nat) : Int) := h; omega, by have h : (runD room most p).g ≤ 29008 * (0 + (feedD most newS p).2.length) := q1.g; omega, by have h : (runD room most p).T.length ≤ 0 + (feedD most newS p).2.length := q1.T; omega, by have h : (runD room most p).kp ≤ 0 + (feedD most newS p).2.length := q1.kp; omega⟩
theorem runD_more (room : Int) (hr : 0 ≤ room ∧ room ≤ 1073741824) (most : Nat) (hm : most ≤ 29000) (p y : List UInt8) (hp : p.length ≤ 1000000) :
    runD room most (p ++ y) = { feedM (runD room most p).d (runD room most p).fs (runD room most p).T (runD room most p).g (runD room most p).kp [] (feedD most (feedD most newS p).1 y).2 with La := (runD room most p).La ++ (feedM (runD room most p).d (runD room most p).fs (runD room most p).T (runD room most p).g (runD room most p).kp [] (feedD most (feedD most newS p).1 y).2).La } := by
  have h1 := (runD_ok room hr most hm p hp).1
  have e : (feedD most newS (p ++ y)).2 = (feedD most newS p).2 ++ (feedD most (feedD most newS p).1 y).2 := by rw [feedD_append]
  unfold runD at h1 ⊢
  rw [e, feedM_more _ _ _ _ _ _ _ _ h1]
  have := feedM_front (runD room most p).La (feedD most (feedD most newS p).1 y).2 (runD room most p).d (runD room most p).fs (runD room most p).T (runD room most p).g (runD room most p).kp []
  rw [List.append_nil] at this
  exact this
/-- .. as it lies in memory -/
def Fed (Z : Nat → Prop) (w : World) (B D M L Q X : Nat) (room : Int) (most : Nat) (p : List UInt8) (O : Option Nat) (F : List Ent) (v va : Value) : Prop :=
  IB Z w B D M L Q X O (runD room most p).d F (runD room most p).T (runD room most p).g v most (feedD most newS p).1 va (runD room most p).La (runD room most p).La.length (runD room most p).kp ∧ fsOf F = (runD room most p).fs
section
variable {Z : Nat → Prop} {w : World} {B D M L Q X most : Nat} {room : Int} {p : List UInt8} {O : Option Nat} {F : List Ent} {v va : Value}
set_option maxHeartbeats 2000000 in
theorem mFed (h : Fed Z w B D M L Q X room most p O F v va) (hr : 0 ≤ room ∧ room ≤ 1073741824) (hm : most ≤ 29000) (A : Option Addr) (n c : Nat) (y : List UInt8) (hl : Bs w A n c y) (hp : p.length + n ≤ 1000000) (hoff : 0 < n → ∀ b, A = some b → ¬ FI L D M Q X O F v va b.block)
    (hG : ∀ W, Below B w W → Vers W ∧ Signs W ∧ Cds W) (hBw : B ≤ w.heap.size) :
    Calls Tryz.prog 16 #[pI X, .slice A n c] w fun e w' => e = .returned (.int .i64 0) ∧ ∃ O' F' v' va', Fed Z w' B D M L Q X room most (p ++ y) O' F' v' va' ∧ ICh (FI L D M Q X O F v va) (FI L D M Q X O' F' v' va') w w' := by
  obtain ⟨hi, hf⟩ := h
  obtain ⟨h1, h2, h3, h4, h5, h6⟩ := runD_ok room hr most hm p (by omega)
  have q1 := h4.ops
  have q2 := h4.g
  have q3 := h4.T
  have q4 := h4.kp
  refine (mFeed hi A n c p.length y hl hoff hm h6 (by omega) (by omega) hG (by rw [hf]; exact h4.ok) (by omega) (by omega) (by omega) (by omega) (by omega) (by omega) hBw).mono ?_
  rintro e w' ⟨F', v', va', O', he, hf', hi', hic⟩
  rw [hf] at he hf' hi'
  have hmore := runD_more room hr most hm p y (by omega)
  rw [h3] at he hf' hi' hmore
  obtain ⟨p1, p2, p3, p4⟩ := feedM_plain (feedD most (feedD most newS p).1 y).2 (runD room most p).d (runD room most p).fs (runD room most p).T (runD room most p).kp [] h2
  rw [p1] at he
  refine ⟨he, O', F', v', va', ⟨?_, ?_⟩, hic⟩
  · have es : (feedD most newS (p ++ y)).1 = (feedD most (feedD most newS p).1 y).1 := by rw [feedD_append]
    rw [hmore, es]
    simp only [List.length_append]
    exact hi'
  · rw [hmore]
    exact hf'
end
end Go.Proofs.YtodjilljcjkacaaGreatDoor
/- Layers 9 and 11: heads of texts, and what such a head is worth. -/
namespace Go.Proofs.YtodjilljcjkacaaGreatDoor
open Go.RowKit Lib

/-- a head's segment, of any texts -/
def rowSeg (d : Sgn) (T : List (List UInt8)) : List UInt8 := [77, 83, 72, d.a, d.b, d.c, d.d, d.e] ++ joinTail [d.a] T
theorem rowSeg_make (d : Sgn) (T : List (List UInt8)) : rowSeg d T = makeD mshB d.a ([d.a] :: [d.b, d.c, d.d, d.e] :: T) := by rw [makeD_head]; rfl
theorem rowSeg_not13 {d : Sgn} (hg : d.good = true) {T : List (List UInt8)} (hT : ∀ x ∈ T, (13 : UInt8) ∉ x) : (13 : UInt8) ∉ rowSeg d T := by
  have h13 := good_not13 hg
  unfold rowSeg
  intro hm
  rcases List.mem_append.1 hm with hm | hm
  · simp only [List.mem_cons, List.not_mem_nil, or_false] at hm
    rcases hm with e | e | e | hm
    · exact absurd e (by decide)
    · exact absurd e (by decide)
    · exact absurd e (by decide)
    · exact h13 (by simpa [Sgn.l] using hm)
  · unfold joinTail at hm
    obtain ⟨y, hy, hm⟩ := List.mem_flatten.1 hm
    obtain ⟨x, hx, rfl⟩ := List.mem_map.1 hy
    rcases List.mem_append.1 hm with hm | hm
    · exact h13 (by rw [List.mem_singleton.1 hm]; simp [Sgn.l])
    · exact hT x hx hm
theorem rowSeg_readD {d : Sgn} (hg : d.good = true) {T : List (List UInt8)} (hne : T ≠ []) (l : List UInt8) : readD (rowSeg d T ++ l) = (d, 0) := by
  obtain ⟨x, r, rfl⟩ := List.exists_cons_of_ne_nil hne
  have e : rowSeg d (x :: r) ++ l = 77 :: 83 :: 72 :: d.a :: d.b :: d.c :: d.d :: d.e :: d.a :: (x ++ joinTail [d.a] r ++ l) := by simp [rowSeg, joinTail]
  obtain ⟨R, hR⟩ : ∃ R, R = x ++ joinTail [d.a] r ++ l := ⟨_, rfl⟩
  rw [e, ← hR]
  have ho : Sgn.of (77 :: 83 :: 72 :: d.a :: d.b :: d.c :: d.d :: d.e :: d.a :: R) = d := rfl
  unfold readD
  rw [if_neg (by simp only [List.length_cons]; omega), if_neg, if_neg, ho]
  · rintro ⟨h1, _⟩
    exact h1 rfl
  · rintro (h1 | h1)
    · exact h1 rfl
    · rw [ho, hg] at h1; cases h1
theorem splitD_alone (m : List UInt8) (h : (13 : UInt8) ∉ m) (hm : m ≠ []) : splitD m = [m] := by
  unfold splitD
  rw [cutAt_none 13 m h, if_neg (by simpa using hm)]
theorem read_row {d : Sgn} (hg : d.good = true) {T : List (List UInt8)} (hne : T ≠ []) (hT : ∀ x ∈ T, d.a ∉ x ∧ (13 : UInt8) ∉ x) (l : List UInt8) (hl : l = [] ∨ ∃ r, l = 13 :: r) :
    readH (rowSeg d T ++ l) = (hdTo d (textsD ([d.a] :: [d.b, d.c, d.d, d.e] :: T)) 10, 0) := by
  have h13 := rowSeg_not13 hg (fun x hx => (hT x hx).2)
  obtain ⟨R, hR⟩ : ∃ R, splitD (rowSeg d T ++ l) = rowSeg d T :: R := by
    rcases hl with rfl | ⟨r, rfl⟩
    · rw [List.append_nil]; exact ⟨[], splitD_alone _ h13 (by simp [rowSeg])⟩
    · exact splitD_front _ r h13
  unfold readH
  rw [rowSeg_readD hg hne l, hR]
  simp only [List.getD_cons_zero]
  rw [rowSeg_make, fields_head d.a _ _ (good_signs hg).2 (fun y hy => (hT y hy).1)]
  simp only [List.getD_cons_succ, List.getD_cons_zero, if_true]
end Go.Proofs.YtodjilljcjkacaaGreatDoor

namespace Go.Proofs.YtodjilljcjkacaaGreatDoor
open Go.RowKit Lib

abbrev sgnC : Sgn := ⟨124, 94, 126, 92, 38⟩
def cT (id p v : List UInt8) : List (List UInt8) := [[], [], [], [], [], [], [65, 68, 84], id, p, v]
def cHd (id p v : List UInt8) : Hd := ⟨sgnC, ⟨#[]⟩, ⟨#[]⟩, ⟨#[]⟩, ⟨#[]⟩, ⟨#[]⟩, ⟨#[]⟩, ⟨#[65, 68, 84]⟩, txt id, txt p, txt v⟩
/-- the bytes of a text that may stand in such a head -/
def freeC (l : List UInt8) : Prop := ∀ c ∈ l, c ≠ 124 ∧ c ≠ 13 ∧ c ≠ 28 ∧ c ≠ 11 ∧ c ≠ 94 ∧ c ≠ 126
theorem freeC.no {l : List UInt8} (h : freeC l) : (124 : UInt8) ∉ l ∧ (13 : UInt8) ∉ l ∧ (28 : UInt8) ∉ l ∧ (94 : UInt8) ∉ l ∧ (126 : UInt8) ∉ l :=
  ⟨fun m => (h _ m).1 rfl, fun m => (h _ m).2.1 rfl, fun m => (h _ m).2.2.1 rfl, fun m => (h _ m).2.2.2.2.1 rfl, fun m => (h _ m).2.2.2.2.2 rfl⟩
theorem cT_mem {id p v : List UInt8} {P : List UInt8 → Prop} (h0 : P []) (h1 : P [65, 68, 84]) (h2 : P id) (h3 : P p) (h4 : P v) : ∀ x ∈ cT id p v, P x := by
  intro x hx
  simp only [cT, List.mem_cons, List.not_mem_nil, or_false] at hx
  rcases hx with rfl | rfl | rfl | rfl | rfl | rfl | rfl | rfl | rfl | rfl <;> assumption
theorem cRead {id p v : List UInt8} (h2 : freeC id) (h3 : freeC p) (h4 : freeC v) : readH (rowSeg sgnC (cT id p v) ++ [13]) = (cHd id p v, 0) := by
  rw [read_row (d := sgnC) (by decide) (by simp [cT]) (cT_mem (P := fun x => (124 : UInt8) ∉ x ∧ (13 : UInt8) ∉ x) (by decide) (by decide) ⟨h2.no.1, h2.no.2.1⟩ ⟨h3.no.1, h3.no.2.1⟩ ⟨h4.no.1, h4.no.2.1⟩) [13] (.inr ⟨[], rfl⟩)]
  rfl
theorem cSeg_free {id p v : List UInt8} {z : UInt8} (hz : z ∉ ([77, 83, 72, 124, 94, 126, 92, 38, 65, 68, 84] : List UInt8)) (h2 : z ∉ id) (h3 : z ∉ p) (h4 : z ∉ v) : z ∉ rowSeg sgnC (cT id p v) := by
  intro hm
  simp only [rowSeg, joinTail, cT, List.map_cons, List.map_nil, List.flatten_cons, List.flatten_nil, List.append_nil, List.mem_append, List.mem_cons, List.not_mem_nil, or_false, not_or] at hm hz
  obtain ⟨z1, z2, z3, z4, z5, z6, z7, z8, z9, z10, z11⟩ := hz
  simp only [z1, z2, z3, z4, z5, z6, z7, z8, z9, z10, z11, h2, h3, h4, or_self] at hm
theorem cVerdict {id p v : List UInt8} (h2 : freeC id) (h3 : freeC p) (h4 : freeC v) : verdictD (rowSeg sgnC (cT id p v) ++ [13]) = (cHd id p v, codeOf (checkD (cHd id p v)), checkD (cHd id p v)) := by
  have h13 : (13 : UInt8) ∉ rowSeg sgnC (cT id p v) := cSeg_free (by decide) h2.no.2.1 h3.no.2.1 h4.no.2.1
  have h28 : (28 : UInt8) ∉ rowSeg sgnC (cT id p v) := cSeg_free (by decide) h2.no.2.2.1 h3.no.2.2.1 h4.no.2.2.1
  unfold verdictD
  rw [cRead h2 h3 h4, seg1_front h13, if_pos rfl, if_neg h28]
theorem firstC {l : List UInt8} (h : freeC l) : firstD (txt l) sgnC = l := by
  obtain ⟨_, _, _, h94, h126⟩ := h.no
  unfold firstD
  rw [show (txt l).data.toList = l from by simp]
  rw [show sgnC.c = 126 from rfl, show sgnC.b = 94 from rfl, cutAt_none 126 _ h126]
  show (cutAt 94 l).headD [] = _
  rw [cutAt_none 94 _ h94]
  rfl
end Go.Proofs.YtodjilljcjkacaaGreatDoor
/- Layer 5: whole frames with junk between them, fed. -/
namespace Go.Proofs.YtodjilljcjkacaaGreatDoor
open Go.RowKit

/-- inside a frame, p of it seen; the counts are z's -/
def Mid (z s : St) (p : List UInt8) : Prop := s.junk = z.junk ∧ s.over = z.over ∧ s.broken = z.broken ∧ ((s.md = .inn ∧ s.fr = p) ∨ (s.md = .beh ∧ p = s.fr ++ [28]))
theorem Mid.begun {z s : St} {p : List UInt8} (h : Mid z s p) : s.md.begun = true := by
  obtain ⟨_, _, _, ⟨h, _⟩ | ⟨h, _⟩⟩ := h <;> rw [h] <;> rfl
theorem mid_step {m : Nat} {z s : St} {p : List UInt8} (h : Mid z s p) (X : List (List UInt8)) (c : UInt8) (h11 : c ≠ 11) (h13 : s.md = .beh → c ≠ 13) (hm : p.length + 1 ≤ m) : ∃ s', eatD m (s, X) c = (s', X) ∧ Mid z s' (p ++ [c]) := by
  obtain ⟨j, o, b, ⟨hmd, hfr⟩ | ⟨hmd, hp⟩⟩ := h
  · by_cases hc : c = 28
    · exact ⟨{ s with md := .beh }, by simp [eatD, stepD, hmd, hc], j, o, b, .inr ⟨rfl, by simp [hfr, hc]⟩⟩
    · have hn : ¬ m < s.fr.length + 1 := by rw [hfr]; omega
      exact ⟨{ s with fr := s.fr ++ [c] }, by simp [eatD, stepD, hmd, hc, h11, layS, hn], j, o, b, .inl ⟨hmd, by simp [hfr]⟩⟩
  · have hl : p.length = s.fr.length + 1 := by rw [hp]; simp
    have h13 := h13 hmd
    by_cases hc : c = 28
    · have hn : ¬ m < s.fr.length + 1 := by omega
      exact ⟨{ s with fr := s.fr ++ [28] }, by simp [eatD, stepD, hmd, hc, layS, hn], j, o, b, .inr ⟨hmd, by simp [hp, hc]⟩⟩
    · have hn : ¬ m < s.fr.length + 2 := by omega
      exact ⟨{ s with md := .inn, fr := s.fr ++ [28, c] }, by simp [eatD, stepD, hmd, hc, h11, h13, layS, hn], j, o, b, .inl ⟨rfl, by simp [hp]⟩⟩
theorem mid_feed {m : Nat} {z s : St} {l : List UInt8} (h0 : Mid z s []) (hg : good l = true) (hm : l.length ≤ m) : ∀ k, k ≤ l.length → ∃ s', feedD m s (l.take k) = (s', []) ∧ Mid z s' (l.take k)
  | 0, _ => ⟨s, rfl, by simpa using h0⟩
  | k + 1, hk => by
    obtain ⟨s', e, h⟩ := mid_feed h0 hg hm k (by omega)
    have hkl : k < l.length := by omega
    obtain ⟨s2, e2, h2⟩ := mid_step (m := m) h [] l[k] (fun e => good_no_start hg (e ▸ List.getElem_mem hkl)) (fun hmd e13 => by
      obtain ⟨_, _, _, ⟨hq, _⟩ | ⟨_, hp⟩⟩ := h
      · rw [hq] at hmd; cases hmd
      · have hlen : s'.fr.length + 1 = k := by
          have := congrArg List.length hp
          simp at this
          omega
        have hb := good_at hg (i := s'.fr.length) (by omega)
        have h28 : l[s'.fr.length]? = some 28 := by
          have : (l.take k)[s'.fr.length]? = some 28 := by rw [hp]; simp
          rwa [List.getElem?_take, if_pos (by omega)] at this
        have h13 : l[s'.fr.length + 1]? = some 13 := by
          rw [hlen, List.getElem?_eq_getElem hkl, e13]
        simp [badAt, h28, h13] at hb) (by rw [List.length_take]; omega)
    refine ⟨s2, ?_, ?_⟩
    · rw [List.take_succ_eq_append_getElem hkl, feedD_snoc, e, e2]
    · rw [List.take_succ_eq_append_getElem hkl]
      exact h2
theorem mid_inn {z s : St} {l : List UInt8} (h : Mid z s l) (hg : good l = true) : s.md = .inn ∧ s.fr = l := by
  obtain ⟨_, _, _, h | ⟨_, hp⟩⟩ := h
  · exact h
  · have hl : l.length = s.fr.length + 1 := by rw [hp]; simp
    have hb := good_at hg (i := s.fr.length) (by omega)
    have h28 : l[s.fr.length]? = some 28 := by rw [hp]; simp
    unfold badAt at hb
    rw [h28] at hb
    simp [hl] at hb
theorem feed_cons (m : Nat) (s s1 : St) (c : UInt8) (l : List UInt8) (h : eatD m (s, []) c = (s1, [])) : feedD m s (c :: l) = feedD m s1 l := by
  show l.foldl (eatD m) (eatD m (s, []) c) = _
  rw [h]
  rfl
/-- a whole frame -/
theorem frame_feed {m : Nat} {z s s1 : St} {l : List UInt8} (h1 : eatD m (s, []) 11 = (s1, [])) (h0 : Mid z s1 []) (hg : good l = true) (hm : l.length ≤ m) :
    feedD m s (11 :: (l ++ [28, 13])) = (⟨.out, [], z.junk, z.over, z.broken⟩, [l]) := by
  rw [feed_cons m s s1 11 _ h1, feedD_append]
  obtain ⟨s2, e, h⟩ := mid_feed h0 hg hm l.length (Nat.le_refl _)
  rw [List.take_length] at e h
  obtain ⟨hmd, hfr⟩ := mid_inn h hg
  rw [e]
  have e1 : eatD m (s2, []) 28 = ({ s2 with md := .beh }, []) := by simp [eatD, stepD, hmd]
  have e2 : feedD m { s2 with md := .beh } [13] = (leaveS { s2 with md := .beh }, [l]) := by simp [feedD, eatD, stepD, hfr]
  rw [feed_cons m s2 _ 28 [13] e1, e2]
  obtain ⟨j, o, b, _⟩ := h
  simp [leaveS, j, o, b]
end Go.Proofs.YtodjilljcjkacaaGreatDoor

namespace Go.Proofs.YtodjilljcjkacaaGreatDoor
open Go.RowKit

/-- outside, a frame over; the counts were z's -/
def Ovr (z s : St) : Prop := s.md = .out ∧ s.over = z.over + 1 ∧ s.broken = z.broken ∧ z.junk ≤ s.junk
theorem out_step {m : Nat} {s : St} (h : s.md = .out) (X : List (List UInt8)) (c : UInt8) (h11 : c ≠ 11) : eatD m (s, X) c = ({ s with junk := s.junk + 1 }, X) := by
  simp [eatD, stepD, h, h11]
theorem ovr_step {m : Nat} {z s : St} (h : Ovr z s) (c : UInt8) (h11 : c ≠ 11) : ∃ s', eatD m (s, []) c = (s', []) ∧ Ovr z s' := by
  obtain ⟨hmd, ho, hb, hj⟩ := h
  exact ⟨_, out_step hmd [] c h11, hmd, ho, hb, by simp; omega⟩
theorem ovr_feed {m : Nat} {z : St} : ∀ (l : List UInt8) (s : St), Ovr z s → 11 ∉ l → ∃ s', feedD m s l = (s', []) ∧ Ovr z s'
  | [], s, h, _ => ⟨s, rfl, h⟩
  | c :: l, s, h, hn => by
    simp only [List.mem_cons, not_or] at hn
    obtain ⟨s2, e2, h2⟩ := ovr_step (m := m) h c (fun e => hn.1 e.symm)
    rw [feed_cons m s s2 c l e2]
    exact ovr_feed l s2 h2 hn.2
theorem mid_or {m : Nat} {z s : St} {p : List UInt8} (h : Mid z s p) (hf : s.fr.length ≤ m) (c : UInt8) (h11 : c ≠ 11) (h13 : s.md = .beh → c ≠ 13) :
    ∃ s', eatD m (s, []) c = (s', []) ∧ ((Mid z s' (p ++ [c]) ∧ s'.fr.length ≤ m) ∨ Ovr z s') := by
  obtain ⟨j, o, b, ⟨hmd, hfr⟩ | ⟨hmd, hp⟩⟩ := h
  · by_cases hc : c = 28
    · exact ⟨{ s with md := .beh }, by simp [eatD, stepD, hmd, hc], .inl ⟨⟨j, o, b, .inr ⟨rfl, by simp [hfr, hc]⟩⟩, hf⟩⟩
    · by_cases hn : m < s.fr.length + 1
      · exact ⟨leaveS { s with over := s.over + 1 }, by simp [eatD, stepD, hmd, hc, h11, layS, hn], .inr ⟨rfl, by simp [leaveS, o], by simp [leaveS, b], by simp [leaveS, j]⟩⟩
      · exact ⟨{ s with fr := s.fr ++ [c] }, by simp [eatD, stepD, hmd, hc, h11, layS, hn], .inl ⟨⟨j, o, b, .inl ⟨hmd, by simp [hfr]⟩⟩, by simp; omega⟩⟩
  · have h13 := h13 hmd
    by_cases hc : c = 28
    · by_cases hn : m < s.fr.length + 1
      · exact ⟨leaveS { s with over := s.over + 1 }, by simp [eatD, stepD, hmd, hc, layS, hn], .inr ⟨rfl, by simp [leaveS, o], by simp [leaveS, b], by simp [leaveS, j]⟩⟩
      · exact ⟨{ s with fr := s.fr ++ [28] }, by simp [eatD, stepD, hmd, hc, layS, hn], .inl ⟨⟨j, o, b, .inr ⟨hmd, by simp [hp, hc]⟩⟩, by simp; omega⟩⟩
    · by_cases hn : m < s.fr.length + 2
      · exact ⟨leaveS { s with md := .inn, over := s.over + 1 }, by simp [eatD, stepD, hmd, hc, h11, h13, layS, hn, leaveS], .inr ⟨rfl, by simp [leaveS, o], by simp [leaveS, b], by simp [leaveS, j]⟩⟩
      · exact ⟨{ s with md := .inn, fr := s.fr ++ [28, c] }, by simp [eatD, stepD, hmd, hc, h11, h13, layS, hn], .inl ⟨⟨j, o, b, .inl ⟨rfl, by simp [hp]⟩⟩, by simp; omega⟩⟩
theorem mid_or_feed {m : Nat} {z s : St} {l : List UInt8} (h0 : Mid z s []) (hf : s.fr.length ≤ m) (hg : good l = true) : ∀ k, k ≤ l.length → ∃ s', feedD m s (l.take k) = (s', []) ∧ ((Mid z s' (l.take k) ∧ s'.fr.length ≤ m) ∨ Ovr z s')
  | 0, _ => ⟨s, rfl, .inl ⟨by simpa using h0, hf⟩⟩
  | k + 1, hk => by
    obtain ⟨s', e, h⟩ := mid_or_feed h0 hf hg k (by omega)
    have hkl : k < l.length := by omega
    have h11 : l[k] ≠ 11 := fun e => good_no_start hg (e ▸ List.getElem_mem hkl)
    rw [List.take_succ_eq_append_getElem hkl, feedD_snoc, e]
    rcases h with ⟨h, hf'⟩ | h
    · obtain ⟨s2, e2, h2⟩ := mid_or (m := m) h hf' l[k] h11 (fun hmd e13 => by
        obtain ⟨_, _, _, ⟨hq, _⟩ | ⟨_, hp⟩⟩ := h
        · rw [hq] at hmd; cases hmd
        · have hlen : s'.fr.length + 1 = k := by
            have := congrArg List.length hp
            simp at this
            omega
          have hb := good_at hg (i := s'.fr.length) (by omega)
          have h28 : l[s'.fr.length]? = some 28 := by
            have : (l.take k)[s'.fr.length]? = some 28 := by rw [hp]; simp
            rwa [List.getElem?_take, if_pos (by omega)] at this
          have h13 : l[s'.fr.length + 1]? = some 13 := by
            rw [hlen, List.getElem?_eq_getElem hkl, e13]
          unfold badAt at hb
          rw [h28, h13] at hb
          simp at hb)
      exact ⟨s2, e2, h2⟩
    · obtain ⟨s2, e2, h2⟩ := ovr_step (m := m) h l[k] h11
      exact ⟨s2, e2, .inr h2⟩
/-- a whole frame of too many bytes, from outside -/
theorem frame_over {m : Nat} {s : St} {l : List UInt8} (hs : s.md = .out) (hg : good l = true) (hm : m < l.length) : ∃ s', feedD m s (11 :: (l ++ [28, 13])) = (s', []) ∧ Ovr s s' := by
  have e0 : eatD m (s, []) 11 = (enterS s, []) := by simp [eatD, stepD, hs]
  have h0 : Mid s (enterS s) [] := ⟨rfl, rfl, rfl, .inl ⟨rfl, rfl⟩⟩
  rw [feed_cons m s _ 11 _ e0, feedD_append]
  obtain ⟨s2, e, h⟩ := mid_or_feed h0 (Nat.zero_le m) hg l.length (Nat.le_refl _)
  rw [List.take_length] at e h
  rw [e]
  rcases h with ⟨h, hf⟩ | h
  · have := (mid_inn h hg).2
    rw [this] at hf
    omega
  · obtain ⟨s3, e3, h3⟩ := ovr_feed (m := m) [28, 13] s2 h (by decide)
    exact ⟨s3, by rw [e3]; rfl, h3⟩
/-- a whole frame, from outside -/
theorem frame_out {m : Nat} {s : St} {l : List UInt8} (hs : s.md = .out) (hg : good l = true) (hm : l.length ≤ m) : feedD m s (11 :: (l ++ [28, 13])) = (⟨.out, [], s.junk, s.over, s.broken⟩, [l]) :=
  frame_feed (s1 := enterS s) (by simp [eatD, stepD, hs]) ⟨rfl, rfl, rfl, .inl ⟨rfl, rfl⟩⟩ hg hm
end Go.Proofs.YtodjilljcjkacaaGreatDoor

namespace Go.Proofs.YtodjilljcjkacaaGreatDoor
open Go.RowKit

/-- all has been fed: want was in its frames; noise bytes of junk, over frames of too many bytes -/
def BackInv (m : Nat) (all : List UInt8) (want : List (List UInt8)) (noise over : Nat) : Prop :=
  ∃ s, feedD m newS all = (s, want) ∧ s.md = .out ∧ s.broken = 0 ∧ s.over = over ∧ (over = 0 → s.junk = noise)
theorem BackInv.nil (m : Nat) : BackInv m [] [] 0 0 := ⟨newS, rfl, rfl, rfl, rfl, fun _ => rfl⟩
theorem BackInv.junk {m : Nat} {all : List UInt8} {want : List (List UInt8)} {noise over : Nat} (h : BackInv m all want noise over) (x : UInt8) (hx : x ≠ 11) : BackInv m (all ++ [x]) want (noise + 1) over := by
  obtain ⟨s, e, hmd, hb, ho, hj⟩ := h
  refine ⟨{ s with junk := s.junk + 1 }, ?_, hmd, hb, ho, fun h0 => by rw [hj h0]⟩
  rw [feedD_snoc, e, out_step hmd want x hx]
theorem BackInv.frame {m : Nat} {all l : List UInt8} {want : List (List UInt8)} {noise over : Nat} (h : BackInv m all want noise over) (hg : good l = true) (hm : l.length ≤ m) : BackInv m (all ++ 11 :: (l ++ [28, 13])) (want ++ [l]) noise over := by
  obtain ⟨s, e, hmd, hb, ho, hj⟩ := h
  refine ⟨⟨.out, [], s.junk, s.over, s.broken⟩, ?_, rfl, hb, ho, hj⟩
  rw [feedD_append, e, frame_out hmd hg hm]
theorem BackInv.over {m : Nat} {all l : List UInt8} {want : List (List UInt8)} {noise over : Nat} (h : BackInv m all want noise over) (hg : good l = true) (hm : m < l.length) : BackInv m (all ++ 11 :: (l ++ [28, 13])) want noise (over + 1) := by
  obtain ⟨s, e, hmd, hb, ho, hj⟩ := h
  obtain ⟨s2, e2, h1, h2, h3, h4⟩ := frame_over hmd hg hm
  refine ⟨s2, ?_, h1, by rw [h3, hb], by rw [h2, ho], fun h0 => by omega⟩
  rw [feedD_append, e, e2]
  simp
end Go.Proofs.YtodjilljcjkacaaGreatDoor
