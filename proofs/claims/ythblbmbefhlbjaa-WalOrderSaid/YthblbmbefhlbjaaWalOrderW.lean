/- WalOrder, walked. -/
import Derived.Test.YthblbmbefhlbjaaWalC
import Derived.Test.YthblbmbefhlbjaaTxtC
namespace Go.Proofs.Ythblbmbefhlbjaa
open Go.RowKit Go.MapKept

/-- 'append(l, x)' of a text, and where the row lies then -/
theorem wpList_str1 {ops : Array Oper} {rest : List Oper} {o : Oper} {a : Act} {Q : Exit → Act → World → Prop} {w : World} (hgd : o.guard = none) (s x : Operand)
    (ho : o.op = .call { callee := .builtin .append, args := #[s, x], argTypes := #[61, 61] }) (base : Nat) (v : Value) (T : List (List UInt8)) (hs : a.eval s = v) (hown : OwnS w base v T)
    (g : Nat) (X : List UInt8) (hx : a.eval x = .slice (some ⟨g, 0, none⟩) 1 1) (hg : w.heap[g]? = some (.cells #[str X] 9)) (hn : T.length + 1 ≤ 1099511627776) (hbase : base ≤ w.heap.size)
    (h : ∀ v' w', OwnS w' base v' (T ++ [X]) → w.grownBy w' v.ownBlock → (v'.ownBlock = v.ownBlock ∨ v'.ownBlock = some w.heap.size) → wpList Try.prog ops Q rest (a.put o.dst v') w') : wpList Try.prog ops Q (o :: rest) a w := by
  have hi : (Try.prog.info? 9).map (fun i => (i.zero, i.size, i.bytes)) = some (some (.string ByteArray.empty), 1, 16) := by kernel_rfl
  refine wpList_appAt hgd s x 61 ho base 9 (.string ByteArray.empty) 16 Try.underlying61 hi rfl (by decide) v T.length (T.map str) hs hown ⟨g, 0, none⟩ 1 1 [str X] hx rfl (fun j u hu => ?_) (fun u hu => ?_) hn hbase (fun v' w' q1 q2 q3 => h v' w' ?_ q2 q3)
  · have hj : j = 0 := by
      rcases Nat.lt_or_ge j 1 with h | h
      · omega
      · rw [List.getElem?_eq_none (by simpa using h)] at hu; cases hu
    subst hj
    rw [Addr.add_lit, Nat.zero_add, cell_of_row w g 0 _ _ _ hg]
    exact hu
  · simp at hu; subst hu; rfl
  · unfold OwnS
    rw [List.length_append, List.map_append]
    exact q1
theorem xorW (a : UInt8) : bits BinOp.xor .u8 (a.toNat : Int) 1 = ((a ^^^ 1).toNat : Int) := by
  have h := u8_xor_nat a.toNat 1 (UInt8.toNat_lt a) (by decide)
  rw [show (1 : Int) = ((1 : Nat) : Int) from rfl, h, UInt8.toNat_xor]
  rfl
theorem min100W (n : Nat) : ∃ m : Nat, m ≤ n ∧ m ≤ 100 ∧ min (n : Int) 100 = (m : Int) := ⟨min n 100, by omega, by omega, by omega⟩
theorem okLenW {n : Nat} (h1 : 1 ≤ n) (h2 : n ≤ 65536) : okLen n = true := by unfold okLen; simp; omega
theorem addX_zeroW {r : Int} {rs : List (List UInt8)} {l : List UInt8} (h : l.length = 0) : addX r rs l = (9, rs) := by
  unfold addX
  rw [if_pos (by rw [h]; decide)]
theorem addX_okW {r : Int} {rs : List (List UInt8)} {l : List UInt8} (h : okLen l.length = true) (hr : ((recs rs).length : Int) + 8 + (l.length : Int) ≤ r) : addX r rs l = (0, rs ++ [l]) := by
  unfold addX
  rw [if_neg (by rw [h]; decide), record_length, if_pos (by omega)]
theorem recs_snocW (rs : List (List UInt8)) (l : List UInt8) : (recs (rs ++ [l])).length = (recs rs).length + 8 + l.length := by
  rw [recs_snoc, List.length_append, record_length]; omega
/-- the log and the row of what was added -/
structure OrdSt (B L D M k : Nat) (vo : Value) (T : List (List UInt8)) (v : Value) (d : Dk) (F : List Ent) (wr : World) : Prop where
  dk : DkAt wr B D M d F
  lg : LgAt (fun j => vo.ownBlock = some j) wr B L D M F nmL T (recs T).length v
  ok : FsOk d (fsOf F)
  pl : WPlain d (fsOf F) nmL T
  op : d.ops ≤ 3 * (k : Int)
  rm : d.room = 1073741824
  ln : T.length ≤ k
  sz : (recs T).length ≤ 108 * k
  le : ∀ x ∈ T, x.length ≤ 100
  own : OwnS wr B vo T
  off : ∀ j, vo.ownBlock = some j → ¬ WFoot L D M F v j
theorem OrdSt.below {B L D M k : Nat} {vo v : Value} {T : List (List UInt8)} {d : Dk} {F : List Ent} {w w' : World} (h : OrdSt B L D M k vo T v d F w) (hb : Below w.heap.size w w') : OrdSt B L D M k vo T v d F w' :=
  ⟨h.dk.below hb, h.lg.below hb, h.ok, h.pl, h.op, h.rm, h.ln, h.sz, h.le, h.own.below hb, h.off⟩
/-- behind an Add: the row is as it was, and lies apart -/
theorem OrdSt.added {B L D M k : Nat} {vo v : Value} {T : List (List UInt8)} {d : Dk} {F : List Ent} {w4 : World} (h : OrdSt B L D M k vo T v d F w4) {F6 : List Ent} {v6 : Value} {w6 : World} (c : WlCh L D M F F6 v v6 w4 w6) :
    OwnS w6 B vo T ∧ (∀ j, vo.ownBlock = some j → ¬ WFoot L D M F6 v6 j) := by
  refine ⟨own_ch h.own c.ch (fun j hj hs => h.off j hj hs), fun j hj hf => ?_⟩
  rcases c.foot j hf with h1 | h1
  · exact h.off j hj h1
  · have := (World.ownsRow.lt h.own j hj).2; omega
/-- behind the append of the text to the row -/
theorem ord8 {B L D M q : Nat} {vo v8 v6 : Value} {T Z : List (List UInt8)} {d6 : Dk} {F6 : List Ent} {w6 w8 : World} {o : Obj} (hl : LgAt (fun j => vo.ownBlock = some j ∨ j = q) w6 B L D M F6 nmL Z (recs Z).length v6) (hd : DkAt w6 B D M d6 F6)
    (ho : OwnS w6 B vo T) (hoff : ∀ j, vo.ownBlock = some j → ¬ WFoot L D M F6 v6 j) (hq : q < w6.heap.size) (hqo : ¬ vo.ownBlock = some q) (hg : (w6.alloc o).grownBy w8 vo.ownBlock) (hf : v8.ownBlock = vo.ownBlock ∨ v8.ownBlock = some (w6.alloc o).heap.size) :
    LgAt (fun j => v8.ownBlock = some j ∨ j = q) w8 B L D M F6 nmL Z (recs Z).length v6 ∧ DkAt w8 B D M d6 F6 ∧ (∀ j, v8.ownBlock = some j → ¬ WFoot L D M F6 v6 j) ∧ ¬ v8.ownBlock = some q ∧ w8.heap[q]? = w6.heap[q]? ∧ w6.heap.size ≤ w8.heap.size ∧ Below B w6 w8 := by
  have hb7 : Below w6.heap.size w6 (w6.alloc o) := (Below.refl _ _).alloc (Nat.le_refl _) _
  have hl7 := (hl.widen (E' := fun j => (vo.ownBlock = some j ∨ j = q) ∨ j = (w6.alloc o).heap.size) (fun j hj => by
    rcases hj with hj | hj
    · exact .inl hj
    · exact .inr (by rw [hj]; exact hb7.size))).below hb7
  have c : Ch (fun j => vo.ownBlock = some j) (w6.alloc o) w8 := Ch.of_grown hg (fun j hj => hj)
  have hL : ¬ vo.ownBlock = some L := fun e => hoff L e (.inl (.inl rfl))
  have hl8 := hl7.chE c (fun j _ hj => .inl (.inl hj)) hL
  refine ⟨hl8.widen (fun j hj => .inl ?_), (hd.below hb7).ch c (fun j hj hs => hoff j hs (.inl (.inr hj))), fun j hj => ?_, fun e => ?_, ?_, Nat.le_trans hb7.size c.size, ?_⟩
  · rcases hj with hj | hj
    · rcases hf with h1 | h1
      · exact .inl (.inl (by rw [← h1]; exact hj))
      · rw [h1] at hj; injection hj with hj; exact .inr hj.symm
    · exact .inl (.inr hj)
  · rcases hf with h1 | h1
    · exact hoff j (by rw [← h1]; exact hj)
    · rw [h1] at hj; injection hj with hj
      intro hw
      have := (hl.foot_lt hd hw).2
      have := hb7.size
      omega
  · rcases hf with h1 | h1
    · exact hqo (by rw [← h1]; exact e)
    · rw [h1] at e; injection e with e
      have := hb7.size
      omega
  · rw [c.block q (by have := hb7.size; omega) hqo]
    exact hb7.block q hq
  · have hBl : B ≤ w6.heap.size := Nat.le_trans hl.base (by have := hl.lt; omega)
    exact (hb7.mono hBl).trans (c.below (fun j hj => (World.ownsRow.lt ho j hj).1) (Nat.le_trans hBl hb7.size))

set_option maxHeartbeats 16000000 in
set_option maxRecDepth 100000 in
theorem walOrder_walk (A : Option Addr) (n c : Nat) (L0 : List (List UInt8)) (w : World) (hS : Rd w A n c L0) (_hR : ∀ x ∈ L0, x.length ≤ 140737488351232) :
    Calls Try.prog 7 #[.slice A n c] w (True_ w) := by
  have HS := Lib.hid hS
  have hnm := hS.nmax
  clear hS _hR
  go_enter Try.func7, Try.ntmps7
  go_wp2_with (fail)
  refine (dkNew 1073741824 (by decide) w).mono ?_
  rintro e w1 ⟨D, M, rfl, h1, hb1⟩
  have H1 := Lib.hid h1
  have HB1 := Lib.hid hb1
  clear h1 hb1
  go_wp2_with (fail)
  refine (alive14 w1).mono ?_
  rintro e w2 ⟨rfl, hb2⟩
  have H2 := Lib.hid (H1.out.below hb2)
  have HB2 : Hid (Below w.heap.size w w2) := Lib.hid (HB1.out.trans (hb2.mono HB1.out.size))
  clear hb2 H1 HB1
  by_cases hbig : 40 < n
  · as_aux_lemma =>
    have d1 : decide ((40 : Int) < (n : Int)) = true := by simp; omega
    go_wp2_with (fail)
    refine (alive14 w2).mono ?_
    rintro e w3 ⟨rfl, hb3⟩
    have HB3 : Hid (Below w.heap.size w w3) := Lib.hid (HB2.out.trans (hb3.mono HB2.out.size))
    clear hb3
    go_wp2_with (fail)
    go_ret
    exact ⟨rfl, HB3.out⟩
  have d1 : decide ((40 : Int) < (n : Int)) = false := by simp; omega
  have HN : Hid (n ≤ 40) := Lib.hid (by omega)
  clear hbig
  go_wp2_with (fail)
  refine (walOpen_new (E := fun j => (Value.slice none 0 0).ownBlock = some j) (by decide) H2.out nmL (by decide) nameL HB2.out.size (fun j hj => by cases hj)).mono ?_
  rintro e w3 ⟨L, v, rfl, hl3, h3, hc3, _, _⟩
  have HB3 := Lib.hid (HB2.out.trans (hc3.below H2.out HB2.out.size))
  have HST : Hid (OrdSt w.heap.size L D M 0 (.slice none 0 0) [] v ⟨1073741824, 0, 0, 0, 0, 0⟩ [] w3) := Lib.hid ⟨h3, hl3, newW_ok 1073741824 (by decide), newW_plain 1073741824 nmL, by show (0 : Int) ≤ _; omega, rfl, Nat.le_refl _, by rw [recs_nil]; exact Nat.zero_le _, (fun x hx => by cases hx), OwnS.nil _ _, fun j hj => by cases hj⟩
  clear hl3 h3 hc3 H2 HB2 d1
  go_wp2_with (fail)
  go_loopw [6, 7, 52, 9, 10, 11, 12, 13, 14] (fun vo go i _ _ _ _ _ _ wr => ∃ (k : Nat) (T : List (List UInt8)) (v : Value) (d : Dk) (F : List Ent), k ≤ n ∧ i = .int .i64 k ∧ go = .int .i64 ((recs T).length : Int) ∧ OrdSt w.heap.size L D M k vo T v d F wr ∧ Below w.heap.size w wr) (fun _ _ i _ _ _ _ _ _ _ => n - (intOf i).toNat)
  case atStart => exact ⟨0, [], v, _, [], Nat.zero_le _, rfl, rfl, HST.out, HB3.out⟩
  case round =>
    obtain ⟨wo, rfl⟩ : ∃ wo : World, wo = wr := ⟨_, rfl⟩
    obtain ⟨k, T, v, d, F, hk, rfl, rfl, hst, hb⟩ := hrel
    obtain ⟨vo, hvo⟩ : ∃ vo, vo = u6 := ⟨_, rfl⟩
    subst hvo
    clear HST HB3
    have HST := Lib.hid hst
    have HB := Lib.hid hb
    clear hst hb
    by_cases hlt : k < n
    · as_aux_lemma =>
      obtain ⟨b, o, Ai, ci, rfl, hbl, hcl, hB⟩ := HS.out.read hlt
      have hcc := (HB.out.cell (p := ⟨b, o + k, none⟩) hbl).trans hcl
      have e1 : (k : Int) < (n : Int) := by omega
      have e2 : (0 : Int) ≤ (k : Int) := by omega
      have HLT := Lib.hid hlt
      obtain ⟨m, m1, m2, hm⟩ := min100W (L0.getD k []).length
      have hy1 := hB.nmax
      have hy2 := hB.le
      have hmc : m ≤ ci := by omega
      have hmci : (m : Int) ≤ (ci : Int) := by omega
      have hm0 : (0 : Int) ≤ (m : Int) := by omega
      have HX := Lib.hid ((hB.take m1).below HB.out)
      have HM : Hid (m ≤ 100) := Lib.hid m2
      have HW1 : Hid (wrap64 ((k : Int) + 1) = (k : Int) + 1) := Lib.hid (IntWalk.wrap64_in _ (by omega))
      have hci := hB.max
      clear hB hbl hcl hlt hk
      generalize (L0.getD k []) = y at *
      generalize y.take m = X at *
      have HXL : Hid (X.length = m) := Lib.hid HX.out.len
      have hsx := HX.out.str (P := Try.prog) 27 5 9 Try.underlying27 Try.underlying5 Try.underlying9
      have tok1 : Hid True := Lib.hid trivial
      go_wp2_with (have _t := tok1; with_reducible refine wpList_convT X m wo.heap.size (by kernel_rfl) HXL.out (by have := HM.out; simp only [maxLen]; omega) rfl ?_; intro cap4 w4 HC4 hb4; have Hb4 := Lib.hid hb4; clear tok1 hb4 _t)
      obtain ⟨q, hq⟩ : ∃ q, q = wo.heap.size := ⟨_, rfl⟩
      rw [← hq] at HC4 ⊢
      have HQ := Lib.hid hq
      clear hq hsx hcc
      have H4 := Lib.hid (HST.out.below Hb4.out)
      have HB4 := Lib.hid (HB.out.trans (Hb4.out.mono HB.out.size))
      have HG4 : Hid (LgAt (fun j => vo.ownBlock = some j ∨ j = q) w4 w.heap.size L D M F nmL T (recs T).length v) := Lib.hid ((HST.out.lg.widen (fun j hj => by
        rcases hj with hj | hj
        · exact .inl hj
        · exact .inr (by rw [hj, HQ.out]; exact Nat.le_refl _))).below Hb4.out)
      have HQW : Hid (¬ WFoot L D M F v q) := Lib.hid (fun hf => by have := (HST.out.lg.foot_lt HST.out.dk hf).2; have := HQ.out; omega)
      have HQO : Hid (¬ vo.ownBlock = some q) := Lib.hid (fun e => by have := (World.ownsRow.lt HST.out.own q e).2; have := HQ.out; omega)
      have HQL : Hid (q < w4.heap.size) := Lib.hid HC4.out.hg
      have HQB : Hid (w.heap.size ≤ q) := Lib.hid (by have := HB.out.size; have := HQ.out; omega)
      clear HST HB Hb4 HX
      refine (walAddP HG4.out H4.out.dk H4.out.ok H4.out.pl (by have := H4.out.op; have := HN.out; have := HLT.out; omega) (by decide) nameL (some ⟨q, 0, none⟩) m cap4 X HC4.out.bs (fun _ a ha hf => by injection ha with ha; subst ha; exact HQW.out (.inl (.inr hf))) (by have := H4.out.ln; have := HN.out; have := HLT.out; omega) HB4.out.size (fun j hj => by
        rcases hj with hj | hj
        · exact (World.ownsRow.lt H4.out.own j hj).2
        · rw [hj]; exact HQL.out)).mono ?_
      rintro e w6 ⟨F6, v6, d6, rfl, h6, hl6, hc6, hok6, hp6, hop6, hr6⟩
      have HB6 := Lib.hid (HB4.out.trans (hc6.below HG4.out H4.out.dk HB4.out.size))
      obtain ⟨ho6, hoff6⟩ := H4.out.added hc6
      have HO6 := Lib.hid ho6
      have HOF6 := Lib.hid hoff6
      have hq6 : w6.heap[q]? = w4.heap[q]? := hc6.ch.block q HQL.out HQW.out
      have HQ6 := Lib.hid hq6
      have HQL6 : Hid (q < w6.heap.size) := Lib.hid (Nat.lt_of_lt_of_le HQL.out hc6.ch.size)
      have HQW6 : Hid (¬ WFoot L D M F6 v6 q) := Lib.hid (fun hf => by
        rcases hc6.foot q hf with h1 | h1
        · exact HQW.out h1
        · have := HQL.out; omega)
      clear hq6 ho6 hoff6 hc6
      rw [H4.out.rm] at hl6 hp6 hr6
      rw [H4.out.rm]
      have HRM := Lib.hid hr6
      have HOP : Hid (d6.ops ≤ 3 * ((k + 1 : Nat) : Int)) := Lib.hid (by have := H4.out.op; omega)
      have HOK := Lib.hid hok6
      clear hr6 hop6 hok6
      by_cases hz : m = 0
      · as_aux_lemma =>
        subst hz
        have hX0 : X = [] := List.eq_nil_of_length_eq_zero HXL.out
        subst hX0
        have ea := addX_zeroW (r := 1073741824) (rs := T) (l := []) rfl
        rw [ea] at hl6 hp6 ⊢
        have HNX : Hid (OrdSt w.heap.size L D M (k + 1) vo T v6 d6 F6 w6) := Lib.hid ⟨h6, hl6.widen (fun j hj => .inl (.inl hj)), HOK.out, hp6, HOP.out, HRM.out, by have := H4.out.ln; omega, by have := H4.out.sz; omega, H4.out.le, HO6.out, HOF6.out⟩
        have n1 : (txt ([] : List UInt8)).toList.isEmpty = true := by decide +kernel
        have n2 : ((txt ([] : List UInt8)).toList != []) = false := by decide +kernel
        clear ea h6 hl6 hp6 m1 hm hmc hmci hm0
        have w1' := HW1.out
        go_wp2_with (fail)
        exact ⟨⟨k + 1, T, v6, d6, F6, HLT.out, by go_num, rfl, HNX.out, HB6.out⟩, by have := HLT.out; (try rw [w1']); clear w1'; simp [intOf]; omega⟩
      have hm1 : 1 ≤ m := by omega
      have ea := addX_okW (r := 1073741824) (rs := T) (l := X) (by rw [HXL.out]; exact okLenW hm1 (by have := HM.out; omega)) (by have := H4.out.sz; have := HLT.out; have := HN.out; have := HXL.out; have := HM.out; omega)
      rw [ea] at hl6 hp6 ⊢
      clear ea
      obtain ⟨Z, hZ⟩ : ∃ Z, Z = T ++ [X] := ⟨_, rfl⟩
      rw [← hZ] at hl6 hp6
      have HZ := Lib.hid hZ
      have HZL : Hid (Z.length = T.length + 1) := Lib.hid (by rw [hZ]; simp)
      have HZS : Hid ((recs Z).length = (recs T).length + 8 + m) := Lib.hid (by rw [hZ, recs_snocW, HXL.out])
      obtain ⟨x0, X', hX⟩ : ∃ x0 X', X = x0 :: X' := by
        cases X with
        | nil => exact absurd HXL.out (by simp; omega)
        | cons a b => exact ⟨a, b, rfl⟩
      have cq4 : w4.cell? ⟨q, 0, none⟩ = some (u8 x0) := HC4.out.cell 0 x0 (by rw [hX]; rfl)
      have fq4 : w4.frozen? ⟨q, 0, none⟩ = false := HC4.out.free 0 (by have := HC4.out.hc; omega)
      have CQ6 : Hid (w6.cell? ⟨q, 0, none⟩ = some (u8 x0) ∧ w6.frozen? ⟨q, 0, none⟩ = false) := Lib.hid (by
        constructor
        · rw [← cq4]; unfold World.cell?; rw [HQ6.out]
        · rw [← fq4]; unfold World.frozen?; rw [HQ6.out])
      have n1 : (txt X).toList.isEmpty = false := by rw [Go.ByteArray.toList_eq, hX]; rfl
      have n2 : ((txt X).toList != []) = true := by rw [Go.ByteArray.toList_eq, hX]; rfl
      have n3 : X.isEmpty = false := by rw [hX]; rfl
      have n4 : X ≠ [] := by rw [hX]; simp
      have n5 : (X == []) = false := by rw [hX]; rfl
      have n6 : ((txt X).toList == []) = false := by rw [Go.ByteArray.toList_eq, hX]; rfl
      have hxs : (txt X).size = m := by rw [txt_size, HXL.out]
      have hxl := HXL.out
      obtain ⟨T1, hT1⟩ : ∃ T1, T1 = (recs T).length + 8 := ⟨_, rfl⟩
      have HG1 : Hid (wrap64 (((recs T).length : Int) + 8) = (T1 : Int)) := Lib.hid (by rw [IntWalk.wrap64_in _ (by have := H4.out.sz; have := HLT.out; have := HN.out; omega)]; omega)
      have HG2 : Hid (wrap64 ((T1 : Int) + (m : Int)) = ((recs Z).length : Int)) := Lib.hid (by rw [IntWalk.wrap64_in _ (by have := H4.out.sz; have := HLT.out; have := HN.out; have := HM.out; omega), HZS.out]; omega)
      have HXOR := Lib.hid (xorW x0)
      have HXX := Lib.hid hX
      have hb7 : Below w6.heap.size w6 (w6.alloc (.cells #[str X] 9)) := (Below.refl _ _).alloc (Nat.le_refl _) _
      have HR7 : Hid ((w6.alloc (.cells #[str X] 9)).heap[w6.heap.size]? = some (.cells #[str X] 9)) := Lib.hid (heap_alloc_new w6 _)
      have HO7 : Hid (OwnS (w6.alloc (.cells #[str X] 9)) w.heap.size vo T) := Lib.hid (HO6.out.below hb7)
      have HBZ : Hid (w.heap.size ≤ (w6.alloc (.cells #[str X] 9)).heap.size) := Lib.hid (Nat.le_trans HB6.out.size hb7.size)
      have HTL : Hid (T.length ≤ 40) := Lib.hid (by have := H4.out.ln; have := HLT.out; have := HN.out; omega)
      have HL6 := Lib.hid hl6
      have H6 := Lib.hid h6
      have HP6 := Lib.hid hp6
      clear hX hZ hT1 hl6 h6 hp6 hb7 cq4 fq4 hz m1 hm hmc hmci hm0
      have g1 := HG1.out
      have g2 := HG2.out
      have hxor := HXOR.out
      have tok2 : Hid True := Lib.hid trivial
      go_wp2_with (at_builtin; have _t := tok2; go_loud ((refine wpList_str1 rfl (.tmp 74) (.tmp 76) rfl w.heap.size vo T rfl HO7.out w6.heap.size X rfl HR7.out (by have := HTL.out; clear g1 g2; omega) HBZ.out ?_; intro v8 w8 ho8 hg8 hf8; rw [← HZ.out] at ho8; obtain ⟨lg8, d8, off8, hq8, hr8, hs8, hb8⟩ := ord8 HL6.out H6.out HO6.out HOF6.out HQL6.out HQO.out hg8 hf8; have HO8 := Lib.hid ho8; have LG8 := Lib.hid lg8; have D8 := Lib.hid d8; have OF8 := Lib.hid off8; have HQ8 := Lib.hid hq8; have HB8 : Hid (Below w.heap.size w w8) := Lib.hid (HB6.out.trans hb8); have HQL8 : Hid (q < w8.heap.size) := Lib.hid (Nat.lt_of_lt_of_le HQL6.out hs8); have z0 : w8.cell? ⟨q, 0, none⟩ = some (u8 x0) := (by rw [← CQ6.out.1]; unfold World.cell?; rw [hr8]); have z1 : w8.frozen? ⟨q, 0, none⟩ = false := (by rw [← CQ6.out.2]; unfold World.frozen?; rw [hr8]); clear tok2 ho8 hg8 hf8 lg8 d8 off8 hq8 hr8 hs8 hb8 _t)))
      have c9 : Ch (At1 q) w8 (w8.setCell ⟨q, 0, none⟩ (.int .u8 ((x0.toNat ^^^ 1 : Nat) : Int))) := (Ch.refl _ w8).set1 0 _
      have LG9 := Lib.hid (LG8.out.chE c9 (fun j _ hj => .inr hj) (fun hs => HQW6.out (by rw [← show L = q from hs]; exact .inl (.inl rfl))))
      have D9 := Lib.hid (D8.out.ch c9 (fun j hj hs => HQW6.out (by rw [← show j = q from hs]; exact .inl (.inr hj))))
      have O9 : Hid (OwnS _ w.heap.size v8 Z) := Lib.hid (own_ch HO8.out c9 (fun j hj hs => HQ8.out (by rw [← show j = q from hs]; exact hj)))
      have HB9 := Lib.hid (HB8.out.trans (c9.below (fun j hj => by rw [show j = q from hj]; exact HQB.out) HB8.out.size))
      clear c9 g1 hxor z0 z1
      generalize w8.setCell ⟨q, 0, none⟩ (.int .u8 ((x0.toNat ^^^ 1 : Nat) : Int)) = w9 at *
      rw [g2]
      clear g2
      refine (walLen LG9.out).mono ?_
      rintro e w10 ⟨rfl, rfl⟩
      obtain ⟨P, hP⟩ : ∃ P, P = Z.length := ⟨_, rfl⟩
      rw [← hP]
      have HP : Hid (P = T.length + 1) := Lib.hid (by rw [hP, HZL.out])
      have l1 : wrap64 ((P : Int) - 1) = (T.length : Int) := by rw [IntWalk.wrap64_in _ (by have := HP.out; have := HTL.out; omega)]; have := HP.out; omega
      have HGT : Hid (Z.getD T.length [] = X) := Lib.hid (by rw [HZ.out, List.getD_eq_getElem?_getD, List.getElem?_append_right (Nat.le_refl _)]; simp)
      clear hP
      go_wp2_with (fail)
      clear l1
      refine (walGet LG9.out T.length (by rw [HZL.out]; omega) (by rw [HGT.out, HXL.out]; have := HM.out; omega)).mono ?_
      rw [HGT.out]
      rintro e w11 ⟨A11, c11, rfl, hB11, hfr, hb11⟩
      obtain ⟨y1, o1, rfl, _, _⟩ := hB11.at_ (by rw [HXL.out]; exact hm1)
      obtain ⟨hy, ho1, hrow⟩ := hfr (by rw [HXL.out]; exact hm1) _ rfl
      simp only at hy ho1 hrow
      subst ho1
      have cy : w11.cell? ⟨y1, 0, none⟩ = some (u8 x0) := by rw [cell_of_row w11 y1 0 _ _ _ hrow]; rw [HXX.out]; rfl
      have fy : w11.frozen? ⟨y1, 0, none⟩ = false := by simp [World.frozen?, hrow]
      have hsx := hB11.str (P := Try.prog) 27 5 9 Try.underlying27 Try.underlying5 Try.underlying9
      rw [HXL.out] at hsx ⊢
      have LG11 := Lib.hid ((LG9.out.widen (E' := fun j => (v8.ownBlock = some j ∨ j = q) ∨ j = y1) (fun j hj => by
        rcases hj with hj | hj
        · exact .inl hj
        · exact .inr (by rw [hj]; exact hy))).below hb11)
      have D11 := Lib.hid (D9.out.below hb11)
      have O11 : Hid (OwnS w11 w.heap.size v8 Z) := Lib.hid (O9.out.below hb11)
      have HB11 := Lib.hid (HB9.out.trans (hb11.mono HB9.out.size))
      have HNW : Hid (¬ WFoot L D M F6 v6 y1) := Lib.hid (fun hf => by have := (LG9.out.foot_lt D9.out hf).2; omega)
      have HNO : Hid (¬ v8.ownBlock = some y1) := Lib.hid (fun e => by have := (World.ownsRow.lt O9.out y1 e).2; omega)
      have HYB : Hid (w.heap.size ≤ y1) := Lib.hid (Nat.le_trans HB9.out.size hy)
      have sq : ((txt X).toList != (txt X).toList) = false := by simp
      have sq2 : (X != X) = false := by simp
      clear hB11 hfr hb11 hy hrow LG9 D9 O9 HB9 LG8 D8 HO8 HB8 HL6 H6 HO6 HO7 HR7
      have hxor := HXOR.out
      clear hxs hxl n1 n2 n3 n4 n5 n6
      go_wp2_with (fail)
      clear hsx cy fy
      (try rw [HW1.out])
      have c12 : Ch (At1 y1) w11 (w11.setCell ⟨y1, 0, none⟩ (.int .u8 ((x0.toNat ^^^ 1 : Nat) : Int))) := (Ch.refl _ w11).set1 0 _
      have HNX : Hid (OrdSt w.heap.size L D M (k + 1) v8 Z v6 d6 F6 (w11.setCell ⟨y1, 0, none⟩ (.int .u8 ((x0.toNat ^^^ 1 : Nat) : Int)))) := Lib.hid ⟨D11.out.ch c12 (fun j hj hs => HNW.out (by rw [← show j = y1 from hs]; exact .inl (.inr hj))), (LG11.out.chE c12 (fun j _ hj => .inr hj) (fun hs => HNW.out (by rw [← show L = y1 from hs]; exact .inl (.inl rfl)))).widen (fun j hj => .inl (.inl (.inl hj))), HOK.out, HP6.out, HOP.out, HRM.out, by rw [HZL.out]; have := H4.out.ln; omega, by rw [HZS.out]; have := H4.out.sz; have := HM.out; omega, (fun x hx => by
        rw [HZ.out] at hx
        rcases List.mem_append.1 hx with hx | hx
        · exact H4.out.le x hx
        · rw [List.mem_singleton.1 hx, HXL.out]; exact HM.out), own_ch O11.out c12 (fun j hj hs => HNO.out (by rw [← show j = y1 from hs]; exact hj)), OF8.out⟩
      have HBX := Lib.hid (HB11.out.trans (c12.below (fun j hj => by rw [show j = y1 from hj]; exact HYB.out) HB11.out.size))
      exact ⟨⟨k + 1, Z, v6, d6, F6, HLT.out, by go_num, rfl, HNX.out, HBX.out⟩, by have := HLT.out; simp [intOf]; omega⟩
    · as_aux_lemma =>
      obtain rfl : k = n := by omega
      obtain ⟨Av, cv, rfl, hss, _⟩ := HST.out.own.ss
      have HSS := Lib.hid hss
      have HTL : Hid (T.length ≤ 40) := Lib.hid (by have := HST.out.ln; have := HN.out; omega)
      have htn := hss.nmax
      clear hss hlt hk
      go_wp2_with (fail)
      go_loopw [112, 15, 16, 17, 18] (fun i _ _ _ _ wr => ∃ j : Nat, j ≤ T.length ∧ i = .int .i64 j ∧ Below wo.heap.size wo wr) (fun i _ _ _ _ _ => T.length - (intOf i).toNat)
      case atStart => exact ⟨0, Nat.zero_le _, rfl, Below.refl _ _⟩
      case round =>
        obtain ⟨wi, rfl⟩ : ∃ wi : World, wi = wr := ⟨_, rfl⟩
        obtain ⟨j, hj, rfl, hbi⟩ := hrel
        have HBI := Lib.hid hbi
        have HSI := Lib.hid (HST.out.below hbi)
        have HSS2 := Lib.hid (HSS.out.below hbi)
        have HBW := Lib.hid (HB.out.trans (hbi.mono HB.out.size))
        clear hbi HST HSS
        by_cases hlt : j < T.length
        · as_aux_lemma =>
          obtain ⟨b, o, rfl, _, hc⟩ := HSS2.out.read hlt
          have e1 : (j : Int) < (T.length : Int) := by omega
          have e2 : (0 : Int) ≤ (j : Int) := by omega
          have HJ := Lib.hid hlt
          have HYL : Hid ((T.getD j []).length ≤ 65536) := Lib.hid (by
            have := HSI.out.le (T.getD j []) (by rw [List.getD_eq_getElem?_getD, List.getElem?_eq_getElem hlt]; exact List.getElem_mem _)
            omega)
          have HW1 : Hid (wrap64 ((j : Int) + 1) = (j : Int) + 1) := Lib.hid (IntWalk.wrap64_in _ (by have := HTL.out; omega))
          obtain ⟨Y, hY⟩ : ∃ Y, Y = T.getD j [] := ⟨_, rfl⟩
          rw [← hY] at hc HYL
          have HY := Lib.hid hY
          clear hlt hj hY
          go_wp2_with (fail)
          clear hc
          refine (walGet HSI.out.lg j HJ.out (by rw [← HY.out]; exact HYL.out)).mono ?_
          rw [← HY.out]
          rintro e w7 ⟨A7, c7, rfl, hB7, _, hb7⟩
          have hsx := hB7.str (P := Try.prog) 27 5 9 Try.underlying27 Try.underlying5 Try.underlying9
          have sq : ((txt Y).toList != (txt Y).toList) = false := by simp
          have sq2 : (Y != Y) = false := by simp
          have HB7 := Lib.hid (HBI.out.trans (hb7.mono HBI.out.size))
          clear hB7 hb7
          have w1' := HW1.out
          go_wp2_with (fail)
          exact ⟨⟨j + 1, HJ.out, by go_num, HB7.out⟩, by have := HJ.out; (try rw [w1']); clear w1' e1 e2 hsx sq sq2; simp [intOf]; omega⟩
        · as_aux_lemma =>
          obtain rfl : j = T.length := by omega
          clear hlt hj
          have HU : Hid (d.used = ((recs T).length : Int)) := Lib.hid HSI.out.pl.hu
          have HY : Hid (syncedOf (fsOf F) nmL = ((recs T).length : Int)) := Lib.hid (by
            unfold syncedOf
            rcases HSI.out.pl.hw.2 with ⟨h1, h2⟩ | h1
            · rw [h1, h2]; rfl
            · rw [h1])
          go_wp2_with (fail)
          refine (walLen HSI.out.lg).mono ?_
          rintro e w7 ⟨rfl, rfl⟩
          go_wp2_with (fail)
          refine (walGood HSI.out.lg).mono ?_
          rintro e w8 ⟨rfl, rfl⟩
          go_wp2_with (fail)
          refine (dkUsed HSI.out.dk).mono ?_
          rintro e w7 ⟨rfl, rfl⟩
          rw [HU.out]
          go_wp2_with (fail)
          refine (dkSynced HSI.out.dk nmL).mono ?_
          rintro e w8 ⟨rfl, rfl⟩
          rw [HY.out]
          go_wp2_with (fail)
          go_ret
          exact ⟨rfl, HBW.out⟩
end Go.Proofs.Ythblbmbefhlbjaa
