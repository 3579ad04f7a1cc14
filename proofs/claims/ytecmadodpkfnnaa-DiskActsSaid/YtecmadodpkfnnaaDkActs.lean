/- DiskActs, walked. -/
import Derived.Test.YtecmadodpkfnnaaRk11
import Derived.Test.YtecmadodpkfnnaaDkRoom
namespace Go.Proofs.Ytecmadodpkfnnaa
open Go.RowKit Go.MapKept

def roomI (n : Int) : Int := (IntKind.u64.wrap n) % 4000
theorem roomI_in (n : Int) : 0 ≤ roomI n ∧ roomI n < 4000 := by
  have h0 : 0 ≤ IntKind.u64.wrap n := by simp [IntKind.wrap, IntKind.bits, IntKind.signed]; omega
  unfold roomI
  omega
theorem dkRoomI (n : Int) (w : World) : Calls Try.prog 22 #[.int .i64 n] w fun e w' => e = .returned (.int .i64 (roomI n)) ∧ w' = w := by
  have h0 : 0 ≤ IntKind.u64.wrap n := by simp [IntKind.wrap, IntKind.bits, IntKind.signed]; omega
  have h1 : 0 ≤ (IntKind.u64.wrap n) % 4000 := by omega
  have h2 : (IntKind.u64.wrap n) % 4000 < 4000 := by omega
  have h3 : (IntKind.u64.wrap n).tmod 4000 = (IntKind.u64.wrap n) % 4000 := Int.tmod_eq_emod_of_nonneg h0
  have h4 : wrap64 ((IntKind.u64.wrap n) % 4000) = (IntKind.u64.wrap n) % 4000 := IntWalk.wrap64_in _ (by omega)
  have H := Lib.hid (And.intro h1 (And.intro h2 (And.intro h3 h4)))
  clear h0 h1 h2 h3 h4
  go_enter Try.func22, Try.ntmps22
  go_wp2_with (fail)
  go_ret
  rw [H.out.2.2.1, H.out.2.2.2]
  exact ⟨rfl, rfl⟩
section
variable {w w' : World} {B C D M G : Nat} {E : Nat → Prop} {r : Rk} {L : Fs} {v : Value} {P : List Value} {d : Dk} {fs : Fs} {F : List Ent}
theorem apart_rk (h : DkAt w B D M d F) (hr : RkAt w C G E r L v P) {k : Nat} (h1 : RF G v k) (h2 : DFoot D M F k) : False := by
  have hk : ∃ cur t f, w.heap[k]? = some (.cells cur t f) ∧ (t = TRD ∨ t = TRF) := by
    rcases h1 with rfl | h1
    · exact ⟨_, _, _, hr.row, .inl rfl⟩
    · obtain ⟨cur, hc⟩ := own3_ty hr.own k h1
      exact ⟨_, _, _, hc, .inr rfl⟩
  obtain ⟨cur, t, f, hc, ht⟩ := hk
  rcases h2 with rfl | rfl | ⟨e, he, rfl | h2⟩
  · rw [h.row] at hc
    simp only [Option.some.injEq, Obj.cells.injEq] at hc
    rcases ht with rfl | rfl
    · exact absurd hc.2.1 (by decide)
    · exact absurd hc.2.1 (by decide)
  · exact h.map.ne hc rfl
  · rw [(h.files e he).row] at hc
    simp only [Option.some.injEq, Obj.cells.injEq] at hc
    rcases ht with rfl | rfl
    · exact absurd hc.2.1 (by decide)
    · exact absurd hc.2.1 (by decide)
  · obtain ⟨cur', hc'⟩ := own3_ty (s := 1) (show w.ownsRow B 5 1 e.v e.f.bs.length (u8s e.f.bs) from (h.files e he).own) k h2
    rw [hc'] at hc
    simp only [Option.some.injEq, Obj.cells.injEq] at hc
    rcases ht with rfl | rfl
    · exact absurd hc.2.1 (by decide)
    · exact absurd hc.2.1 (by decide)
/-- the document's disk, over what the program's disk does -/
theorem RkAt.over {F' : List Ent} (h : DkAt w B D M d F) (hr : RkAt w C G (DFoot D M F) r L v P) (c : DkCh D M F F' w w') : RkAt w' C G (DFoot D M F') r L v P :=
  hr.next c.ch (fun _ hk => hk) (fun hk => apart_rk h hr (.inl rfl) hk) (fun k hv hk => apart_rk h hr (.inr hv) hk) (fun k hk hf => by
    rcases hf with hf | hf | hf
    · exact .inl hf
    · exact .inr (.inl hf)
    · rcases c.foot k hf with hf | hf
      · exact .inr (.inr hf)
      · omega)
theorem RkAt.fresh (w : World) (n : Int) (hC : C ≤ w.heap.size) : RkAt (w.alloc (.cells #[.slice none 0 0, .int .i64 n, .int .i64 0, .int .i64 0, .int .i64 0, .int .i64 0] TRD)) C w.heap.size E ⟨n, 0, 0, 0, 0⟩ [] (.slice none 0 0) [] :=
  ⟨hC, heap_alloc_new w _, rfl, World.ownsRow_nil _ _ _ 3, fun i e d h => by simp at h⟩
end
set_option maxHeartbeats 16000000 in
set_option maxRecDepth 100000 in
theorem diskActs_walk (x : Int) (A : Option Addr) (n c : Nat) (L : List DAct) (w : World) (_wf : (Lit.int .i64 x).wf = true) (hL : DAs w A n c L) : Calls Try.prog 9 #[.int .i64 x, .slice A n c] w (True_ w) := by
  have HL := Lib.hid hL
  have hn : n ≤ 140737488351232 := hL.2.2.2.1
  clear hL
  go_enter Try.func9, Try.ntmps9
  go_wp2_with (fail)
  refine (dkAlive w).mono ?_
  rintro e w1 ⟨rfl, hb1⟩
  have HB1 := Lib.hid hb1
  have HL1 := Lib.hid (HL.out.below hb1)
  clear hb1
  go_wp2_with (fail)
  refine (dkGreat2 A n c L w1 HL1.out).mono ?_
  rintro e w2 ⟨bg, rfl, h200, hb2⟩
  have HB2 := Lib.hid (HB1.out.trans (hb2.mono HB1.out.size))
  have HL2 := Lib.hid (HL1.out.below hb2)
  have H200 := Lib.hid h200
  clear hb2 h200
  cases bg
  · have HN : Hid (n ≤ 200) := Lib.hid (by
      rcases Nat.lt_or_ge 200 n with h | h
      · exact absurd (H200.out h) (by decide)
      · exact h)
    clear H200
    go_wp2_with (fail)
    obtain ⟨r, hr⟩ : ∃ r, r = roomI x := ⟨_, rfl⟩
    have HR : Hid (0 ≤ r ∧ r < 4000) := Lib.hid (by rw [hr]; exact roomI_in x)
    have HRI : Hid (∀ w, Calls Try.prog 22 #[.int .i64 x] w fun e w' => e = .returned (.int .i64 r) ∧ w' = w) := Lib.hid (fun w => by rw [hr]; exact dkRoomI x w)
    clear hr
    refine (HRI.out w2).mono ?_
    rintro e w3 ⟨rfl, rfl⟩
    go_wp2_with (fail)
    refine (dkNew r (by have := HR.out; omega) w3).mono ?_
    rintro e w4 ⟨D, M, rfl, h4, hb4⟩
    have H4 := Lib.hid h4
    have HB4 := Lib.hid (HB2.out.trans (hb4.mono HB2.out.size))
    have HZ4 : Hid (w3.heap.size ≤ w4.heap.size) := Lib.hid hb4.size
    clear h4 hb4
    have HI0 := Lib.hid (newD_ok r (by have := HR.out; omega))
    go_wp2_with (fail)
    refine (HRI.out w4).mono ?_
    rintro e w5 ⟨rfl, hw5⟩
    obtain rfl := hw5.symm
    have HBA : Hid (Below w4.heap.size w4 (w4.alloc (.cells #[.slice none 0 0, .int .i64 r, .int .i64 0, .int .i64 0, .int .i64 0, .int .i64 0] TRD))) := Lib.hid ((Below.refl _ _).alloc (Nat.le_refl _) _)
    have HK5 : Hid (RkAt (w4.alloc (.cells #[.slice none 0 0, .int .i64 r, .int .i64 0, .int .i64 0, .int .i64 0, .int .i64 0] TRD)) w3.heap.size w4.heap.size (DFoot D M []) ⟨r, 0, 0, 0, 0⟩ [] (.slice none 0 0) []) := Lib.hid (RkAt.fresh w4 r HZ4.out)
    have H5 := Lib.hid (H4.out.below HBA.out)
    have HB5 := Lib.hid (HB4.out.trans (HBA.out.mono HB4.out.size))
    have HZ5 : Hid (w3.heap.size ≤ (w4.alloc (.cells #[.slice none 0 0, .int .i64 r, .int .i64 0, .int .i64 0, .int .i64 0, .int .i64 0] TRD)).heap.size) := Lib.hid (Nat.le_trans HZ4.out HBA.out.size)
    have HZ2 : Hid (w.heap.size ≤ w3.heap.size) := Lib.hid HB2.out.size
    have HSI : Hid (Sim ⟨r, 0, 0, 0, 0, 0⟩ (fsOf []) ⟨r, 0, 0, 0, 0⟩ []) := Lib.hid ⟨rfl, rfl, rfl, rfl, rfl, List.Perm.nil, List.Pairwise.nil⟩
    obtain ⟨G, hG⟩ : ∃ G, G = w4.heap.size := ⟨_, rfl⟩
    rw [← hG] at HK5
    go_wp2_with (fail)
    rw [← hG]
    clear hG
    generalize (w4.alloc (.cells #[.slice none 0 0, .int .i64 r, .int .i64 0, .int .i64 0, .int .i64 0, .int .i64 0] TRD)) = w6 at *
    clear H4 HB4 HZ4 HBA
    go_loopw [42] (fun i wr => ∃ (k : Nat) (d : Dk) (F : List Ent) (rk : Rk) (K : Fs) (v : Value) (P : List Value), k ≤ n ∧ i = .int .i64 k ∧ DkAt wr w3.heap.size D M d F ∧ RkAt wr w3.heap.size G (DFoot D M F) rk K v P ∧ Sim d (fsOf F) rk K ∧ FsOk d (fsOf F) ∧ d.ops ≤ k ∧ F.length ≤ k ∧ Below w.heap.size w wr ∧ w3.heap.size ≤ wr.heap.size) (fun i _ => n - (intOf i).toNat)
    case atStart => exact ⟨0, _, _, _, _, _, _, by omega, rfl, H5.out, HK5.out, HSI.out, HI0.out, Int.le_refl _, by simp, HB5.out, HZ5.out⟩
    case round =>
      obtain ⟨wo, rfl⟩ : ∃ wo : World, wo = wr := ⟨_, rfl⟩
      obtain ⟨k, d, F, rk, K, v, P, hk, rfl, hd, hrk, hsi, hok, hops, hfl, hb, hz⟩ := hrel
      have HOK := Lib.hid hok
      have HOP := Lib.hid hops
      have HFL := Lib.hid hfl
      have HB := Lib.hid hb
      have HZ := Lib.hid hz
      have HD := Lib.hid hd
      have HRK := Lib.hid hrk
      have HSI := Lib.hid hsi
      clear hd hrk hsi hok hops hfl hb hz H5 HB5 HZ5 HI0 HK5
      by_cases hlt : k < n
      · obtain ⟨x, hxk⟩ : ∃ x, L[k]? = some x := ⟨_, List.getElem?_eq_getElem (by have := HL.out.1; omega)⟩
        obtain ⟨b0, o0, hA0, hx0⟩ := HL.out.2.2.2.2 (by omega)
        obtain ⟨⟨_, _, _, _, _, A5, m, c', e5, hB5w, _⟩, _⟩ := hx0 k x hxk
        obtain ⟨b, o, rfl, hx⟩ := (HL.out.below HB.out).2.2.2.2 (by omega)
        obtain ⟨⟨c0, c1, c2, c3, c4, A5', m', c'', c5, hB5, hc'⟩, hf⟩ := hx k x hxk
        have hsame : (Value.slice A5' m' c'') = .slice A5 m c' := by
          have h1 : b0 = b ∧ o0 = o := by injection hA0 with h; injection h with h1 h2; exact ⟨h1.symm, h2.symm⟩
          obtain ⟨rfl, rfl⟩ := h1
          have h2 := (HB.out.cell (p := ⟨b0, o0 + k * 6 + 5, none⟩) (World.block_lt_of_cell? w _ e5)).trans e5
          rw [c5] at h2
          exact Option.some.inj h2
        injection hsame with s1 s2 s3
        subst s1 s2 s3
        have HFX := Lib.hid hf
        have HBB := Lib.hid hB5
        have HBWo := Lib.hid hB5w
        have HMB : Hid (m' ≤ 140737488355328) := Lib.hid (by have := hB5.2.1; omega)
        clear hx0 e5 hB5w hA0
        have hbo : Below wo.heap.size wo (wo.alloc (actO x.kd x.n x.k x.a x.b A5' m' c'')) := (Below.refl _ _).alloc (Nat.le_refl _) _
        have H5 := Lib.hid (HD.out.below hbo)
        have HK5 := Lib.hid (HRK.out.below hbo)
        have HB5 := Lib.hid (HB.out.trans (hbo.mono HB.out.size))
        have HZ5 : Hid (w3.heap.size ≤ (wo.alloc (actO x.kd x.n x.k x.a x.b A5' m' c'')).heap.size) := Lib.hid (Nat.le_trans HZ.out hbo.size)
        have HBS5 := Lib.hid (HBB.out.below hbo)
        have HFT7 : Hid (∀ k, DFoot D M F k → k < wo.heap.size) := Lib.hid (fun k hk => (HD.out.foot_lt hk).2)
        have HX5 : Hid ((wo.alloc (actO x.kd x.n x.k x.a x.b A5' m' c'')).heap[wo.heap.size]? = some (actO x.kd x.n x.k x.a x.b A5' m' c'')) := Lib.hid (heap_alloc_new wo _)
        clear hx hB5 hf hxk hbo HD HB HZ HBB HRK
        go_wp2_with (fail)
        generalize (wo.alloc (actO x.kd x.n x.k x.a x.b A5' m' c'')) = w5 at *
        clear c0 c1 c2 c3 c4 c5
        obtain ⟨O, hO⟩ : ∃ O, O = callD d (fsOf F) x.kd x.n x.k x.a x.b x.l := ⟨_, rfl⟩
        have HCO : Hid (FsOk O.2.1 O.2.2 ∧ O.2.1.ops ≤ ((k + 1 : Nat) : Int)) := Lib.hid (by rw [hO]; exact ⟨callD_ok HOK.out (by have := HOP.out; omega) _ _ _ HFX.out.n HFX.out.k _ _ _, by have := callD_ops (d := d) (fs := fsOf F) x.kd x.n x.k x.a x.b x.l; have := HOP.out; omega⟩)
        have HCL : Hid (O.2.2.length ≤ k + 1) := Lib.hid (by rw [hO]; have h1 := callD_len d (fsOf F) x.kd x.n x.k x.a x.b x.l; have h2 := HFL.out; rw [show (fsOf F).length = F.length from (by simp [fsOf])] at h1; omega)
        have hca := call_ H5.out HOK.out x.kd x.n x.k x.a x.b (by have := HFX.out.a; omega) (by have := HFX.out.b; omega) A5' m' c'' x.l HBS5.out HZ5.out
        rw [← hO] at hca
        have HCA := Lib.hid hca
        have HO := Lib.hid hO
        clear hca hO
        first
        | (refine HCA.out.mono ?_)
        | (obtain ⟨q0, q1, q2, q3, q4, q5⟩ : w5.cell? ⟨wo.heap.size, 0, none⟩ = some (.int .i64 x.kd) ∧ w5.cell? ⟨wo.heap.size, 1, none⟩ = some (.int .i64 x.n) ∧ w5.cell? ⟨wo.heap.size, 2, none⟩ = some (.int .i64 x.k) ∧ w5.cell? ⟨wo.heap.size, 3, none⟩ = some (.string x.a) ∧ w5.cell? ⟨wo.heap.size, 4, none⟩ = some (.string x.b) ∧ w5.cell? ⟨wo.heap.size, 5, none⟩ = some (.slice A5' m' c'') := ⟨cell_of_row _ _ 0 _ _ _ HX5.out, cell_of_row _ _ 1 _ _ _ HX5.out, cell_of_row _ _ 2 _ _ _ HX5.out, cell_of_row _ _ 3 _ _ _ HX5.out, cell_of_row _ _ 4 _ _ _ HX5.out, cell_of_row _ _ 5 _ _ _ HX5.out⟩
           go_wp2_with (fail)
           clear q0 q1 q2 q3 q4 q5
           refine HCA.out.mono ?_)
        rintro e w7 ⟨F7, he, h7, hc7, hf7⟩
        have H7 := Lib.hid h7
        have HB7 : Hid (Below w.heap.size w w7) := Lib.hid (HB5.out.trans ((DkCh.below H5.out hc7 HZ5.out).mono HZ2.out))
        have HZ7 : Hid (w3.heap.size ≤ w7.heap.size) := Lib.hid (Nat.le_trans HZ5.out hc7.ch.size)
        have HF7 := Lib.hid hf7
        have HK7 := Lib.hid (RkAt.over H5.out HK5.out hc7)
        have HX7 : Hid (w7.heap[wo.heap.size]? = some (actO x.kd x.n x.k x.a x.b A5' m' c'')) := Lib.hid (hc7.ch.row HX5.out (fun hs => by have := (HFT7.out _ hs); omega))
        clear h7 hc7 hf7
        have HDV7 : Hid (DvX (RF G v) w7 (.slice A5' m' c'') x.l) := Lib.hid ⟨A5', m', c'', rfl, HBWo.out.below HB7.out, fun a ha => by
          by_cases h0 : m' = 0
          · exact .inl h0
          · obtain ⟨bb, oo, eA, hbl, _⟩ := HBWo.out.at_ (by omega)
            rw [ha] at eA
            injection eA with eA
            subst eA
            refine .inr (fun hrf => ?_)
            have h1 := (HK7.out.foot_lt hrf).1
            have h2 := HZ2.out
            simp only at h1 hbl
            omega⟩
        obtain ⟨q0, q1, q2, q3, q4, q5⟩ : w7.cell? ⟨wo.heap.size, 0, none⟩ = some (.int .i64 x.kd) ∧ w7.cell? ⟨wo.heap.size, 1, none⟩ = some (.int .i64 x.n) ∧ w7.cell? ⟨wo.heap.size, 2, none⟩ = some (.int .i64 x.k) ∧ w7.cell? ⟨wo.heap.size, 3, none⟩ = some (.string x.a) ∧ w7.cell? ⟨wo.heap.size, 4, none⟩ = some (.string x.b) ∧ w7.cell? ⟨wo.heap.size, 5, none⟩ = some (.slice A5' m' c'') := ⟨cell_of_row _ _ 0 _ _ _ HX7.out, cell_of_row _ _ 1 _ _ _ HX7.out, cell_of_row _ _ 2 _ _ _ HX7.out, cell_of_row _ _ 3 _ _ _ HX7.out, cell_of_row _ _ 4 _ _ _ HX7.out, cell_of_row _ _ 5 _ _ _ HX7.out⟩
        have hwa := want_ HK7.out HSI.out HOK.out x.kd x.n x.k x.a x.b (by have := HFX.out.a; omega) (by have := HFX.out.b; omega) A5' m' c'' x.l HDV7.out HMB.out (by have h1 := HSI.out.perm.length_eq; have h2 := HFL.out; have h3 := HN.out; simp [fsOf] at h1; omega) HZ7.out (fun j hj => (H7.out.foot_lt hj).2)
        rw [← HO.out] at hwa
        have HWA := Lib.hid hwa
        clear hwa
        have key : ∀ (n1 e1 : Int) (g1 : Bool) (o1 : Int), e = retC n1 e1 g1 o1 → ((∃ y, O.1.2 = .inl y ∧ n1 = O.1.1 ∧ e1 = y ∧ g1 = false ∧ o1 = 0) ∨ (∃ op, O.1.2 = .inr op ∧ n1 = 0 ∧ e1 = 0 ∧ g1 = true ∧ o1 = op)) := fun n1 e1 g1 o1 h => by
          rw [he] at h
          obtain ⟨⟨n0, y | op⟩, O2⟩ := O
          · simp only [retO, retC, Ending.returned.injEq, Value.tuple.injEq] at h
            simp at h
            exact .inl ⟨y, rfl, h.1.symm, h.2.1.symm, h.2.2.1, h.2.2.2.symm⟩
          · simp only [retO, retC, Ending.returned.injEq, Value.tuple.injEq] at h
            simp at h
            exact .inr ⟨op, rfl, h.1.symm, h.2.1.symm, h.2.2.1, h.2.2.2.symm⟩
        obtain ⟨n1, e1, g1, o1, hr⟩ := retO_form O.1
        rw [hr] at he
        have HKEY := Lib.hid (key n1 e1 g1 o1 he)
        subst he
        clear hr key
        go_wp2_with (fail)
        refine HWA.out.mono ?_
        rintro x8 w8 ⟨n2, e2, g2, r2, L2, v2, P2, rfl, hag, hn2, hs2, h8, hc8, hv8⟩
        have HD8 := Lib.hid (H7.out.ch hc8 (fun j hj hr => apart_rk H7.out HK7.out hr hj))
        have HK8 := Lib.hid h8
        have HS8 := Lib.hid hs2
        have HB8 : Hid (Below w.heap.size w w8) := Lib.hid (HB7.out.trans ((hc8.below (fun j hj => (HK7.out.foot_lt hj).1) HZ7.out).mono HZ2.out))
        have HZ8 : Hid (w3.heap.size ≤ w8.heap.size) := Lib.hid (Nat.le_trans HZ7.out hc8.size)
        have HAG : Hid ((g1 = false ∧ g2 = false ∧ n2 = n1 ∧ e2 = e1) ∨ (g1 = true ∧ g2 = true ∧ o1 = r2.count)) := Lib.hid (by
          rcases HKEY.out with ⟨y, hy, h1, h2, h3, _⟩ | ⟨op, hy, _, _, h3, h4⟩
          · rcases hag with ⟨y', hy', he', hg'⟩ | ⟨op', hy', _, _⟩
            · rw [hy] at hy'
              injection hy' with hy'
              exact .inl ⟨h3, hg', by rw [hn2 hg', h1], by rw [he', h2, hy']⟩
            · rw [hy] at hy'; cases hy'
          · rcases hag with ⟨y', hy', _, _⟩ | ⟨op', hy', ho', hg'⟩
            · rw [hy] at hy'; cases hy'
            · rw [hy] at hy'
              injection hy' with hy'
              exact .inr ⟨h3, hg', by rw [h4, hy', ho']⟩)
        have c2 : w8.cell? ⟨G, 2, none⟩ = some (.int .i64 r2.count) := h8.cell 2
        clear hag hn2 hs2 h8 hc8 hv8 q0 q1 q2 q3 q4 q5
        have HSM := Lib.hid (dkSame HD8.out HK8.out (by rw [HF7.out]; exact HS8.out) (by rw [HF7.out]; exact HCO.out.1) (by have h1 := HS8.out.perm.length_eq; have h2 := HCL.out; have h3 := HN.out; omega))
        rcases HAG.out with ⟨rfl, rfl, rfl, rfl⟩ | ⟨rfl, rfl, rfl⟩
        all_goals
          go_wp2_with (fail)
          refine HSM.out.mono ?_
          rintro e w9 ⟨rfl, hb9⟩
          have HD9 := Lib.hid (HD8.out.below hb9)
          have HK9 := Lib.hid (HK8.out.below hb9)
          have HB9 : Hid (Below w.heap.size w w9) := Lib.hid (HB8.out.trans (hb9.mono HB8.out.size))
          have HZ9 : Hid (w3.heap.size ≤ w9.heap.size) := Lib.hid (Nat.le_trans HZ8.out hb9.size)
          clear hb9 c2
          go_wp2_with (fail)
          exact ⟨⟨k + 1, _, F7, r2, L2, v2, P2, by omega, by go_num, HD9.out, HK9.out, by rw [HF7.out]; exact HS8.out, by rw [HF7.out]; exact HCO.out.1, HCO.out.2, by have h1 := HCL.out; rw [← HF7.out] at h1; simpa [fsOf] using h1, HB9.out, HZ9.out⟩, by simp [intOf]; omega⟩
      · obtain rfl : k = n := by omega
        clear hlt
        go_wp2_with (fail)
        go_ret
        exact ⟨rfl, HB.out⟩
  · go_wp2_with (fail)
    refine (dkAlive w2).mono ?_
    rintro e w3 ⟨rfl, hb3⟩
    have HB3 := Lib.hid (HB2.out.trans (hb3.mono HB2.out.size))
    clear hb3
    go_wp2_with (fail)
    go_ret
    exact ⟨rfl, HB3.out⟩
end Go.Proofs.Ytecmadodpkfnnaa
