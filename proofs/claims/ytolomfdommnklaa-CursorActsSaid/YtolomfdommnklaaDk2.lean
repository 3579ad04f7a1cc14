/- Layer 2: lay and Append, walked. -/
import Derived.Test.YtolomfdommnklaaDk1
namespace Go.Proofs.Ytolomfdommnklaa
open Go.RowKit Go.MapKept

def layF (fs : Fs) (n : ByteArray) (b : List UInt8) : Fs := fput fs n (match fget fs n with | some f => ⟨f.bs ++ b, f.safe⟩ | none => ⟨b, 0⟩)
section
variable {w w1 w2 : World} {B D M : Nat} {d : Dk} {F P Q : List Ent}
theorem aset_new (n : ByteArray) (v : Value) (h : ∀ e ∈ F, e.nm ≠ n) : aset (mapL F) n v = mapL F ++ [(n, v)] := by
  induction F with
  | nil => rfl
  | cons a r ih =>
    simp only [mapL, List.map_cons, aset, List.cons_append]
    rw [if_neg (fun e => h a (by simp) e.symm)]
    rw [ih (fun e he => h e (by simp [he]))]
/-- a new file -/
theorem DkAt.add (h : DkAt w B D M d F) {n : ByteArray} (hn : ∀ e ∈ F, e.nm ≠ n) (hB : B ≤ w.heap.size) (hm : MapIs (.string) w1 M (aset (mapL F) n (pf w.heap.size))) (hch : Ch (fun k => k = M) (w.alloc (fObj (.slice none 0 0) 0)) w1) :
    DkAt w1 B D M d (F ++ ⟨n, w.heap.size, .slice none 0 0, ⟨[], 0⟩⟩ :: []) ∧ DkCh D M F (F ++ ⟨n, w.heap.size, .slice none 0 0, ⟨[], 0⟩⟩ :: []) w w1 := by
  have hb0 : Below w.heap.size w (w.alloc (fObj (.slice none 0 0) 0)) := (Below.refl _ _).alloc (Nat.le_refl _) _
  have h0 := h.below hb0
  have hMlt := h.map.lt
  rw [aset_new n _ hn] at hm
  refine ⟨⟨h.hD, h.hM, hch.row h0.row h.neDM.symm, by simpa [mapL] using hm, fun e he => ?_, ?_, ?_⟩, ⟨(Ch.of_below (S := DFoot D M F) hb0).trans hch (fun k _ hk => .inr (.inl hk)), fun k hk => ?_⟩⟩
  · rcases List.mem_append.1 he with he | he
    · have h2 := h0.files e he
      exact h2.ch hch (h2.neM h0.map).1 (fun k hk hs => (h2.neM h0.map).2 (by rw [hk, hs]))
    · obtain rfl := List.mem_singleton.1 he
      exact ⟨hB, hch.row (heap_alloc_new w _) (by simp only; omega), Own.nil _ _ _⟩
  · rw [List.pairwise_append]
    refine ⟨h.apart, List.pairwise_singleton _ _, fun x hx y hy => ?_⟩
    obtain rfl := List.mem_singleton.1 hy
    refine ⟨by have := (h.files x hx).lt; simp only; omega, fun k _ hk => by simp [Value.ownBlock] at hk⟩
  · rw [List.map_append, List.nodup_append]
    refine ⟨h.names, by simp, fun a ha b hb => ?_⟩
    obtain ⟨e, he, rfl⟩ := List.mem_map.1 ha
    simp only [List.map_cons, List.map_nil, List.mem_singleton] at hb
    subst hb
    exact hn e he
  · obtain ⟨e, he, hk⟩ := hk
    rcases List.mem_append.1 he with he | he
    · exact .inl ⟨e, he, hk⟩
    · obtain rfl := List.mem_singleton.1 he
      rcases hk with hk | hk
      · exact .inr (by rw [hk]; exact Nat.le_refl _)
      · simp [Value.ownBlock] at hk
theorem Bs.neMap {A : Option Addr} {m c : Nat} {l : List UInt8} (h : Bs w A m c l) {L : List (ByteArray × Value)} (hM : MapIs (.string) w M L) (h0 : 0 < m) (b : Addr) (hb : A = some b) : ¬ b.block = M := by
  intro e
  obtain ⟨x, o, rfl, _, hc⟩ := h.at_ h0
  injection hb with hb
  subst hb
  obtain ⟨es, ck, hr, _⟩ := hM
  have h1 := hc 0 _ (List.getElem?_eq_getElem (by rw [h.len]; exact h0))
  simp only at e
  subst e
  simp [World.cell?, hr] at h1
theorem Bs.neDk {A : Option Addr} {m c : Nat} {l : List UInt8} (h : Bs w A m c l) (hD : w.heap[D]? = some (dkObj M d)) (h0 : 0 < m) (b : Addr) (hb : A = some b) : ¬ b.block = D := by
  intro e
  obtain ⟨x, o, rfl, _, hc⟩ := h.at_ h0
  injection hb with hb
  subst hb
  have h1 := hc 0 _ (List.getElem?_eq_getElem (by rw [h.len]; exact h0))
  simp only at e
  subst e
  rw [cell_of_row w x _ _ _ _ hD] at h1
  rcases o with _ | _ | _ | _ | _ | _ | _ | o <;> simp [dkCells] at h1
/-- bytes behind a file's -/
theorem DkAt.laid {nm : ByteArray} {g : Nat} {v v' : Value} {f : Fl} {l : List UInt8} (h : DkAt w1 B D M d (P ++ ⟨nm, g, v, f⟩ :: Q)) (ho : Own 5 w2 B v' (f.bs ++ l)) (hgr : w1.grownBy w2 v.ownBlock) (hfr : v'.ownBlock = v.ownBlock ∨ v'.ownBlock = some w1.heap.size) :
    (w2.heap[g]? = some (fObj v f.safe) ∧ w2.heap[D]? = some (dkObj M d)) ∧ ∀ u : Int, DkAt ((w2.setCell ⟨g, 0, none⟩ v').setCell ⟨D, 2, none⟩ (.int .i64 u)) B D M { d with used := u } (P ++ ⟨nm, g, v', ⟨f.bs ++ l, f.safe⟩⟩ :: Q) ∧
      DkCh D M (P ++ ⟨nm, g, v, f⟩ :: Q) (P ++ ⟨nm, g, v', ⟨f.bs ++ l, f.safe⟩⟩ :: Q) w1 ((w2.setCell ⟨g, 0, none⟩ v').setCell ⟨D, 2, none⟩ (.int .i64 u)) := by
  have he := h.files ⟨nm, g, v, f⟩ (by simp)
  have hne := own_ne he.own he.row (by decide)
  have hch0 : Ch (fun k => v.ownBlock = some k) w1 w2 := Ch.of_grown hgr (fun k hk => hk)
  have hr2 : w2.heap[g]? = some (fObj v f.safe) := hch0.row he.row (fun hs => hne hs.symm)
  have hch : Ch (fun k => k = g ∨ v.ownBlock = some k) w1 (w2.setCell ⟨g, 0, none⟩ v') := ((Ch.refl (fun k => k = g ∨ v.ownBlock = some k) w1).trans hch0 (fun _ _ hk => .inr hk)).set (a := ⟨g, 0, none⟩) (.inl rfl) v'
  have hne2 : v'.ownBlock ≠ some g := by
    rcases hfr with hf | hf
    · rw [hf]; exact hne.symm
    · rw [hf]; intro e; injection e with e; have := he.lt; simp only at this; omega
  obtain ⟨h1, h2⟩ := h.file hch v' ⟨f.bs ++ l, f.safe⟩ (heap_set_row hr2 v') (ho.ch ((Ch.refl (fun k => k = g) w2).set (a := ⟨g, 0, none⟩) rfl v') (fun k hk hs => hne2 (by rw [hk, hs]))) (fun k hk => by
    rcases hfr with hf | hf
    · exact .inl (by rw [← hf]; exact hk)
    · rw [hf] at hk; injection hk with hk; exact .inr (by omega))
  have hr3 : w2.heap[D]? = some (dkObj M d) := hch0.row h.row (fun hs => (he.neD h.row).2 hs)
  refine ⟨⟨hr2, hr3⟩, fun u => ?_⟩
  have h3 := h1.nums (d' := { d with used := u }) ((Ch.refl (At1 D) _).set1 2 (.int .i64 u)) (heap_set_row h1.row _)
  exact ⟨h3, h2.trans (DkCh.of1 ((Ch.refl (At1 D) _).set1 2 _))⟩
end

set_option maxHeartbeats 2000000 in
set_option maxRecDepth 100000 in
theorem dkLay {w : World} {B D M : Nat} {d : Dk} {F : List Ent} (h : DkAt w B D M d F) (hu : 0 ≤ d.used ∧ d.used ≤ 1073741824) (nm : ByteArray) (A : Option Addr) (m c : Nat) (l : List UInt8) (hl : Bs w A m c l) (hm : d.used + (m : Int) ≤ 1073741824) (hlen : ∀ e ∈ F, e.f.bs.length ≤ 1073741824) (hBw : B ≤ w.heap.size) :
    Calls Try.prog 80 #[pD D, .string nm, .slice A m c] w fun e w' => e = .returned (.tuple #[]) ∧ ∃ F', DkAt w' B D M { d with used := d.used + (m : Int) } F' ∧ DkCh D M F F' w w' ∧ fsOf F' = layF (fsOf F) nm l := by
  have c0' : w.cell? ⟨D, 0, none⟩ = some (.map (some M)) := h.cell 0
  have hz : (zeroValue 91).run Try.prog w = .ok (.pointer none) w := by kernel_rfl
  have e1 : wrap64 (d.used + (m : Int)) = d.used + (m : Int) := IntWalk.wrap64_in _ (by omega)
  have HM := Lib.hid hm
  have HBS := Lib.hid hl
  have HBW := Lib.hid hBw
  have H := Lib.hid h
  have HU := Lib.hid hu
  have tok1 : Hid True := Lib.hid trivial
  have tok2 : Hid True := Lib.hid trivial
  have tok3 : Hid True := Lib.hid trivial
  rcases aget_split F nm with ⟨hno, hne⟩ | ⟨P, e, Q, rfl, rfl, hyes, hfirst⟩
  · have HNO := Lib.hid hno
    have HNE := Lib.hid hne
    have hDlt := h.lt
    have hDne : D ≠ w.heap.size := by omega
    have hMr : (w.alloc (.cells #[.slice none 0 0, .int .i64 0] 93)).cell? ⟨D, 0, none⟩ = some (.map (some M)) := (h.below ((Below.refl _ _).alloc (Nat.le_refl _) _)).cell 0
    have HMA : Hid (MapIs (.string) (w.alloc (fObj (.slice none 0 0) 0)) M (mapL F)) := Lib.hid (h.map.below ((Below.refl _ _).alloc (Nat.le_refl _) _))
    clear h hno hne hlen hm hl hBw hu
    go_enter Try.func80, Try.ntmps80
    go_wp2_with (first
      | (at_lookup; have _t := tok1; refine wpList_lookupL rfl (keyString Try.underlying9) (.tmp 10) (.tmp 11) 78 91 false rfl Try.underlying78 M (mapL F) rfl H.out.map nm rfl (.pointer none) hz ?_; rw [HNO.out]; simp only [Option.getD_none, Bool.false_eq_true, if_false]; clear tok1 _t)
      | (have _t := tok2; refine wpList_updateL rfl (keyString Try.underlying9) (.tmp 20) (.tmp 21) (.tmp 22) 78 91 (.inl rfl) Try.underlying78 M (mapL F) rfl HMA.out nm rfl (pf w.heap.size) rfl ?_; intro w1 hm1 hch1 hsz1; have HAD := Lib.hid (H.out.add HNE.out HBW.out hm1 hch1); have HSZ : Hid (B ≤ w1.heap.size) := Lib.hid (by have := HAD.out.2.ch.size; have := HBW.out; omega); have HB1 : Hid (Bs w1 A m c l) := Lib.hid ((HBS.out.alloc _).ch hch1 (fun h0 b hb => (HBS.out.alloc _).neMap HMA.out h0 b hb)); have HFA := Lib.hid (HAD.out.1.files ⟨nm, w.heap.size, .slice none 0 0, ⟨[], 0⟩⟩ (by simp)); have y0 : w1.cell? ⟨w.heap.size, 0, none⟩ = some (.slice none 0 0) := HFA.out.cell 0; have y1 : w1.frozen? ⟨w.heap.size, 0, none⟩ = false := HFA.out.frozen 0; clear tok2 hm1 hch1 hsz1 _t)
      | (at_builtin; have _t := tok3; go_loud ((refine wpList_appL rfl (.tmp 27) (.tmp 28) rfl B (.slice none 0 0) [] rfl HFA.out.own A m c l rfl HB1.out (by have := HM.out; have := HU.out; rw [List.length_nil]; omega) HSZ.out ?_; intro v' w2 hown hgr hfr; have HLD := Lib.hid (HAD.out.1.laid (l := l) hown hgr hfr); obtain ⟨A2, c2, rfl⟩ := own_form hown; have z0 : w2.cell? ⟨w.heap.size, 0, none⟩ = some (.slice none 0 0) := cell_of_row _ _ 0 _ _ _ HLD.out.1.1; have z1 : w2.frozen? ⟨w.heap.size, 0, none⟩ = false := (by simp [World.frozen?, HLD.out.1.1]); have z2 : w2.cell? ⟨D, 2, none⟩ = some (.int .i64 d.used) := cell_of_row _ _ 2 _ _ _ HLD.out.1.2; have z3 : w2.frozen? ⟨D, 2, none⟩ = false := (by simp [World.frozen?, HLD.out.1.2]); clear tok3 hown hgr hfr _t))))
    go_end0
    refine ⟨rfl, _, (HLD.out.2 (d.used + (m : Int))).1, HAD.out.2.trans (HLD.out.2 (d.used + (m : Int))).2, ?_⟩
    unfold layF
    rw [fget_none HNE.out, fput_none _ HNE.out]
    simp
  · obtain ⟨nm, g, v, f⟩ := e
    simp only at *
    have HYES := Lib.hid hyes
    have HLEN : Hid (f.bs.length ≤ 1073741824) := Lib.hid (hlen ⟨nm, g, v, f⟩ (by simp))
    have HFA := Lib.hid (h.files ⟨nm, g, v, f⟩ (by simp))
    obtain ⟨A0, c0, hv⟩ := own_form (show w.ownsRow B 5 1 v f.bs.length (u8s f.bs) from HFA.out.own)
    subst hv
    have y0 : w.cell? ⟨g, 0, none⟩ = some (.slice A0 f.bs.length c0) := HFA.out.cell 0
    have HFI := Lib.hid hfirst
    clear h hyes hfirst hlen hm hl hBw hu
    go_enter Try.func80, Try.ntmps80
    go_wp2_with (first
      | (at_lookup; have _t := tok1; refine wpList_lookupL rfl (keyString Try.underlying9) (.tmp 10) (.tmp 11) 78 91 false rfl Try.underlying78 M (mapL (P ++ ⟨nm, g, .slice A0 f.bs.length c0, f⟩ :: Q)) rfl H.out.map nm rfl (.pointer none) hz ?_; rw [HYES.out]; simp only [Option.getD_some, Bool.false_eq_true, if_false]; clear tok1 _t)
      | (at_builtin; have _t := tok3; go_loud ((refine wpList_appL rfl (.tmp 27) (.tmp 28) rfl B (.slice A0 f.bs.length c0) f.bs rfl HFA.out.own A m c l rfl HBS.out (by have := HM.out; have := HU.out; have := HLEN.out; omega) HBW.out ?_; intro v' w2 hown hgr hfr; have HLD := Lib.hid (H.out.laid (l := l) hown hgr hfr); obtain ⟨A2, c2, rfl⟩ := own_form hown; have z0 : w2.cell? ⟨g, 0, none⟩ = some (.slice A0 f.bs.length c0) := cell_of_row _ _ 0 _ _ _ HLD.out.1.1; have z1 : w2.frozen? ⟨g, 0, none⟩ = false := (by simp [World.frozen?, HLD.out.1.1]); have z2 : w2.cell? ⟨D, 2, none⟩ = some (.int .i64 d.used) := cell_of_row _ _ 2 _ _ _ HLD.out.1.2; have z3 : w2.frozen? ⟨D, 2, none⟩ = false := (by simp [World.frozen?, HLD.out.1.2]); clear tok3 hown hgr hfr _t))))
    go_end0
    have hld := HLD.out.2 (d.used + (m : Int))
    rw [List.length_append] at hld
    refine ⟨rfl, _, hld.1, hld.2, ?_⟩
    unfold layF
    rw [fget_at HFI.out, fput_at (e := ⟨nm, g, _, f⟩) _ HFI.out]

/-- how many bytes are laid -/
def appN (d : Dk) (m : Nat) : Nat := min m (d.room - d.used).toNat
/-- and, when the power goes -/
def appK (d : Dk) (m : Nat) : Nat := min (appN d m) d.armKeep.toNat
def FileLens (F : List Ent) : Prop := ∀ e ∈ F, e.f.bs.length ≤ 1073741824
set_option maxHeartbeats 2000000 in
set_option maxRecDepth 100000 in
theorem dkAppend_name (w : World) (D : Nat) (nm : ByteArray) (hs : nm.size ≤ 140737488355328) (hn : nameD nm = false) (A : Option Addr) (m c : Nat) :
    Calls Try.prog 63 #[pD D, .string nm, .slice A m c] w fun e w' => e = .returned (.tuple #[.int .i64 0, .int .i64 16]) ∧ w = w' := by
  have HN := Lib.hid hn
  clear hn
  go_enter Try.func63, Try.ntmps63
  go_wp2_with (fail)
  refine (fnRight nm w hs).mono ?_
  rintro e w1 ⟨rfl, rfl⟩
  rw [HN.out]
  go_wp2_with (fail)
  go_ret2
  exact ⟨rfl, rfl⟩
set_option maxHeartbeats 2000000 in
set_option maxRecDepth 100000 in
theorem dkAppend_ok {w : World} {B D M : Nat} {d : Dk} {F : List Ent} (h : DkAt w B D M d F) (ok : d.Ok) (hlen : FileLens F) (nm : ByteArray) (hn : nameD nm = true) (hs : nm.size ≤ 140737488355328) (A : Option Addr) (m c : Nat) (l : List UInt8) (hl : Bs w A m c l) (hBw : B ≤ w.heap.size) (ha : d.armedIn ≠ 1) :
    Calls Try.prog 63 #[pD D, .string nm, .slice A m c] w fun e w' => e = .returned (.tuple #[.int .i64 (appN d m), .int .i64 (if appN d m < m then 4 else 0)]) ∧ ∃ F', DkAt w' B D M { d.begin with used := d.used + (appN d m : Int) } F' ∧ DkCh D M F F' w w' ∧ fsOf F' = layF (fsOf F) nm (l.take (appN d m)) := by
  have c1 : w.cell? ⟨D, 1, none⟩ = some (.int .i64 d.room) := h.cell 1
  have c2 : w.cell? ⟨D, 2, none⟩ = some (.int .i64 d.used) := h.cell 2
  have o1 := ok.room
  have o2 := ok.used
  have e1 : wrap64 (d.room - d.used) = d.room - d.used := IntWalk.wrap64_in _ (by omega)
  obtain ⟨n, hnn⟩ : ∃ n, n = appN d m := ⟨_, rfl⟩
  have hmn : min (m : Int) (max 0 (d.room - d.used)) = (n : Int) := by rw [hnn]; unfold appN; omega
  have hnm : n ≤ m := by rw [hnn]; unfold appN; omega
  have hnu : d.used + (n : Int) ≤ 1073741824 := by rw [hnn]; unfold appN; omega
  rw [← hnn]
  have hml := hl.nmax
  have hmc := hl.le
  have HN := Lib.hid hn
  have H := Lib.hid h
  have OK := Lib.hid ok
  have HBS := Lib.hid hl
  have HBW := Lib.hid hBw
  have HLEN := Lib.hid hlen
  have HA : Hid ((d.armedIn == 1) = false) := Lib.hid (by simpa using ha)
  have HNU := Lib.hid hnu
  have HNM := Lib.hid hnm
  clear h ok hl hBw hlen ha hn hnn hnu
  go_enter Try.func63, Try.ntmps63
  go_wp2_with (fail)
  refine (fnRight nm w hs).mono ?_
  rintro e w1 ⟨rfl, rfl⟩
  rw [HN.out]
  go_wp2_with (fail)
  go_region
  all_goals
    have hdr : Below w.heap.size w w.drew := (Below.refl _ w).drew
    have H0 := Lib.hid (H.out.below hdr)
    have HBS0 := Lib.hid (HBS.out.below hdr)
    have HSZ0 : Hid (B ≤ w.drew.heap.size) := HBW
    have HCH0 : Hid (DkCh D M F F w w.drew) := Lib.hid (DkCh.of_below hdr)
    clear c1 c2
    generalize w.drew = w0 at *
    go_wp2_with (fail)
    refine (dkBegin H0.out OK.out).mono ?_
    rintro e w2 ⟨rfl, h2, hc2⟩
    rw [HA.out]
    have H2 := Lib.hid h2
    have HBS2 := Lib.hid ((HBS0.out.ch hc2 (HBS0.out.neDk H0.out.row)).take HNM.out)
    have HSZ2 : Hid (B ≤ w2.heap.size) := Lib.hid (Nat.le_trans HSZ0.out hc2.size)
    have HCH2 := Lib.hid (HCH0.out.trans (DkCh.of1 hc2))
    clear h2 hc2
    have hnc : (n : Int) ≤ (c : Int) := by omega
    go_wp2_with (fail)
    refine (dkLay H2.out (show 0 ≤ d.begin.used ∧ d.begin.used ≤ 1073741824 from OK.out.used) nm A n c (l.take n) HBS2.out HNU.out HLEN.out HSZ2.out).mono ?_
    rintro e w3 ⟨rfl, F', h3, hc3, hf3⟩
    have HR : Hid (∃ F', DkAt w3 B D M { d.begin with used := d.used + (n : Int) } F' ∧ DkCh D M F F' w w3 ∧ fsOf F' = layF (fsOf F) nm (l.take n)) := Lib.hid ⟨F', h3, HCH2.out.trans hc3, hf3⟩
    clear h3 hc3 hf3
    by_cases hlt : n < m
    · have d1 : decide ((n : Int) < (m : Int)) = true := by simpa using hlt
      have HLT := Lib.hid hlt
      clear hlt
      go_wp2_with (fail)
      go_ret2
      exact ⟨rfl, HR.out⟩
    · have d1 : decide ((n : Int) < (m : Int)) = false := by simpa using hlt
      have HLT := Lib.hid hlt
      clear hlt
      go_wp2_with (fail)
      go_ret2
      exact ⟨rfl, HR.out⟩
set_option maxHeartbeats 2000000 in
set_option maxRecDepth 100000 in
theorem dkAppend_lost {w : World} {B D M : Nat} {d : Dk} {F : List Ent} (h : DkAt w B D M d F) (ok : d.Ok) (hlen : FileLens F) (nm : ByteArray) (hn : nameD nm = true) (hs : nm.size ≤ 140737488355328) (A : Option Addr) (m c : Nat) (l : List UInt8) (hl : Bs w A m c l) (hBw : B ≤ w.heap.size) (ha : d.armedIn = 1) :
    Calls Try.prog 63 #[pD D, .string nm, .slice A m c] w fun e w' => e = .panicked [{ v := crashI (d.ops + 1), recovered := false }] ∧ ∃ F', DkAt w' B D M { d.begin with used := d.used + (appK d m : Int) } F' ∧ DkCh D M F F' w w' ∧ fsOf F' = layF (fsOf F) nm (l.take (appK d m)) := by
  have c1 : w.cell? ⟨D, 1, none⟩ = some (.int .i64 d.room) := h.cell 1
  have c2 : w.cell? ⟨D, 2, none⟩ = some (.int .i64 d.used) := h.cell 2
  have o1 := ok.room
  have o2 := ok.used
  have e1 : wrap64 (d.room - d.used) = d.room - d.used := IntWalk.wrap64_in _ (by omega)
  obtain ⟨n, hnn⟩ : ∃ n, n = appN d m := ⟨_, rfl⟩
  have hmn : min (m : Int) (max 0 (d.room - d.used)) = (n : Int) := by rw [hnn]; unfold appN; omega
  have hnm : n ≤ m := by rw [hnn]; unfold appN; omega
  have hnu : d.used + (n : Int) ≤ 1073741824 := by rw [hnn]; unfold appN; omega
  obtain ⟨q, hq⟩ : ∃ q, q = appK d m := ⟨_, rfl⟩
  have hmq : min (n : Int) (max 0 d.armKeep) = (q : Int) := by rw [hq]; unfold appK; rw [← hnn]; omega
  have hqn : q ≤ n := by rw [hq, hnn]; unfold appK; omega
  have HQN := Lib.hid hqn
  have HQU : Hid (d.used + (q : Int) ≤ 1073741824) := Lib.hid (by omega)
  rw [← hq]
  clear hq
  have hml := hl.nmax
  have hmc := hl.le
  have HN := Lib.hid hn
  have H := Lib.hid h
  have OK := Lib.hid ok
  have HBS := Lib.hid hl
  have HBW := Lib.hid hBw
  have HLEN := Lib.hid hlen
  have HA : Hid ((d.armedIn == 1) = true) := Lib.hid (by simpa using ha)
  have HNU := Lib.hid hnu
  have HNM := Lib.hid hnm
  clear h ok hl hBw hlen ha hn hnn hnu
  go_enter Try.func63, Try.ntmps63
  go_wp2_with (fail)
  refine (fnRight nm w hs).mono ?_
  rintro e w1 ⟨rfl, rfl⟩
  rw [HN.out]
  go_wp2_with (fail)
  go_region
  all_goals
    have hdr : Below w.heap.size w w.drew := (Below.refl _ w).drew
    have H0 := Lib.hid (H.out.below hdr)
    have HBS0 := Lib.hid (HBS.out.below hdr)
    have HSZ0 : Hid (B ≤ w.drew.heap.size) := HBW
    have HCH0 : Hid (DkCh D M F F w w.drew) := Lib.hid (DkCh.of_below hdr)
    clear c1 c2
    generalize w.drew = w0 at *
    go_wp2_with (fail)
    refine (dkBegin H0.out OK.out).mono ?_
    rintro e w2 ⟨rfl, h2, hc2⟩
    rw [HA.out]
    have H2 := Lib.hid h2
    have HBS2 := Lib.hid ((HBS0.out.ch hc2 (HBS0.out.neDk H0.out.row)).take (Nat.le_trans HQN.out HNM.out))
    have HSZ2 : Hid (B ≤ w2.heap.size) := Lib.hid (Nat.le_trans HSZ0.out hc2.size)
    have HCH2 := Lib.hid (HCH0.out.trans (DkCh.of1 hc2))
    have c6 : w2.cell? ⟨D, 6, none⟩ = some (.int .i64 d.armKeep) := h2.cell 6
    clear h2 hc2
    have hqc : (q : Int) ≤ (c : Int) := by omega
    go_wp2_with (fail)
    refine (dkLay H2.out (show 0 ≤ d.begin.used ∧ d.begin.used ≤ 1073741824 from OK.out.used) nm A q c (l.take q) HBS2.out HQU.out HLEN.out HSZ2.out).mono ?_
    rintro e w3 ⟨rfl, F', h3, hc3, hf3⟩
    have HR : Hid (∃ F', DkAt w3 B D M { d.begin with used := d.used + (q : Int) } F' ∧ DkCh D M F F' w w3 ∧ fsOf F' = layF (fsOf F) nm (l.take q)) := Lib.hid ⟨F', h3, HCH2.out.trans hc3, hf3⟩
    have H3 := Lib.hid h3
    clear h3 hc3 hf3 c6
    go_wp2_with (fail)
    refine (dkLose H3.out).mono ?_
    rintro e w4 ⟨rfl, rfl⟩
    go_wp2_with (fail)
    exact ⟨rfl, rfl, HR.out⟩
end Go.Proofs.Ytolomfdommnklaa
