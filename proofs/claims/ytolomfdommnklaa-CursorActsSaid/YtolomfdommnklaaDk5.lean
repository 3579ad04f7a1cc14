/- Layer 2: Power, walked. -/
import Derived.Test.YtolomfdommnklaaDk4
namespace Go.Proofs.Ytolomfdommnklaa
open Go.RowKit Go.MapKept

def total (F : List Ent) : Nat := (F.map fun e => e.f.bs.length).sum
theorem total_mid (P Q : List Ent) (e : Ent) : total (P ++ e :: Q) = total P + e.f.bs.length + total Q := by simp [total]; omega
theorem total_app (P Q : List Ent) : total (P ++ Q) = total P + total Q := by simp [total]
/-- numbers that fit the files -/
structure DkOk (d : Dk) (F : List Ent) : Prop where
  ok : d.Ok
  tot : d.used = (total F : Int)
  safe : ∀ e ∈ F, e.f.safe ≤ e.f.bs.length
theorem DkOk.lens {d : Dk} {F : List Ent} (h : DkOk d F) : FileLens F := fun e he => by
  obtain ⟨P, Q, rfl⟩ := List.append_of_mem he
  have h1 := h.tot
  have h2 := h.ok.used
  rw [total_mid] at h1
  omega
def cutV : Value → Nat → Value
  | .slice A _ c, k => .slice A k c
  | v, _ => v
/-- how many bytes are left -/
def powN (keep : Int) (f : Fl) : Nat := f.safe + min (f.bs.length - f.safe) keep.toNat
def powFl (keep : Int) (f : Fl) : Fl := ⟨f.bs.take (powN keep f), powN keep f⟩
def powE (keep : Int) (e : Ent) : Ent := ⟨e.nm, e.g, cutV e.v (powN keep e.f), powFl keep e.f⟩
open Classical in
/-- all but those that are still to come -/
noncomputable def pows (keep : Int) (lb F : List Ent) : List Ent := F.map fun e => if e.nm ∈ lb.map (·.nm) then e else powE keep e
section
variable {w : World} {B D M : Nat} {d : Dk} {F : List Ent}
theorem powN_le {keep : Int} {f : Fl} (h : f.safe ≤ f.bs.length) : powN keep f ≤ f.bs.length := by unfold powN; omega
theorem mapL_pows (keep : Int) (lb F : List Ent) : mapL (pows keep lb F) = mapL F := by
  unfold pows mapL
  rw [List.map_map]
  refine List.map_congr_left fun e _ => ?_
  simp only [Function.comp]
  split <;> rfl
theorem pows_all (keep : Int) (F : List Ent) : pows keep F F = F := by
  unfold pows
  conv => rhs; rw [← List.map_id F]
  exact List.map_congr_left fun e he => by rw [if_pos (List.mem_map.2 ⟨e, he, rfl⟩)]; rfl
theorem pows_none (keep : Int) (F : List Ent) : pows keep [] F = F.map (powE keep) := by
  unfold pows
  exact List.map_congr_left fun e he => by simp
open Classical in
theorem pows_next {keep : Int} {F bp bq : List Ent} {e : Ent} (hn : (F.map (·.nm)).Nodup) (hs : (bp ++ e :: bq).Sublist F) : ∃ P Q, pows keep (bp ++ e :: bq) F = P ++ e :: Q ∧ pows keep (bp ++ bq) F = P ++ powE keep e :: Q := by
  have he : e ∈ F := hs.subset (by simp)
  obtain ⟨P, Q, rfl⟩ := List.append_of_mem he
  have hnl : ((bp ++ e :: bq).map (·.nm)).Nodup := hn.sublist (hs.map _)
  have h1 : e.nm ∉ (bp ++ bq).map (·.nm) := by
    rw [List.map_append, List.map_cons, List.nodup_append] at hnl
    rw [List.map_append, List.mem_append]
    rintro (h | h)
    · exact hnl.2.2 _ h e.nm (by simp) rfl
    · exact (List.nodup_cons.1 hnl.2.1).1 h
  have h2 : ∀ x ∈ P ++ Q, x.nm ≠ e.nm := fun x hx => by
    rw [List.map_append, List.map_cons, List.nodup_append] at hn
    rcases List.mem_append.1 hx with hx | hx
    · exact fun e2 => hn.2.2 x.nm (List.mem_map.2 ⟨x, hx, rfl⟩) e.nm (by simp) e2
    · exact fun e2 => (List.nodup_cons.1 hn.2.1).1 (by rw [← e2]; exact List.mem_map.2 ⟨x, hx, rfl⟩)
  have h3 : ∀ x ∈ P ++ Q, (x.nm ∈ (bp ++ e :: bq).map (·.nm) ↔ x.nm ∈ (bp ++ bq).map (·.nm)) := fun x hx => by
    have := h2 x hx
    simp only [List.map_append, List.map_cons, List.mem_append, List.mem_cons]
    constructor
    · rintro (h | h | h)
      · exact .inl h
      · exact absurd h this
      · exact .inr h
    · rintro (h | h)
      · exact .inl h
      · exact .inr (.inr h)
  have hite : ∀ x ∈ P ++ Q, (if x.nm ∈ (bp ++ e :: bq).map (·.nm) then x else powE keep x) = (if x.nm ∈ (bp ++ bq).map (·.nm) then x else powE keep x) := fun x hx => by
    by_cases hm : x.nm ∈ (bp ++ bq).map (·.nm)
    · rw [if_pos ((h3 x hx).2 hm), if_pos hm]
    · rw [if_neg (fun h => hm ((h3 x hx).1 h)), if_neg hm]
  refine ⟨pows keep (bp ++ bq) P, pows keep (bp ++ bq) Q, ?_, ?_⟩
  · unfold pows
    rw [List.map_append, List.map_cons, if_pos (by simp)]
    congr 1
    · exact List.map_congr_left fun x hx => hite x (by simp [hx])
    · congr 1
      exact List.map_congr_left fun x hx => hite x (by simp [hx])
  · unfold pows
    rw [List.map_append, List.map_cons, if_neg h1]
/-- a file, cut -/
theorem DkAt.cut {P Q : List Ent} {nm : ByteArray} {g : Nat} {A : Option Addr} {n c : Nat} {f : Fl} (h : DkAt w B D M d (P ++ ⟨nm, g, .slice A n c, f⟩ :: Q)) (hn : n = f.bs.length) (k : Nat) (hk : k ≤ f.bs.length) :
    DkAt (w.setCell ⟨g, 0, none⟩ (.slice A k c)) B D M d (P ++ ⟨nm, g, .slice A k c, ⟨f.bs.take k, f.safe⟩⟩ :: Q) ∧ DkCh D M (P ++ ⟨nm, g, .slice A n c, f⟩ :: Q) (P ++ ⟨nm, g, .slice A k c, ⟨f.bs.take k, f.safe⟩⟩ :: Q) w (w.setCell ⟨g, 0, none⟩ (.slice A k c)) := by
  subst hn
  have he := h.files ⟨nm, g, .slice A f.bs.length c, f⟩ (by simp)
  have hob : (Value.slice A k c).ownBlock = (Value.slice A f.bs.length c).ownBlock := by cases A <;> rfl
  exact h.file ((Ch.refl _ w).set (a := ⟨g, 0, none⟩) (.inl rfl) _) (.slice A k c) ⟨f.bs.take k, f.safe⟩ (heap_set_row he.row _) ((Own.shrink he.own hk).ch ((Ch.refl (fun k => k = g) w).set (a := ⟨g, 0, none⟩) rfl _) (fun j hj hs => (own_ne he.own he.row (by decide)) (by rw [hob] at hj; rw [hj, hs]))) (fun j hj => .inl (by rw [← hob]; exact hj))
theorem DkCh.later {F1 : List Ent} {w1 w2 : World} {S : Nat → Prop} (h : DkCh D M F F1 w w1) (c : Ch S w1 w2) (hS : ∀ k, S k → w.heap.size ≤ k) : DkCh D M F F1 w w2 :=
  ⟨h.ch.trans c (fun k hk hs => by have := hS k hs; omega), h.foot⟩
theorem DkCh.iter {F1 : List Ent} {w1 w2 : World} (h : DkCh D M F F1 w w1) {S : Nat → Prop} (c : Ch S w1 w2) (hS : ∀ k, S k → w.heap.size ≤ k) : DkCh D M F F1 w w2 := h.later c hS

/-- Power's round: where it stands -/
structure PowSt (w : World) (B D M I : Nat) (d : Dk) (F : List Ent) (keep : Int) (lb : List Ent) (wr : World) : Prop where
  sub : lb.Sublist F
  rng : Rng (.string) wr M I (mapL F) (mapL lb)
  at_ : DkAt wr B D M { d with used := (total (pows keep lb F) : Int) } (pows keep lb F)
  ch : DkCh D M F (pows keep lb F) w wr
theorem Rng.neDk {I : Nat} {L left : List (ByteArray × Value)} (hr : Rng (.string) w M I L left) (h : DkAt w B D M d F) : ∀ k, DFoot D M F k → ¬ k = I := fun k hk he => by
  subst he
  rcases hk with hk | hk | ⟨e, he, hk | hk⟩
  · exact hr.ne h.row hk
  · exact hr.neM h.map hk
  · exact hr.ne (h.files e he).row hk
  · obtain ⟨cur, hc⟩ := own_ty (h.files e he).own _ hk
    exact hr.ne hc rfl
open Classical in
theorem total_pows_le {keep : Int} {lb F : List Ent} (hs : ∀ e ∈ F, e.f.safe ≤ e.f.bs.length) : total (pows keep lb F) ≤ total F := by
  induction F with
  | nil => simp [pows, total]
  | cons a r ih =>
    have h1 := ih (fun e he => hs e (by simp [he]))
    have h2 : (if a.nm ∈ lb.map (·.nm) then a else powE keep a).f.bs.length ≤ a.f.bs.length := by
      split
      · exact Nat.le_refl _
      · simp only [powE, powFl, List.length_take]; omega
    simp only [pows, total, List.map_cons, List.sum_cons] at h1 ⊢
    omega

set_option maxHeartbeats 2000000 in
set_option maxRecDepth 100000 in
theorem dkPower (h : DkAt w B D M d F) (ok : DkOk d F) (keep : Int) : Calls Try.prog 21 #[pD D, .int .i64 keep] w fun e w' => e = .returned (.int .i64 0) ∧ DkAt w' B D M { d with used := (total (F.map (powE keep)) : Int), failIn := 0, armedIn := 0 } (F.map (powE keep)) ∧ DkCh D M F (F.map (powE keep)) w w' := by
  have c0' : w.cell? ⟨D, 0, none⟩ = some (.map (some M)) := h.cell 0
  have H := Lib.hid h
  have OK := Lib.hid ok
  have HTU : Hid (total F ≤ 1073741824) := Lib.hid (by have := ok.tot; have := ok.ok.used; omega)
  have tok1 : Hid True := Lib.hid trivial
  clear h ok
  go_enter Try.func21, Try.ntmps21
  go_wp2_with (at_range; have _t := tok1; refine wpList_rangeL rfl (.tmp 14) 78 rfl Try.underlying78 M (mapL F) rfl H.out.map ?_; intro w2 hr2 hb2 hz2; have HS0 : Hid (PowSt w B D M w.heap.size d F keep F w2) := Lib.hid ⟨List.Sublist.refl F, hr2, (by rw [pows_all, ← OK.out.tot]; exact H.out.below hb2), (by rw [pows_all]; exact DkCh.of_below hb2)⟩; clear tok1 hr2 hb2 hz2 _t)
  go_frame
  go_loopw [6, 7, 8] (fun _ _ _ wr => ∃ lb, PowSt w B D M w.heap.size d F keep lb wr) (fun _ _ _ wr => rngLeft M w.heap.size wr)
  case atStart => exact ⟨F, HS0.out⟩
  case round =>
    clear HS0 c0'
    obtain ⟨wo, rfl⟩ : ∃ wo : World, wo = wr := ⟨_, rfl⟩
    obtain ⟨lb, hs⟩ := hrel
    have HS := Lib.hid hs
    have HLE := Lib.hid hs.rng.left_eq
    clear hs
    by_cases h0 : lb = []
    · subst h0
      have HR0 : Hid (Rng (.string) wo M w.heap.size (mapL F) []) := Lib.hid HS.out.rng
      have hat := HS.out.at_
      rw [pows_none] at hat
      have HAT := Lib.hid hat
      have HCH : Hid (DkCh D M F (F.map (powE keep)) w wo) := Lib.hid (by have := HS.out.ch; rwa [pows_none] at this)
      have c4 : wo.cell? ⟨D, 4, none⟩ = some (.int .i64 d.failIn) := hat.cell 4
      have c5 : wo.cell? ⟨D, 5, none⟩ = some (.int .i64 d.armedIn) := hat.cell 5
      have f4 := hat.frozen 4
      have f5 := hat.frozen 5
      clear hat
      go_wp2_with (at_next; refine wpList_nextL0 rfl (.tmp 15) rfl M w.heap.size _ rfl HR0.out ?_)
      go_ret
      exact ⟨rfl, HAT.out.nums (((Ch.refl _ wo).set1 4 _).set1 5 _) (heap_set_row (heap_set_row HAT.out.row _) _), HCH.out.trans (DkCh.of1 (((Ch.refl _ wo).set1 4 _).set1 5 _))⟩
    · have HNL : Hid (mapL lb ≠ []) := Lib.hid (by simpa using h0)
      clear h0
      have tok2 : Hid True := Lib.hid trivial
      go_wp2_with (at_next; have _t := tok2; refine wpList_nextL1 rfl (.tmp 15) rfl M w.heap.size _ _ rfl HS.out.rng HNL.out ?_; intro lp key v lq w3 hl hr3 hc3 hz3 hen; obtain ⟨bp, e, bq, hlb, hbp, hkx, hbq⟩ := map_split (fun e => (e.nm, pf e.g)) lp (key, v) lq lb hl; obtain ⟨rfl, rfl⟩ : e.nm = key ∧ pf e.g = v := (by simpa using hkx); subst hbp hbq; clear tok2 _t)
      have hsub : (bp ++ e :: bq).Sublist F := hlb ▸ HS.out.sub
      obtain ⟨P, Q, hp1, hp2⟩ := pows_next (keep := keep) H.out.names hsub
      have hfs := OK.out.safe e (hsub.subset (by simp))
      have h3 := HS.out.at_.ch hc3 (HS.out.rng.neDk HS.out.at_)
      have hch3 := HS.out.ch.later hc3 (fun k hk => by omega)
      have htl := total_pows_le (keep := keep) (lb := lb) OK.out.safe
      rw [hlb, hp1] at h3 hch3 htl
      have HCH3 := Lib.hid hch3
      have HR3 := Lib.hid hr3
      have HSUB2 : Hid ((bp ++ bq).Sublist F) := Lib.hid (((List.Sublist.append_left (List.sublist_cons_self e bq) bp)).trans hsub)
      have HLE2 : Hid (rngLeft M w.heap.size wo = bp.length + bq.length + 1) := Lib.hid (by rw [HLE.out, hlb]; simp; omega)
      clear hl hr3 hc3 hz3 hlb hsub hch3 hp1 HNL HLE
      obtain ⟨nm, g, v, f⟩ := e
      simp only at *
      have HFA := Lib.hid (h3.files ⟨nm, g, v, f⟩ (by simp))
      obtain ⟨A0, c0, hv⟩ := own_form (show w3.ownsRow B 5 1 v f.bs.length (u8s f.bs) from HFA.out.own)
      subst hv
      have H3 := Lib.hid h3
      have y0 : w3.cell? ⟨g, 0, none⟩ = some (.slice A0 f.bs.length c0) := HFA.out.cell 0
      have y1 : w3.cell? ⟨g, 1, none⟩ = some (.int .i64 f.safe) := HFA.out.cell 1
      rw [total_mid] at htl
      simp only at htl
      have HU3 : Hid (total P + f.bs.length + total Q ≤ 1073741824) := Lib.hid (by have := HTU.out; omega)
      obtain ⟨q, hq⟩ : ∃ q, q = min (f.bs.length - f.safe) keep.toNat := ⟨_, rfl⟩
      have hu3 := HU3.out
      have hmx : min ((f.bs.length : Int) - (f.safe : Int)) (max 0 keep) = (q : Int) := by rw [hq]; omega
      have HQ : Hid (powN keep f = f.safe + q) := Lib.hid (by unfold powN; rw [hq])
      have hql : f.safe + q ≤ f.bs.length := by rw [hq]; omega
      have HQL := Lib.hid hql
      have HP2 : Hid (pows keep (bp ++ bq) F = P ++ ⟨nm, g, .slice A0 (f.safe + q) c0, ⟨f.bs.take (f.safe + q), f.safe + q⟩⟩ :: Q) := Lib.hid (by rw [hp2]; unfold powE powFl; rw [HQ.out]; rfl)
      clear hp2 h3 hq htl
      go_region
      all_goals
        have hdr : Below w3.heap.size w3 w3.drew := (Below.refl _ w3).drew
        have H4 := Lib.hid (H3.out.below hdr)
        have HCH4 := Lib.hid (HCH3.out.trans (DkCh.of_below hdr))
        have HR4 := Lib.hid (HR3.out.below hdr)
        clear hdr y0 y1
        generalize w3.drew = w4 at *
        obtain ⟨k, hk⟩ : ∃ k, k = f.safe + q := ⟨_, rfl⟩
        rw [← hk] at HQL HP2
        have e1 : (f.safe : Int) + (q : Int) = (k : Int) := by omega
        have HFA4 := Lib.hid (H4.out.files ⟨nm, g, .slice A0 f.bs.length c0, f⟩ (by simp))
        have y0 : w4.cell? ⟨g, 0, none⟩ = some (.slice A0 f.bs.length c0) := HFA4.out.cell 0
        have y1 : w4.cell? ⟨g, 1, none⟩ = some (.int .i64 f.safe) := HFA4.out.cell 1
        have c2 : w4.cell? ⟨D, 2, none⟩ = some (.int .i64 (total (P ++ ⟨nm, g, .slice A0 f.bs.length c0, f⟩ :: Q) : Int)) := H4.out.cell 2
        have f2 : w4.frozen? ⟨D, 2, none⟩ = false := H4.out.frozen 2
        obtain ⟨u, hu⟩ : ∃ u : Nat, u = total (P ++ ⟨nm, g, .slice A0 f.bs.length c0, f⟩ :: Q) := ⟨_, rfl⟩
        rw [← hu] at c2
        have hkl := HQL.out
        have hul : u ≤ 1073741824 ∧ f.bs.length ≤ u := by rw [hu, total_mid]; simp only; omega
        obtain ⟨r, hr⟩ : ∃ r, r = f.bs.length - k := ⟨_, rfl⟩
        obtain ⟨u', hu'⟩ : ∃ u', u' = u - r := ⟨_, rfl⟩
        have e2 : (f.bs.length : Int) - (k : Int) = (r : Int) := by omega
        have e3 : (u : Int) - (r : Int) = (u' : Int) := by omega
        have HUR : Hid (u' = u - (f.bs.length - k)) := Lib.hid (by rw [hu', hr])
        have HUU := Lib.hid hu
        clear hk hu hr hu'
        go_wp2_with (fail)
        go_region
        all_goals
          have hch5 : Ch (At1 D) w4 (w4.setCell ⟨D, 2, none⟩ (.int .i64 (u' : Int))).drew := ((Ch.refl _ w4).set1 2 _).drew
          have H5 : Hid (DkAt (w4.setCell ⟨D, 2, none⟩ (.int .i64 (u' : Int))).drew B D M { d with used := (u' : Int) } (P ++ ⟨nm, g, .slice A0 f.bs.length c0, f⟩ :: Q)) := Lib.hid (H4.out.nums hch5 (heap_set_row H4.out.row _))
          have HCH5 := Lib.hid (HCH4.out.trans (DkCh.of1 hch5))
          have HR5 := Lib.hid (HR4.out.ch hch5 H4.out.neDM (fun hs => (HR4.out.ne H4.out.row) hs))
          clear hch5 y0 y1 c2 f2
          generalize (w4.setCell ⟨D, 2, none⟩ (.int .i64 (u' : Int))).drew = w5 at *
          have HFA5 := Lib.hid (H5.out.files ⟨nm, g, .slice A0 f.bs.length c0, f⟩ (by simp))
          have y0 : w5.cell? ⟨g, 0, none⟩ = some (.slice A0 f.bs.length c0) := HFA5.out.cell 0
          have y1 : w5.cell? ⟨g, 1, none⟩ = some (.int .i64 f.safe) := HFA5.out.cell 1
          have f0 : w5.frozen? ⟨g, 0, none⟩ = false := HFA5.out.frozen 0
          have f1 : w5.frozen? ⟨g, 1, none⟩ = false := HFA5.out.frozen 1
          have HC6 := Lib.hid (H5.out.cut rfl k HQL.out)
          have HC7 := Lib.hid (HC6.out.1.safe k)
          have hkc : (k : Int) ≤ (c0 : Int) := by
            obtain ⟨A', c', hv', hb', _⟩ := Own.bs HFA5.out.own
            injection hv' with hv1 hv2 hv3
            have := hb'.le
            omega
          have HTT : Hid (total (P ++ ⟨nm, g, .slice A0 k c0, ⟨f.bs.take k, k⟩⟩ :: Q) = u') := Lib.hid (by rw [HUR.out, HUU.out, total_mid, total_mid]; simp only [List.length_take]; omega)
          have HR7 : Hid (Rng (.string) ((w5.setCell ⟨g, 0, none⟩ (.slice A0 k c0)).setCell ⟨g, 1, none⟩ (.int .i64 (k : Int))) M w.heap.size (mapL F) (mapL (bp ++ bq))) := Lib.hid (by
            have := HR5.out.ch (((Ch.refl (fun j => j = g) w5).set (a := ⟨g, 0, none⟩) rfl (.slice A0 k c0)).set (a := ⟨g, 1, none⟩) rfl (.int .i64 (k : Int))) (fun hs => (HFA5.out.neM H5.out.map).1 hs.symm) (fun hs => (HR5.out.ne HFA5.out.row) hs)
            unfold mapL
            rw [List.map_append]
            exact this)
          go_wp2_with (fail)
          go_roundw
          case rel =>
            refine ⟨bp ++ bq, HSUB2.out, HR7.out, ?_, ?_⟩
            · rw [HP2.out, HTT.out]
              exact HC7.out.1
            · rw [HP2.out]
              exact HCH5.out.trans (HC6.out.2.trans HC7.out.2)
          case measure =>
            rw [HR7.out.left_eq, HLE2.out]
            simp [mapL]
end
end Go.Proofs.Ytolomfdommnklaa
