/- Laid together: Dk5, Dk6, Dk7, Dk8, Dk11, Dk12, Dk13, Dk14, Dk9, Dk10, Dk15, Dk16, ScanMath, ScanJoin, CutsMath, Rw, Tail, WalC, ScanR13. -/
import Derived.Test.YthblbmbefhlbjaaPkWA1
import Derived.StillTail
import Derived.BigQuiet
import Derived.Deep.RegionLaw
import Derived.Deep.RegionHeld3

/- Layer 2: Power, walked. -/
namespace Go.Proofs.Ythblbmbefhlbjaa
open Go.RowKit Go.MapKept

def total (F : List Ent) : Nat := (F.map fun e => e.f.bs.length).sum
theorem total_mid (P Q : List Ent) (e : Ent) : total (P ++ e :: Q) = total P + e.f.bs.length + total Q := by simp [total]; omega
/-- numbers that fit the files -/
structure DkOk (d : Dk) (F : List Ent) : Prop where
  ok : d.Ok
  tot : d.used = (total F : Int)
  safe : ∀ e ∈ F, e.f.safe ≤ e.f.bs.length
theorem DkOk.lens {d : Dk} {F : List Ent} (h : DkOk d F) : FileLens F := fun e he => by
  obtain ⟨P, Q, rfl⟩ := List.append_of_mem he
  have h1 := h.tot
  have h2 := h.ok.used
  rw [total_mid] at h1
  omega
def cutV : Value → Nat → Value
  | .slice A _ c, k => .slice A k c
  | v, _ => v
/-- how many bytes are left -/
def powN (keep : Int) (f : Fl) : Nat := f.safe + min (f.bs.length - f.safe) keep.toNat
def powFl (keep : Int) (f : Fl) : Fl := ⟨f.bs.take (powN keep f), powN keep f⟩
def powE (keep : Int) (e : Ent) : Ent := ⟨e.nm, e.g, cutV e.v (powN keep e.f), powFl keep e.f⟩
open Classical in
/-- all but those that are still to come -/
noncomputable def pows (keep : Int) (lb F : List Ent) : List Ent := F.map fun e => if e.nm ∈ lb.map (·.nm) then e else powE keep e
section
variable {w : World} {B D M : Nat} {d : Dk} {F : List Ent}
theorem powN_le {keep : Int} {f : Fl} (h : f.safe ≤ f.bs.length) : powN keep f ≤ f.bs.length := by unfold powN; omega
theorem pows_all (keep : Int) (F : List Ent) : pows keep F F = F := by
  unfold pows
  conv => rhs; rw [← List.map_id F]
  exact List.map_congr_left fun e he => by rw [if_pos (List.mem_map.2 ⟨e, he, rfl⟩)]; rfl
theorem pows_none (keep : Int) (F : List Ent) : pows keep [] F = F.map (powE keep) := by
  unfold pows
  exact List.map_congr_left fun e he => by simp
open Classical in
theorem pows_next {keep : Int} {F bp bq : List Ent} {e : Ent} (hn : (F.map (·.nm)).Nodup) (hs : (bp ++ e :: bq).Sublist F) : ∃ P Q, pows keep (bp ++ e :: bq) F = P ++ e :: Q ∧ pows keep (bp ++ bq) F = P ++ powE keep e :: Q := by
  have he : e ∈ F := hs.subset (by simp)
  obtain ⟨P, Q, rfl⟩ := List.append_of_mem he
  have hnl : ((bp ++ e :: bq).map (·.nm)).Nodup := hn.sublist (hs.map _)
  have h1 : e.nm ∉ (bp ++ bq).map (·.nm) := by
    rw [List.map_append, List.map_cons, List.nodup_append] at hnl
    rw [List.map_append, List.mem_append]
    rintro (h | h)
    · exact hnl.2.2 _ h e.nm (by simp) rfl
    · exact (List.nodup_cons.1 hnl.2.1).1 h
  have h2 : ∀ x ∈ P ++ Q, x.nm ≠ e.nm := fun x hx => by
    rw [List.map_append, List.map_cons, List.nodup_append] at hn
    rcases List.mem_append.1 hx with hx | hx
    · exact fun e2 => hn.2.2 x.nm (List.mem_map.2 ⟨x, hx, rfl⟩) e.nm (by simp) e2
    · exact fun e2 => (List.nodup_cons.1 hn.2.1).1 (by rw [← e2]; exact List.mem_map.2 ⟨x, hx, rfl⟩)
  have h3 : ∀ x ∈ P ++ Q, (x.nm ∈ (bp ++ e :: bq).map (·.nm) ↔ x.nm ∈ (bp ++ bq).map (·.nm)) := fun x hx => by
    have := h2 x hx
    simp only [List.map_append, List.map_cons, List.mem_append, List.mem_cons]
    constructor
    · rintro (h | h | h)
      · exact .inl h
      · exact absurd h this
      · exact .inr h
    · rintro (h | h)
      · exact .inl h
      · exact .inr (.inr h)
  have hite : ∀ x ∈ P ++ Q, (if x.nm ∈ (bp ++ e :: bq).map (·.nm) then x else powE keep x) = (if x.nm ∈ (bp ++ bq).map (·.nm) then x else powE keep x) := fun x hx => by
    by_cases hm : x.nm ∈ (bp ++ bq).map (·.nm)
    · rw [if_pos ((h3 x hx).2 hm), if_pos hm]
    · rw [if_neg (fun h => hm ((h3 x hx).1 h)), if_neg hm]
  refine ⟨pows keep (bp ++ bq) P, pows keep (bp ++ bq) Q, ?_, ?_⟩
  · unfold pows
    rw [List.map_append, List.map_cons, if_pos (by simp)]
    congr 1
    · exact List.map_congr_left fun x hx => hite x (by simp [hx])
    · congr 1
      exact List.map_congr_left fun x hx => hite x (by simp [hx])
  · unfold pows
    rw [List.map_append, List.map_cons, if_neg h1]
/-- a file, cut -/
theorem DkAt.cut {P Q : List Ent} {nm : ByteArray} {g : Nat} {A : Option Addr} {n c : Nat} {f : Fl} (h : DkAt w B D M d (P ++ ⟨nm, g, .slice A n c, f⟩ :: Q)) (hn : n = f.bs.length) (k : Nat) (hk : k ≤ f.bs.length) :
    DkAt (w.setCell ⟨g, 0, none⟩ (.slice A k c)) B D M d (P ++ ⟨nm, g, .slice A k c, ⟨f.bs.take k, f.safe⟩⟩ :: Q) ∧ DkCh D M (P ++ ⟨nm, g, .slice A n c, f⟩ :: Q) (P ++ ⟨nm, g, .slice A k c, ⟨f.bs.take k, f.safe⟩⟩ :: Q) w (w.setCell ⟨g, 0, none⟩ (.slice A k c)) := by
  subst hn
  have he := h.files ⟨nm, g, .slice A f.bs.length c, f⟩ (by simp)
  have hob : (Value.slice A k c).ownBlock = (Value.slice A f.bs.length c).ownBlock := by cases A <;> rfl
  exact h.file ((Ch.refl _ w).set (a := ⟨g, 0, none⟩) (.inl rfl) _) (.slice A k c) ⟨f.bs.take k, f.safe⟩ (heap_set_row he.row _) ((Own.shrink he.own hk).ch ((Ch.refl (fun k => k = g) w).set (a := ⟨g, 0, none⟩) rfl _) (fun j hj hs => (own_ne he.own he.row (by decide)) (by rw [hob] at hj; rw [hj, hs]))) (fun j hj => .inl (by rw [← hob]; exact hj))
theorem DkCh.later {F1 : List Ent} {w1 w2 : World} {S : Nat → Prop} (h : DkCh D M F F1 w w1) (c : Ch S w1 w2) (hS : ∀ k, S k → w.heap.size ≤ k) : DkCh D M F F1 w w2 :=
  ⟨h.ch.trans c (fun k hk hs => by have := hS k hs; omega), h.foot⟩
/-- Power's round: where it stands -/
structure PowSt (w : World) (B D M I : Nat) (d : Dk) (F : List Ent) (keep : Int) (lb : List Ent) (wr : World) : Prop where
  sub : lb.Sublist F
  rng : Rng (.string) wr M I (mapL F) (mapL lb)
  at_ : DkAt wr B D M { d with used := (total (pows keep lb F) : Int) } (pows keep lb F)
  ch : DkCh D M F (pows keep lb F) w wr
theorem Rng.neDk {I : Nat} {L left : List (ByteArray × Value)} (hr : Rng (.string) w M I L left) (h : DkAt w B D M d F) : ∀ k, DFoot D M F k → ¬ k = I := fun k hk he => by
  subst he
  rcases hk with hk | hk | ⟨e, he, hk | hk⟩
  · exact hr.ne h.row hk
  · exact hr.neM h.map hk
  · exact hr.ne (h.files e he).row hk
  · obtain ⟨cur, hc⟩ := own_ty (h.files e he).own _ hk
    exact hr.ne hc rfl
open Classical in
theorem total_pows_le {keep : Int} {lb F : List Ent} (hs : ∀ e ∈ F, e.f.safe ≤ e.f.bs.length) : total (pows keep lb F) ≤ total F := by
  induction F with
  | nil => simp [pows, total]
  | cons a r ih =>
    have h1 := ih (fun e he => hs e (by simp [he]))
    have h2 : (if a.nm ∈ lb.map (·.nm) then a else powE keep a).f.bs.length ≤ a.f.bs.length := by
      split
      · exact Nat.le_refl _
      · simp only [powE, powFl, List.length_take]; omega
    simp only [pows, total, List.map_cons, List.sum_cons] at h1 ⊢
    omega

set_option maxHeartbeats 2000000 in
set_option maxRecDepth 100000 in
theorem dkPower (h : DkAt w B D M d F) (ok : DkOk d F) (keep : Int) : Calls Try.prog 27 #[pD D, .int .i64 keep] w fun e w' => e = .returned (.int .i64 0) ∧ DkAt w' B D M { d with used := (total (F.map (powE keep)) : Int), failIn := 0, armedIn := 0 } (F.map (powE keep)) ∧ DkCh D M F (F.map (powE keep)) w w' := by
  have c0' : w.cell? ⟨D, 0, none⟩ = some (.map (some M)) := h.cell 0
  have H := Lib.hid h
  have OK := Lib.hid ok
  have HTU : Hid (total F ≤ 1073741824) := Lib.hid (by have := ok.tot; have := ok.ok.used; omega)
  have tok1 : Hid True := Lib.hid trivial
  clear h ok
  go_enter Try.func27, Try.ntmps27
  go_wp2_with (at_range; have _t := tok1; refine wpList_rangeL rfl (.tmp 14) 83 rfl Try.underlying83 M (mapL F) rfl H.out.map ?_; intro w2 hr2 hb2 hz2; have HS0 : Hid (PowSt w B D M w.heap.size d F keep F w2) := Lib.hid ⟨List.Sublist.refl F, hr2, (by rw [pows_all, ← OK.out.tot]; exact H.out.below hb2), (by rw [pows_all]; exact DkCh.of_below hb2)⟩; clear tok1 hr2 hb2 hz2 _t)
  go_frame
  go_loopw [6, 7, 8] (fun _ _ _ wr => ∃ lb, PowSt w B D M w.heap.size d F keep lb wr) (fun _ _ _ wr => rngLeft M w.heap.size wr)
  case atStart => exact ⟨F, HS0.out⟩
  case round =>
    clear HS0 c0'
    obtain ⟨wo, rfl⟩ : ∃ wo : World, wo = wr := ⟨_, rfl⟩
    obtain ⟨lb, hs⟩ := hrel
    have HS := Lib.hid hs
    have HLE := Lib.hid hs.rng.left_eq
    clear hs
    by_cases h0 : lb = []
    · subst h0
      have HR0 : Hid (Rng (.string) wo M w.heap.size (mapL F) []) := Lib.hid HS.out.rng
      have hat := HS.out.at_
      rw [pows_none] at hat
      have HAT := Lib.hid hat
      have HCH : Hid (DkCh D M F (F.map (powE keep)) w wo) := Lib.hid (by have := HS.out.ch; rwa [pows_none] at this)
      have c4 : wo.cell? ⟨D, 4, none⟩ = some (.int .i64 d.failIn) := hat.cell 4
      have c5 : wo.cell? ⟨D, 5, none⟩ = some (.int .i64 d.armedIn) := hat.cell 5
      have f4 := hat.frozen 4
      have f5 := hat.frozen 5
      clear hat
      go_wp2_with (at_next; refine wpList_nextL0 rfl (.tmp 15) rfl M w.heap.size _ rfl HR0.out ?_)
      go_ret
      exact ⟨rfl, HAT.out.nums (((Ch.refl _ wo).set1 4 _).set1 5 _) (heap_set_row (heap_set_row HAT.out.row _) _), HCH.out.trans (DkCh.of1 (((Ch.refl _ wo).set1 4 _).set1 5 _))⟩
    · have HNL : Hid (mapL lb ≠ []) := Lib.hid (by simpa using h0)
      clear h0
      have tok2 : Hid True := Lib.hid trivial
      go_wp2_with (at_next; have _t := tok2; refine wpList_nextL1 rfl (.tmp 15) rfl M w.heap.size _ _ rfl HS.out.rng HNL.out ?_; intro lp key v lq w3 hl hr3 hc3 hz3 hen; obtain ⟨bp, e, bq, hlb, hbp, hkx, hbq⟩ := map_split (fun e => (e.nm, pf e.g)) lp (key, v) lq lb hl; obtain ⟨rfl, rfl⟩ : e.nm = key ∧ pf e.g = v := (by simpa using hkx); subst hbp hbq; clear tok2 _t)
      have hsub : (bp ++ e :: bq).Sublist F := hlb ▸ HS.out.sub
      obtain ⟨P, Q, hp1, hp2⟩ := pows_next (keep := keep) H.out.names hsub
      have hfs := OK.out.safe e (hsub.subset (by simp))
      have h3 := HS.out.at_.ch hc3 (HS.out.rng.neDk HS.out.at_)
      have hch3 := HS.out.ch.later hc3 (fun k hk => by omega)
      have htl := total_pows_le (keep := keep) (lb := lb) OK.out.safe
      rw [hlb, hp1] at h3 hch3 htl
      have HCH3 := Lib.hid hch3
      have HR3 := Lib.hid hr3
      have HSUB2 : Hid ((bp ++ bq).Sublist F) := Lib.hid (((List.Sublist.append_left (List.sublist_cons_self e bq) bp)).trans hsub)
      have HLE2 : Hid (rngLeft M w.heap.size wo = bp.length + bq.length + 1) := Lib.hid (by rw [HLE.out, hlb]; simp; omega)
      clear hl hr3 hc3 hz3 hlb hsub hch3 hp1 HNL HLE
      obtain ⟨nm, g, v, f⟩ := e
      simp only at *
      have HFA := Lib.hid (h3.files ⟨nm, g, v, f⟩ (by simp))
      obtain ⟨A0, c0, hv⟩ := own_form (show w3.ownsRow B 5 1 v f.bs.length (u8s f.bs) from HFA.out.own)
      subst hv
      have H3 := Lib.hid h3
      have y0 : w3.cell? ⟨g, 0, none⟩ = some (.slice A0 f.bs.length c0) := HFA.out.cell 0
      have y1 : w3.cell? ⟨g, 1, none⟩ = some (.int .i64 f.safe) := HFA.out.cell 1
      rw [total_mid] at htl
      simp only at htl
      have HU3 : Hid (total P + f.bs.length + total Q ≤ 1073741824) := Lib.hid (by have := HTU.out; omega)
      obtain ⟨q, hq⟩ : ∃ q, q = min (f.bs.length - f.safe) keep.toNat := ⟨_, rfl⟩
      have hu3 := HU3.out
      have hmx : min ((f.bs.length : Int) - (f.safe : Int)) (max 0 keep) = (q : Int) := by rw [hq]; omega
      have HQ : Hid (powN keep f = f.safe + q) := Lib.hid (by unfold powN; rw [hq])
      have hql : f.safe + q ≤ f.bs.length := by rw [hq]; omega
      have HQL := Lib.hid hql
      have HP2 : Hid (pows keep (bp ++ bq) F = P ++ ⟨nm, g, .slice A0 (f.safe + q) c0, ⟨f.bs.take (f.safe + q), f.safe + q⟩⟩ :: Q) := Lib.hid (by rw [hp2]; unfold powE powFl; rw [HQ.out]; rfl)
      clear hp2 h3 hq htl
      go_region
      all_goals
        have hdr : Below w3.heap.size w3 w3.drew := (Below.refl _ w3).drew
        have H4 := Lib.hid (H3.out.below hdr)
        have HCH4 := Lib.hid (HCH3.out.trans (DkCh.of_below hdr))
        have HR4 := Lib.hid (HR3.out.below hdr)
        clear hdr y0 y1
        generalize w3.drew = w4 at *
        obtain ⟨k, hk⟩ : ∃ k, k = f.safe + q := ⟨_, rfl⟩
        rw [← hk] at HQL HP2
        have e1 : (f.safe : Int) + (q : Int) = (k : Int) := by omega
        have HFA4 := Lib.hid (H4.out.files ⟨nm, g, .slice A0 f.bs.length c0, f⟩ (by simp))
        have y0 : w4.cell? ⟨g, 0, none⟩ = some (.slice A0 f.bs.length c0) := HFA4.out.cell 0
        have y1 : w4.cell? ⟨g, 1, none⟩ = some (.int .i64 f.safe) := HFA4.out.cell 1
        have c2 : w4.cell? ⟨D, 2, none⟩ = some (.int .i64 (total (P ++ ⟨nm, g, .slice A0 f.bs.length c0, f⟩ :: Q) : Int)) := H4.out.cell 2
        have f2 : w4.frozen? ⟨D, 2, none⟩ = false := H4.out.frozen 2
        obtain ⟨u, hu⟩ : ∃ u : Nat, u = total (P ++ ⟨nm, g, .slice A0 f.bs.length c0, f⟩ :: Q) := ⟨_, rfl⟩
        rw [← hu] at c2
        have hkl := HQL.out
        have hul : u ≤ 1073741824 ∧ f.bs.length ≤ u := by rw [hu, total_mid]; simp only; omega
        obtain ⟨r, hr⟩ : ∃ r, r = f.bs.length - k := ⟨_, rfl⟩
        obtain ⟨u', hu'⟩ : ∃ u', u' = u - r := ⟨_, rfl⟩
        have e2 : (f.bs.length : Int) - (k : Int) = (r : Int) := by omega
        have e3 : (u : Int) - (r : Int) = (u' : Int) := by omega
        have HUR : Hid (u' = u - (f.bs.length - k)) := Lib.hid (by rw [hu', hr])
        have HUU := Lib.hid hu
        clear hk hu hr hu'
        go_wp2_with (fail)
        go_region
        all_goals
          have hch5 : Ch (At1 D) w4 (w4.setCell ⟨D, 2, none⟩ (.int .i64 (u' : Int))).drew := ((Ch.refl _ w4).set1 2 _).drew
          have H5 : Hid (DkAt (w4.setCell ⟨D, 2, none⟩ (.int .i64 (u' : Int))).drew B D M { d with used := (u' : Int) } (P ++ ⟨nm, g, .slice A0 f.bs.length c0, f⟩ :: Q)) := Lib.hid (H4.out.nums hch5 (heap_set_row H4.out.row _))
          have HCH5 := Lib.hid (HCH4.out.trans (DkCh.of1 hch5))
          have HR5 := Lib.hid (HR4.out.ch hch5 H4.out.neDM (fun hs => (HR4.out.ne H4.out.row) hs))
          clear hch5 y0 y1 c2 f2
          generalize (w4.setCell ⟨D, 2, none⟩ (.int .i64 (u' : Int))).drew = w5 at *
          have HFA5 := Lib.hid (H5.out.files ⟨nm, g, .slice A0 f.bs.length c0, f⟩ (by simp))
          have y0 : w5.cell? ⟨g, 0, none⟩ = some (.slice A0 f.bs.length c0) := HFA5.out.cell 0
          have y1 : w5.cell? ⟨g, 1, none⟩ = some (.int .i64 f.safe) := HFA5.out.cell 1
          have f0 : w5.frozen? ⟨g, 0, none⟩ = false := HFA5.out.frozen 0
          have f1 : w5.frozen? ⟨g, 1, none⟩ = false := HFA5.out.frozen 1
          have HC6 := Lib.hid (H5.out.cut rfl k HQL.out)
          have HC7 := Lib.hid (HC6.out.1.safe k)
          have hkc : (k : Int) ≤ (c0 : Int) := by
            obtain ⟨A', c', hv', hb', _⟩ := Own.bs HFA5.out.own
            injection hv' with hv1 hv2 hv3
            have := hb'.le
            omega
          have HTT : Hid (total (P ++ ⟨nm, g, .slice A0 k c0, ⟨f.bs.take k, k⟩⟩ :: Q) = u') := Lib.hid (by rw [HUR.out, HUU.out, total_mid, total_mid]; simp only [List.length_take]; omega)
          have HR7 : Hid (Rng (.string) ((w5.setCell ⟨g, 0, none⟩ (.slice A0 k c0)).setCell ⟨g, 1, none⟩ (.int .i64 (k : Int))) M w.heap.size (mapL F) (mapL (bp ++ bq))) := Lib.hid (by
            have := HR5.out.ch (((Ch.refl (fun j => j = g) w5).set (a := ⟨g, 0, none⟩) rfl (.slice A0 k c0)).set (a := ⟨g, 1, none⟩) rfl (.int .i64 (k : Int))) (fun hs => (HFA5.out.neM H5.out.map).1 hs.symm) (fun hs => (HR5.out.ne HFA5.out.row) hs)
            unfold mapL
            rw [List.map_append]
            exact this)
          go_wp2_with (fail)
          go_roundw
          case rel =>
            refine ⟨bp ++ bq, HSUB2.out, HR7.out, ?_, ?_⟩
            · rw [HP2.out, HTT.out]
              exact HC7.out.1
            · rw [HP2.out]
              exact HCH5.out.trans (HC6.out.2.trans HC7.out.2)
          case measure =>
            rw [HR7.out.left_eq, HLE2.out]
            simp [mapL]
end
end Go.Proofs.Ythblbmbefhlbjaa
/- Layer 2: drop, Remove, Rename, Truncate, Synced, walked. -/
namespace Go.Proofs.Ythblbmbefhlbjaa
open Go.RowKit Go.MapKept

section
variable {w w' : World} {B D M : Nat} {d : Dk} {F : List Ent}
theorem okTruncate1 : FnOk 83 := fun args w => Go.MuLone.run_callFunc_enter Try.func83 (by kernel_rfl) rfl args w
end
end Go.Proofs.Ythblbmbefhlbjaa
/- Layer 2: Remove and Truncate, walked. -/
namespace Go.Proofs.Ythblbmbefhlbjaa
open Go.RowKit Go.MapKept

/-- how a change ends: done, or lost: then it is done, or isn't -/
def ChOut (ok : Value) (d : Dk) (Rgo Rno : World → Prop) (e : Ending) (w' : World) : Prop :=
  (d.armedIn ≠ 1 ∧ e = .returned ok ∧ Rgo w') ∨ (d.armedIn = 1 ∧ e = .panicked [{ v := crashI (d.ops + 1), recovered := false }] ∧ ((dOdd d = true ∧ Rgo w') ∨ (dOdd d = false ∧ Rno w')))
section
variable {w w' : World} {B D M : Nat} {d : Dk} {F : List Ent}
theorem dkChange (h : DkAt w B D M d F) (ok : d.Ok) (k : FuncId) (caps : Array Value) (hk : FnOk k) (R : World → Prop)
    (hdo : ∀ w1, DkAt w1 B D M d.begin F → Ch (At1 D) w w1 → Calls Try.prog k caps w1 fun e w2 => e = .returned (.tuple #[]) ∧ R w2) (hR : ∀ w2, R w2 → w2.cell? ⟨D, 3, none⟩ = some (.int .i64 (d.ops + 1))) :
    Calls Try.prog 68 #[pD D, fnV k caps] w (ChOut (.tuple #[]) d R fun w' => DkAt w' B D M d.begin F ∧ Ch (At1 D) w w') := by
  by_cases ha : d.armedIn = 1
  · cases ho : dOdd d
    · exact (dkChange_even h ok ha ho k caps).mono fun e w' ⟨h1, h2⟩ => .inr ⟨ha, h1, .inr ⟨ho, h2⟩⟩
    · exact (dkChange_odd h ok ha ho k caps hk R hdo hR).mono fun e w' ⟨h1, h2⟩ => .inr ⟨ha, h1, .inl ⟨ho, h2⟩⟩
  · exact (dkChange_go h ok ha k caps hk R hdo).mono fun e w' ⟨h1, h2⟩ => .inl ⟨ha, h1, h2⟩

/-- nothing done -/
def NoR (B D M : Nat) (d : Dk) (F : List Ent) (w : World) (w' : World) : Prop := DkAt w' B D M d.begin F ∧ DkCh D M F F w w'

end
end Go.Proofs.Ythblbmbefhlbjaa
/- Layer 2: Truncate and Rename, walked. -/
namespace Go.Proofs.Ythblbmbefhlbjaa
open Go.RowKit Go.MapKept

section
variable {w w' : World} {B D M : Nat} {d : Dk} {F : List Ent}
def trFl (n : Nat) (f : Fl) : Fl := ⟨f.bs.take n, min f.safe n⟩
set_option maxHeartbeats 2000000 in
set_option maxRecDepth 100000 in
theorem dkTruncate1 {P Q : List Ent} {nm : ByteArray} {g : Nat} {A0 : Option Addr} {c0 : Nat} {f : Fl} (h : DkAt w B D M d (P ++ ⟨nm, g, .slice A0 f.bs.length c0, f⟩ :: Q)) (n : Nat) (hn : n ≤ f.bs.length) (hu : (f.bs.length : Int) ≤ d.used ∧ d.used ≤ 1073741824) (X Y Z : Nat) (hX : X ≠ D ∧ X ≠ g) (hY : Y ≠ D ∧ Y ≠ g) (hZ : Z ≠ D ∧ Z ≠ g)
    (hx : w.cell? ⟨X, 0, none⟩ = some (pD D)) (hy : w.cell? ⟨Y, 0, none⟩ = some (pf g)) (hz : w.cell? ⟨Z, 0, none⟩ = some (.int .i64 (n : Int))) :
    Calls Try.prog 83 #[.pointer (some ⟨X, 0, none⟩), .pointer (some ⟨Y, 0, none⟩), .pointer (some ⟨Z, 0, none⟩)] w fun e w' => e = .returned (.tuple #[]) ∧ DkAt w' B D M { d with used := d.used - ((f.bs.length : Int) - (n : Int)) } (P ++ ⟨nm, g, .slice A0 n c0, trFl n f⟩ :: Q) ∧ DkCh D M (P ++ ⟨nm, g, .slice A0 f.bs.length c0, f⟩ :: Q) (P ++ ⟨nm, g, .slice A0 n c0, trFl n f⟩ :: Q) w w' := by
  have H := Lib.hid h
  have HFA := Lib.hid (h.files ⟨nm, g, .slice A0 f.bs.length c0, f⟩ (by simp))
  have y0 : w.cell? ⟨g, 0, none⟩ = some (.slice A0 f.bs.length c0) := HFA.out.cell 0
  have y1 : w.cell? ⟨g, 1, none⟩ = some (.int .i64 f.safe) := HFA.out.cell 1
  have c2 : w.cell? ⟨D, 2, none⟩ = some (.int .i64 d.used) := h.cell 2
  have f2 := h.frozen 2
  have hgd := (HFA.out.neD h.row).1
  simp only at hgd
  have hdg : D ≠ g := fun e => hgd e.symm
  obtain ⟨r, hr⟩ : ∃ r : Int, r = (f.bs.length : Int) - (n : Int) := ⟨_, rfl⟩
  obtain ⟨u, hu'⟩ : ∃ u : Int, u = d.used - r := ⟨_, rfl⟩
  have e1 : (f.bs.length : Int) - (n : Int) = r := hr.symm
  have e2 : d.used - r = u := hu'.symm
  have hu1 := hu.1
  have hu2 := hu.2
  rw [e1, e2]
  have HN := Lib.hid hn
  have hrb : 0 ≤ r ∧ r ≤ d.used := by omega
  have hX1 := hX.1
  have hX2 := hX.2
  have hY1 := hY.1
  have hY2 := hY.2
  have hZ1 := hZ.1
  have hZ2 := hZ.2
  clear h hu hr hu' hX hY hZ
  go_enter Try.func83, Try.ntmps83
  go_wp2_with (fail)
  go_region
  all_goals
    have hch : Ch (At1 D) w (w.setCell ⟨D, 2, none⟩ (.int .i64 u)).drew := ((Ch.refl _ w).set1 2 _).drew
    have H2 : Hid (DkAt (w.setCell ⟨D, 2, none⟩ (.int .i64 u)).drew B D M { d with used := u } (P ++ ⟨nm, g, .slice A0 f.bs.length c0, f⟩ :: Q)) := Lib.hid (H.out.nums hch (heap_set_row H.out.row _))
    have HCH2 : Hid (DkCh D M (P ++ ⟨nm, g, .slice A0 f.bs.length c0, f⟩ :: Q) (P ++ ⟨nm, g, .slice A0 f.bs.length c0, f⟩ :: Q) w (w.setCell ⟨D, 2, none⟩ (.int .i64 u)).drew) := Lib.hid (DkCh.of1 hch)
    have x2 : ∀ (V : Nat) (x : Value), V ≠ D → w.cell? ⟨V, 0, none⟩ = some x → (w.setCell ⟨D, 2, none⟩ (.int .i64 u)).drew.cell? ⟨V, 0, none⟩ = some x := fun V x hV hx => by
      rw [World.cell?_of_block (w := w) (a := ⟨V, 0, none⟩) (hch.block V (World.block_lt_of_cell? w _ hx) hV)]; exact hx
    have x20 := x2 X _ hX1 hx
    have x21 := x2 Y _ hY1 hy
    have x22 := x2 Z _ hZ1 hz
    clear x2 hch hx hy hz y0 y1 c2 f2
    generalize (w.setCell ⟨D, 2, none⟩ (.int .i64 u)).drew = w2 at *
    have HFA2 := Lib.hid (H2.out.files ⟨nm, g, .slice A0 f.bs.length c0, f⟩ (by simp))
    have y0 : w2.cell? ⟨g, 0, none⟩ = some (.slice A0 f.bs.length c0) := HFA2.out.cell 0
    have y1 : w2.cell? ⟨g, 1, none⟩ = some (.int .i64 f.safe) := HFA2.out.cell 1
    have f0 : w2.frozen? ⟨g, 0, none⟩ = false := HFA2.out.frozen 0
    have hnc : (n : Int) ≤ (c0 : Int) := by
      obtain ⟨A', c', hv', hb', _⟩ := Own.bs HFA2.out.own
      injection hv' with hv1 hv2 hv3
      have := hb'.le
      omega
    have HC3 := Lib.hid (H2.out.cut rfl n HN.out)
    go_wp2_with (fail)
    go_region
    all_goals
      have H3 : Hid (DkAt (w2.setCell ⟨g, 0, none⟩ (.slice A0 n c0)).drew B D M { d with used := u } (P ++ ⟨nm, g, .slice A0 n c0, ⟨f.bs.take n, f.safe⟩⟩ :: Q)) := Lib.hid (HC3.out.1.below (Below.refl _ _).drew)
      have HCH3 : Hid (DkCh D M (P ++ ⟨nm, g, .slice A0 f.bs.length c0, f⟩ :: Q) (P ++ ⟨nm, g, .slice A0 n c0, ⟨f.bs.take n, f.safe⟩⟩ :: Q) w (w2.setCell ⟨g, 0, none⟩ (.slice A0 n c0)).drew) := Lib.hid (HCH2.out.trans (HC3.out.2.trans (DkCh.of_below (Below.refl _ _).drew)))
      have x3 : ∀ (V : Nat) (x : Value), V ≠ g → w2.cell? ⟨V, 0, none⟩ = some x → (w2.setCell ⟨g, 0, none⟩ (.slice A0 n c0)).drew.cell? ⟨V, 0, none⟩ = some x := fun V x hV hx => by
        rw [World.cell?_of_block (w := w2) (a := ⟨V, 0, none⟩) (((Ch.refl (fun k => k = g) w2).set (a := ⟨g, 0, none⟩) rfl (.slice A0 n c0)).drew.block V (World.block_lt_of_cell? w2 _ hx) hV)]; exact hx
      have x30 := x3 X _ hX2 x20
      have x31 := x3 Y _ hY2 x21
      have x32 := x3 Z _ hZ2 x22
      clear x3 x20 x21 x22 y0 y1 f0
      generalize (w2.setCell ⟨g, 0, none⟩ (.slice A0 n c0)).drew = w3 at *
      have HFA3 := Lib.hid (H3.out.files ⟨nm, g, .slice A0 n c0, ⟨f.bs.take n, f.safe⟩⟩ (by simp))
      have y1 : w3.cell? ⟨g, 1, none⟩ = some (.int .i64 f.safe) := HFA3.out.cell 1
      have f1 : w3.frozen? ⟨g, 1, none⟩ = false := HFA3.out.frozen 1
      obtain ⟨s, hsm⟩ : ∃ s, s = min f.safe n := ⟨_, rfl⟩
      have e3 : min (f.safe : Int) (n : Int) = (s : Int) := by rw [hsm]; omega
      have HS : Hid (trFl n f = ⟨f.bs.take n, s⟩) := Lib.hid (by unfold trFl; rw [hsm])
      have HC4 := Lib.hid (H3.out.safe s)
      clear hsm
      go_wp2_with (fail)
      go_region
      all_goals
        go_end0
        rw [HS.out]
        exact ⟨rfl, HC4.out.1.below (Below.refl _ _).drew, HCH3.out.trans (HC4.out.2.trans (DkCh.of_below (Below.refl _ _).drew))⟩

set_option maxHeartbeats 2000000 in
set_option maxRecDepth 100000 in
theorem dkTruncate_none (h : DkAt w B D M d F) (nm : ByteArray) (n : Int) (hn : ∀ e ∈ F, e.nm ≠ nm) : Calls Try.prog 65 #[pD D, .string nm, .int .i64 n] w fun e w' => e = .returned (.int .i64 6) ∧ Below w.heap.size w w' := by
  have hb1 : Below w.heap.size w ((w.alloc (.cells #[pD D] 41)).alloc (.cells #[.int .i64 n] 3)) := ((Below.refl _ _).alloc (Nat.le_refl _) _).alloc (by simp) _
  have hr1 : ((w.alloc (.cells #[pD D] 41)).alloc (.cells #[.int .i64 n] 3)).heap[w.heap.size]? = some (.cells #[pD D] 41) ∧ ((w.alloc (.cells #[pD D] 41)).alloc (.cells #[.int .i64 n] 3)).heap[w.heap.size + 1]? = some (.cells #[.int .i64 n] 3) ∧ ((w.alloc (.cells #[pD D] 41)).alloc (.cells #[.int .i64 n] 3)).heap.size = w.heap.size + 2 := by
    have h1 := heap_alloc_new w (.cells #[pD D] 41)
    have h2 := heap_alloc_new (w.alloc (.cells #[pD D] 41)) (.cells #[.int .i64 n] 3)
    refine ⟨?_, by simpa using h2, by simp⟩
    rw [((Below.refl (w.alloc (.cells #[pD D] 41)).heap.size (w.alloc (.cells #[pD D] 41))).alloc (Nat.le_refl _) _).block _ (by simp)]
    exact h1
  have h1 := h.below hb1
  have c0' : ((w.alloc (.cells #[pD D] 41)).alloc (.cells #[.int .i64 n] 3)).cell? ⟨D, 0, none⟩ = some (.map (some M)) := h1.cell 0
  have x0 : ((w.alloc (.cells #[pD D] 41)).alloc (.cells #[.int .i64 n] 3)).cell? ⟨w.heap.size, 0, none⟩ = some (pD D) := cell_of_row _ _ 0 _ _ _ hr1.1
  have hz : (zeroValue 89).run Try.prog ((w.alloc (.cells #[pD D] 41)).alloc (.cells #[.int .i64 n] 3)) = .ok (.pointer none) ((w.alloc (.cells #[pD D] 41)).alloc (.cells #[.int .i64 n] 3)) := by kernel_rfl
  have HNO := Lib.hid (aget_none hn)
  have H := Lib.hid h1
  have HB1 := Lib.hid hb1
  have tok1 : Hid True := Lib.hid trivial
  clear h hn h1 hb1 hr1
  go_enter Try.func65, Try.ntmps65
  go_wp2_with (first | (at_lookup; have _t := tok1; refine wpList_lookupL rfl kS (.tmp 13) (.tmp 14) 83 89 false rfl Try.underlying83 M (mapL F) rfl H.out.map nm rfl (.pointer none) hz ?_; rw [HNO.out]; simp only [Option.getD_none, Bool.false_eq_true, if_false]; clear tok1 _t))
  go_ret
  exact ⟨rfl, HB1.out.alloc HB1.out.size _⟩

set_option maxHeartbeats 2000000 in
set_option maxRecDepth 100000 in
theorem dkTruncate_neg {P Q : List Ent} {nm : ByteArray} {g : Nat} {A0 : Option Addr} {c0 : Nat} {f : Fl} (h : DkAt w B D M d (P ++ ⟨nm, g, .slice A0 f.bs.length c0, f⟩ :: Q)) (hfi : ∀ x ∈ P, x.nm ≠ nm) (n : Int) (hn : n < 0) :
    Calls Try.prog 65 #[pD D, .string nm, .int .i64 n] w fun e w' => e = .returned (.int .i64 3) ∧ Below w.heap.size w w' := by
  have d1 : decide (n < 0) = true := by simpa using hn
  clear hn
  have hb1 : Below w.heap.size w ((w.alloc (.cells #[pD D] 41)).alloc (.cells #[.int .i64 n] 3)) := ((Below.refl _ _).alloc (Nat.le_refl _) _).alloc (by simp) _
  have hr1 : ((w.alloc (.cells #[pD D] 41)).alloc (.cells #[.int .i64 n] 3)).heap[w.heap.size]? = some (.cells #[pD D] 41) ∧ ((w.alloc (.cells #[pD D] 41)).alloc (.cells #[.int .i64 n] 3)).heap[w.heap.size + 1]? = some (.cells #[.int .i64 n] 3) ∧ ((w.alloc (.cells #[pD D] 41)).alloc (.cells #[.int .i64 n] 3)).heap.size = w.heap.size + 2 := by
    have h1 := heap_alloc_new w (.cells #[pD D] 41)
    have h2 := heap_alloc_new (w.alloc (.cells #[pD D] 41)) (.cells #[.int .i64 n] 3)
    refine ⟨?_, by simpa using h2, by simp⟩
    rw [((Below.refl (w.alloc (.cells #[pD D] 41)).heap.size (w.alloc (.cells #[pD D] 41))).alloc (Nat.le_refl _) _).block _ (by simp)]
    exact h1
  have h1 := h.below hb1
  have c0' : ((w.alloc (.cells #[pD D] 41)).alloc (.cells #[.int .i64 n] 3)).cell? ⟨D, 0, none⟩ = some (.map (some M)) := h1.cell 0
  have x0 : ((w.alloc (.cells #[pD D] 41)).alloc (.cells #[.int .i64 n] 3)).cell? ⟨w.heap.size, 0, none⟩ = some (pD D) := cell_of_row _ _ 0 _ _ _ hr1.1
  have hz : (zeroValue 89).run Try.prog ((w.alloc (.cells #[pD D] 41)).alloc (.cells #[.int .i64 n] 3)) = .ok (.pointer none) ((w.alloc (.cells #[pD D] 41)).alloc (.cells #[.int .i64 n] 3)) := by kernel_rfl
  have HYES : Hid (aget (mapL (P ++ ⟨nm, g, .slice A0 f.bs.length c0, f⟩ :: Q)) nm = some (pf g)) := Lib.hid (aget_at (e := ⟨nm, g, .slice A0 f.bs.length c0, f⟩) hfi)
  have H := Lib.hid h1
  have hb2 : Below ((w.alloc (.cells #[pD D] 41)).alloc (.cells #[.int .i64 n] 3)).heap.size ((w.alloc (.cells #[pD D] 41)).alloc (.cells #[.int .i64 n] 3)) (((w.alloc (.cells #[pD D] 41)).alloc (.cells #[.int .i64 n] 3)).alloc (.cells #[pf g] 89)) := (Below.refl _ _).alloc (Nat.le_refl _) _
  have H2 := Lib.hid (h1.below hb2)
  have HB2 : Hid (Below w.heap.size w (((w.alloc (.cells #[pD D] 41)).alloc (.cells #[.int .i64 n] 3)).alloc (.cells #[pf g] 89))) := Lib.hid (hb1.trans (hb2.mono hb1.size))
  have HR2 : Hid ((((w.alloc (.cells #[pD D] 41)).alloc (.cells #[.int .i64 n] 3)).alloc (.cells #[pf g] 89)).heap[w.heap.size]? = some (.cells #[pD D] 41) ∧ (((w.alloc (.cells #[pD D] 41)).alloc (.cells #[.int .i64 n] 3)).alloc (.cells #[pf g] 89)).heap[w.heap.size + 1]? = some (.cells #[.int .i64 n] 3) ∧ (((w.alloc (.cells #[pD D] 41)).alloc (.cells #[.int .i64 n] 3)).alloc (.cells #[pf g] 89)).heap[w.heap.size + 2]? = some (.cells #[pf g] 89)) := Lib.hid (by
    have h3 := heap_alloc_new ((w.alloc (.cells #[pD D] 41)).alloc (.cells #[.int .i64 n] 3)) (.cells #[pf g] 89)
    rw [hr1.2.2] at h3
    exact ⟨(hb2.block _ (by rw [hr1.2.2]; omega)).trans hr1.1, (hb2.block _ (by rw [hr1.2.2]; omega)).trans hr1.2.1, h3⟩)
  have HDL : Hid (D < w.heap.size ∧ g < w.heap.size) := Lib.hid ⟨h.lt, (h.files ⟨nm, g, .slice A0 f.bs.length c0, f⟩ (by simp)).lt⟩
  have tok1 : Hid True := Lib.hid trivial
  clear h hfi h1 hb1 hr1 hb2
  go_enter Try.func65, Try.ntmps65
  go_wp2_with (first | (at_lookup; have _t := tok1; refine wpList_lookupL rfl kS (.tmp 13) (.tmp 14) 83 89 false rfl Try.underlying83 M (mapL (P ++ ⟨nm, g, .slice A0 f.bs.length c0, f⟩ :: Q)) rfl H.out.map nm rfl (.pointer none) hz ?_; rw [HYES.out]; simp only [Option.getD_some, Bool.false_eq_true, if_false]; clear tok1 _t))
  generalize (((w.alloc (.cells #[pD D] 41)).alloc (.cells #[.int .i64 n] 3)).alloc (.cells #[pf g] 89)) = w2 at *
  have x0 : w2.cell? ⟨w.heap.size, 0, none⟩ = some (pD D) := cell_of_row _ _ 0 _ _ _ HR2.out.1
  have x1 : w2.cell? ⟨w.heap.size + 1, 0, none⟩ = some (.int .i64 n) := cell_of_row _ _ 0 _ _ _ HR2.out.2.1
  have x2 : w2.cell? ⟨w.heap.size + 2, 0, none⟩ = some (pf g) := cell_of_row _ _ 0 _ _ _ HR2.out.2.2
  have y0 : w2.cell? ⟨g, 0, none⟩ = some (.slice A0 f.bs.length c0) := (H2.out.files ⟨nm, g, .slice A0 f.bs.length c0, f⟩ (by simp)).cell 0
  go_wp2_with (fail)
  go_quiet (fail)
  go_wp2_with (fail)
  go_ret
  exact ⟨rfl, HB2.out.trans (drawN_below ((Below.refl _ _).mono HB2.out.size) _)⟩

set_option maxHeartbeats 2000000 in
set_option maxRecDepth 100000 in
theorem dkTruncate_far {P Q : List Ent} {nm : ByteArray} {g : Nat} {A0 : Option Addr} {c0 : Nat} {f : Fl} (h : DkAt w B D M d (P ++ ⟨nm, g, .slice A0 f.bs.length c0, f⟩ :: Q)) (hfi : ∀ x ∈ P, x.nm ≠ nm) (n : Int) (hn : (f.bs.length : Int) < n) :
    Calls Try.prog 65 #[pD D, .string nm, .int .i64 n] w fun e w' => e = .returned (.int .i64 3) ∧ Below w.heap.size w w' := by
  have d1 : decide (n < 0) = false := by simp; omega
  have d2 : decide ((f.bs.length : Int) < n) = true := by simpa using hn
  clear hn
  have hb1 : Below w.heap.size w ((w.alloc (.cells #[pD D] 41)).alloc (.cells #[.int .i64 n] 3)) := ((Below.refl _ _).alloc (Nat.le_refl _) _).alloc (by simp) _
  have hr1 : ((w.alloc (.cells #[pD D] 41)).alloc (.cells #[.int .i64 n] 3)).heap[w.heap.size]? = some (.cells #[pD D] 41) ∧ ((w.alloc (.cells #[pD D] 41)).alloc (.cells #[.int .i64 n] 3)).heap[w.heap.size + 1]? = some (.cells #[.int .i64 n] 3) ∧ ((w.alloc (.cells #[pD D] 41)).alloc (.cells #[.int .i64 n] 3)).heap.size = w.heap.size + 2 := by
    have h1 := heap_alloc_new w (.cells #[pD D] 41)
    have h2 := heap_alloc_new (w.alloc (.cells #[pD D] 41)) (.cells #[.int .i64 n] 3)
    refine ⟨?_, by simpa using h2, by simp⟩
    rw [((Below.refl (w.alloc (.cells #[pD D] 41)).heap.size (w.alloc (.cells #[pD D] 41))).alloc (Nat.le_refl _) _).block _ (by simp)]
    exact h1
  have h1 := h.below hb1
  have c0' : ((w.alloc (.cells #[pD D] 41)).alloc (.cells #[.int .i64 n] 3)).cell? ⟨D, 0, none⟩ = some (.map (some M)) := h1.cell 0
  have x0 : ((w.alloc (.cells #[pD D] 41)).alloc (.cells #[.int .i64 n] 3)).cell? ⟨w.heap.size, 0, none⟩ = some (pD D) := cell_of_row _ _ 0 _ _ _ hr1.1
  have hz : (zeroValue 89).run Try.prog ((w.alloc (.cells #[pD D] 41)).alloc (.cells #[.int .i64 n] 3)) = .ok (.pointer none) ((w.alloc (.cells #[pD D] 41)).alloc (.cells #[.int .i64 n] 3)) := by kernel_rfl
  have HYES : Hid (aget (mapL (P ++ ⟨nm, g, .slice A0 f.bs.length c0, f⟩ :: Q)) nm = some (pf g)) := Lib.hid (aget_at (e := ⟨nm, g, .slice A0 f.bs.length c0, f⟩) hfi)
  have H := Lib.hid h1
  have hb2 : Below ((w.alloc (.cells #[pD D] 41)).alloc (.cells #[.int .i64 n] 3)).heap.size ((w.alloc (.cells #[pD D] 41)).alloc (.cells #[.int .i64 n] 3)) (((w.alloc (.cells #[pD D] 41)).alloc (.cells #[.int .i64 n] 3)).alloc (.cells #[pf g] 89)) := (Below.refl _ _).alloc (Nat.le_refl _) _
  have H2 := Lib.hid (h1.below hb2)
  have HB2 : Hid (Below w.heap.size w (((w.alloc (.cells #[pD D] 41)).alloc (.cells #[.int .i64 n] 3)).alloc (.cells #[pf g] 89))) := Lib.hid (hb1.trans (hb2.mono hb1.size))
  have HR2 : Hid ((((w.alloc (.cells #[pD D] 41)).alloc (.cells #[.int .i64 n] 3)).alloc (.cells #[pf g] 89)).heap[w.heap.size]? = some (.cells #[pD D] 41) ∧ (((w.alloc (.cells #[pD D] 41)).alloc (.cells #[.int .i64 n] 3)).alloc (.cells #[pf g] 89)).heap[w.heap.size + 1]? = some (.cells #[.int .i64 n] 3) ∧ (((w.alloc (.cells #[pD D] 41)).alloc (.cells #[.int .i64 n] 3)).alloc (.cells #[pf g] 89)).heap[w.heap.size + 2]? = some (.cells #[pf g] 89)) := Lib.hid (by
    have h3 := heap_alloc_new ((w.alloc (.cells #[pD D] 41)).alloc (.cells #[.int .i64 n] 3)) (.cells #[pf g] 89)
    rw [hr1.2.2] at h3
    exact ⟨(hb2.block _ (by rw [hr1.2.2]; omega)).trans hr1.1, (hb2.block _ (by rw [hr1.2.2]; omega)).trans hr1.2.1, h3⟩)
  have HDL : Hid (D < w.heap.size ∧ g < w.heap.size) := Lib.hid ⟨h.lt, (h.files ⟨nm, g, .slice A0 f.bs.length c0, f⟩ (by simp)).lt⟩
  have tok1 : Hid True := Lib.hid trivial
  clear h hfi h1 hb1 hr1 hb2
  go_enter Try.func65, Try.ntmps65
  go_wp2_with (first | (at_lookup; have _t := tok1; refine wpList_lookupL rfl kS (.tmp 13) (.tmp 14) 83 89 false rfl Try.underlying83 M (mapL (P ++ ⟨nm, g, .slice A0 f.bs.length c0, f⟩ :: Q)) rfl H.out.map nm rfl (.pointer none) hz ?_; rw [HYES.out]; simp only [Option.getD_some, Bool.false_eq_true, if_false]; clear tok1 _t))
  generalize (((w.alloc (.cells #[pD D] 41)).alloc (.cells #[.int .i64 n] 3)).alloc (.cells #[pf g] 89)) = w2 at *
  have x0 : w2.cell? ⟨w.heap.size, 0, none⟩ = some (pD D) := cell_of_row _ _ 0 _ _ _ HR2.out.1
  have x1 : w2.cell? ⟨w.heap.size + 1, 0, none⟩ = some (.int .i64 n) := cell_of_row _ _ 0 _ _ _ HR2.out.2.1
  have x2 : w2.cell? ⟨w.heap.size + 2, 0, none⟩ = some (pf g) := cell_of_row _ _ 0 _ _ _ HR2.out.2.2
  have y0 : w2.cell? ⟨g, 0, none⟩ = some (.slice A0 f.bs.length c0) := (H2.out.files ⟨nm, g, .slice A0 f.bs.length c0, f⟩ (by simp)).cell 0
  go_wp2_with (fail)
  go_quiet (fail)
  go_wp2_with (fail)
  go_ret
  exact ⟨rfl, HB2.out.trans (drawN_below ((Below.refl _ _).mono HB2.out.size) _)⟩

def TrR (B D M : Nat) (d : Dk) (P Q : List Ent) (nm : ByteArray) (g : Nat) (A0 : Option Addr) (c0 : Nat) (f : Fl) (k : Nat) (w w' : World) : Prop := DkAt w' B D M { d.begin with used := d.used - ((f.bs.length : Int) - (k : Int)) } (P ++ ⟨nm, g, .slice A0 k c0, trFl k f⟩ :: Q) ∧ DkCh D M (P ++ ⟨nm, g, .slice A0 f.bs.length c0, f⟩ :: Q) (P ++ ⟨nm, g, .slice A0 k c0, trFl k f⟩ :: Q) w w'

set_option maxHeartbeats 2000000 in
set_option maxRecDepth 100000 in
theorem dkTruncate {P Q : List Ent} {nm : ByteArray} {g : Nat} {A0 : Option Addr} {c0 : Nat} {f : Fl} (h : DkAt w B D M d (P ++ ⟨nm, g, .slice A0 f.bs.length c0, f⟩ :: Q)) (hfi : ∀ x ∈ P, x.nm ≠ nm) (k : Nat) (hk : k ≤ f.bs.length) (ok : d.Ok) (hu : (f.bs.length : Int) ≤ d.used) :
    Calls Try.prog 65 #[pD D, .string nm, .int .i64 (k : Int)] w (ChOut (.int .i64 0) d (TrR B D M d P Q nm g A0 c0 f k w) (NoR B D M d (P ++ ⟨nm, g, .slice A0 f.bs.length c0, f⟩ :: Q) w)) := by
  have d1 : decide ((k : Int) < 0) = false := by rw [decide_eq_false_iff_not]; omega
  have d2 : decide (f.bs.length < k) = false := by rw [decide_eq_false_iff_not]; omega
  have HK := Lib.hid hk
  have OK := Lib.hid ok
  have HU := Lib.hid hu
  clear hk ok hu
  have hb1 : Below w.heap.size w ((w.alloc (.cells #[pD D] 41)).alloc (.cells #[.int .i64 (k : Int)] 3)) := ((Below.refl _ _).alloc (Nat.le_refl _) _).alloc (by simp) _
  have hr1 : ((w.alloc (.cells #[pD D] 41)).alloc (.cells #[.int .i64 (k : Int)] 3)).heap[w.heap.size]? = some (.cells #[pD D] 41) ∧ ((w.alloc (.cells #[pD D] 41)).alloc (.cells #[.int .i64 (k : Int)] 3)).heap[w.heap.size + 1]? = some (.cells #[.int .i64 (k : Int)] 3) ∧ ((w.alloc (.cells #[pD D] 41)).alloc (.cells #[.int .i64 (k : Int)] 3)).heap.size = w.heap.size + 2 := by
    have h1 := heap_alloc_new w (.cells #[pD D] 41)
    have h2 := heap_alloc_new (w.alloc (.cells #[pD D] 41)) (.cells #[.int .i64 (k : Int)] 3)
    refine ⟨?_, by simpa using h2, by simp⟩
    rw [((Below.refl (w.alloc (.cells #[pD D] 41)).heap.size (w.alloc (.cells #[pD D] 41))).alloc (Nat.le_refl _) _).block _ (by simp)]
    exact h1
  have h1 := h.below hb1
  have c0' : ((w.alloc (.cells #[pD D] 41)).alloc (.cells #[.int .i64 (k : Int)] 3)).cell? ⟨D, 0, none⟩ = some (.map (some M)) := h1.cell 0
  have x0 : ((w.alloc (.cells #[pD D] 41)).alloc (.cells #[.int .i64 (k : Int)] 3)).cell? ⟨w.heap.size, 0, none⟩ = some (pD D) := cell_of_row _ _ 0 _ _ _ hr1.1
  have hz : (zeroValue 89).run Try.prog ((w.alloc (.cells #[pD D] 41)).alloc (.cells #[.int .i64 (k : Int)] 3)) = .ok (.pointer none) ((w.alloc (.cells #[pD D] 41)).alloc (.cells #[.int .i64 (k : Int)] 3)) := by kernel_rfl
  have HYES : Hid (aget (mapL (P ++ ⟨nm, g, .slice A0 f.bs.length c0, f⟩ :: Q)) nm = some (pf g)) := Lib.hid (aget_at (e := ⟨nm, g, .slice A0 f.bs.length c0, f⟩) hfi)
  have H := Lib.hid h1
  have hb2 : Below ((w.alloc (.cells #[pD D] 41)).alloc (.cells #[.int .i64 (k : Int)] 3)).heap.size ((w.alloc (.cells #[pD D] 41)).alloc (.cells #[.int .i64 (k : Int)] 3)) (((w.alloc (.cells #[pD D] 41)).alloc (.cells #[.int .i64 (k : Int)] 3)).alloc (.cells #[pf g] 89)) := (Below.refl _ _).alloc (Nat.le_refl _) _
  have H2 := Lib.hid (h1.below hb2)
  have HB2 : Hid (Below w.heap.size w (((w.alloc (.cells #[pD D] 41)).alloc (.cells #[.int .i64 (k : Int)] 3)).alloc (.cells #[pf g] 89))) := Lib.hid (hb1.trans (hb2.mono hb1.size))
  have HR2 : Hid ((((w.alloc (.cells #[pD D] 41)).alloc (.cells #[.int .i64 (k : Int)] 3)).alloc (.cells #[pf g] 89)).heap[w.heap.size]? = some (.cells #[pD D] 41) ∧ (((w.alloc (.cells #[pD D] 41)).alloc (.cells #[.int .i64 (k : Int)] 3)).alloc (.cells #[pf g] 89)).heap[w.heap.size + 1]? = some (.cells #[.int .i64 (k : Int)] 3) ∧ (((w.alloc (.cells #[pD D] 41)).alloc (.cells #[.int .i64 (k : Int)] 3)).alloc (.cells #[pf g] 89)).heap[w.heap.size + 2]? = some (.cells #[pf g] 89)) := Lib.hid (by
    have h3 := heap_alloc_new ((w.alloc (.cells #[pD D] 41)).alloc (.cells #[.int .i64 (k : Int)] 3)) (.cells #[pf g] 89)
    rw [hr1.2.2] at h3
    exact ⟨(hb2.block _ (by rw [hr1.2.2]; omega)).trans hr1.1, (hb2.block _ (by rw [hr1.2.2]; omega)).trans hr1.2.1, h3⟩)
  have HDL : Hid (D < w.heap.size ∧ g < w.heap.size) := Lib.hid ⟨h.lt, (h.files ⟨nm, g, .slice A0 f.bs.length c0, f⟩ (by simp)).lt⟩
  have tok1 : Hid True := Lib.hid trivial
  clear h hfi h1 hb1 hr1 hb2
  go_enter Try.func65, Try.ntmps65
  go_wp2_with (first | (at_lookup; have _t := tok1; refine wpList_lookupL rfl kS (.tmp 13) (.tmp 14) 83 89 false rfl Try.underlying83 M (mapL (P ++ ⟨nm, g, .slice A0 f.bs.length c0, f⟩ :: Q)) rfl H.out.map nm rfl (.pointer none) hz ?_; rw [HYES.out]; simp only [Option.getD_some, Bool.false_eq_true, if_false]; clear tok1 _t))
  generalize (((w.alloc (.cells #[pD D] 41)).alloc (.cells #[.int .i64 (k : Int)] 3)).alloc (.cells #[pf g] 89)) = w2 at *
  have x0 : w2.cell? ⟨w.heap.size, 0, none⟩ = some (pD D) := cell_of_row _ _ 0 _ _ _ HR2.out.1
  have x1 : w2.cell? ⟨w.heap.size + 1, 0, none⟩ = some (.int .i64 (k : Int)) := cell_of_row _ _ 0 _ _ _ HR2.out.2.1
  have x2 : w2.cell? ⟨w.heap.size + 2, 0, none⟩ = some (pf g) := cell_of_row _ _ 0 _ _ _ HR2.out.2.2
  have y0 : w2.cell? ⟨g, 0, none⟩ = some (.slice A0 f.bs.length c0) := (H2.out.files ⟨nm, g, .slice A0 f.bs.length c0, f⟩ (by simp)).cell 0
  go_wp2_with (fail)
  go_quiet (fail)
  have hdr : Below w2.heap.size w2 (w2.drewN nq) := drawN_below (Below.refl _ w2) nq
  have H3 := Lib.hid (H2.out.below hdr)
  have HCH3 : Hid (DkCh D M (P ++ ⟨nm, g, .slice A0 f.bs.length c0, f⟩ :: Q) (P ++ ⟨nm, g, .slice A0 f.bs.length c0, f⟩ :: Q) w (w2.drewN nq)) := Lib.hid ((DkCh.of_below HB2.out).trans (DkCh.of_below hdr))
  have HR3 : Hid ((w2.drewN nq).heap[w.heap.size]? = some (.cells #[pD D] 41) ∧ (w2.drewN nq).heap[w.heap.size + 1]? = some (.cells #[.int .i64 (k : Int)] 3) ∧ (w2.drewN nq).heap[w.heap.size + 2]? = some (.cells #[pf g] 89)) := HR2
  have z0 : (w2.drewN nq).cell? ⟨w.heap.size, 0, none⟩ = some (pD D) := cell_of_row _ _ 0 _ _ _ HR3.out.1
  clear x0 x1 x2 y0 hdr c0'
  generalize w2.drewN nq = w3 at *
  go_wp2_with (fail)
  refine (dkChange H3.out OK.out _ _ okTruncate1 (TrR B D M d P Q nm g A0 c0 f k w) (fun w4 h4 hc4 => ?_) (fun w5 h5 => h5.1.cell 3)).mono ?_
  · have hdl := HDL.out
    have hx : w4.cell? ⟨w.heap.size, 0, none⟩ = some (pD D) := cell_of_row _ _ 0 _ _ _ (hc4.row HR3.out.1 (by simp only [At1]; omega))
    have hy : w4.cell? ⟨w.heap.size + 2, 0, none⟩ = some (pf g) := cell_of_row _ _ 0 _ _ _ (hc4.row HR3.out.2.2 (by simp only [At1]; omega))
    have hz : w4.cell? ⟨w.heap.size + 1, 0, none⟩ = some (.int .i64 (k : Int)) := cell_of_row _ _ 0 _ _ _ (hc4.row HR3.out.2.1 (by simp only [At1]; omega))
    refine (dkTruncate1 h4 k HK.out ⟨HU.out, OK.out.used.2⟩ _ _ _ ⟨by omega, by omega⟩ ⟨by omega, by omega⟩ ⟨by omega, by omega⟩ hx hy hz).mono ?_
    rintro e w5 ⟨rfl, h5, hc5⟩
    exact ⟨rfl, h5, HCH3.out.trans ((DkCh.of1 hc4).trans hc5)⟩
  · rintro e w6 h6
    rcases h6 with ⟨ha, rfl, hr⟩ | ⟨ha, rfl, hr⟩
    · have HR := Lib.hid (And.intro ha hr)
      clear ha hr
      go_wp2_with (fail)
      go_ret
      exact .inl ⟨HR.out.1, rfl, HR.out.2⟩
    · have HR : Hid (d.armedIn = 1 ∧ ((dOdd d = true ∧ TrR B D M d P Q nm g A0 c0 f k w w6) ∨ (dOdd d = false ∧ NoR B D M d (P ++ ⟨nm, g, .slice A0 f.bs.length c0, f⟩ :: Q) w w6))) := Lib.hid ⟨ha, hr.imp id (fun h => ⟨h.1, h.2.1, HCH3.out.trans (DkCh.of1 h.2.2)⟩)⟩
      clear ha hr
      go_wp2_with (fail)
      exact ⟨rfl, .inr ⟨HR.out.1, rfl, HR.out.2⟩⟩
end
end Go.Proofs.Ythblbmbefhlbjaa
/- Layer 2: Synced and Rename, walked. -/
namespace Go.Proofs.Ythblbmbefhlbjaa
open Go.RowKit Go.MapKept

theorem wpList_wantK {P : Program} {w : World} {ops : Array Oper} {rest : List Oper} {o : Oper} {a : Act} {Q : Exit → Act → World → Prop} (hw : Region.wanted o (yielded ops a.tmps) = true) (h : ∀ K : Act → World → Prop, (∀ a' w', wpList P ops Q rest a' w' → K a' w') → Oper.wp P o a w K Q) : wpList P ops Q (o :: rest) a w :=
  wpList_step fun K hK => by rw [if_pos hw]; exact h K hK
section
variable {P : Program} {k : TypeId} {κ : Type} [DecidableEq κ] {kv : κ → Value} {w : World} {ops : Array Oper} {rest : List Oper} {o : Oper} {a : Act} {Q : Exit → Act → World → Prop}
theorem wpList_lookupG (hw : Region.wanted o (yielded ops a.tmps) = true) (K : KeyK P k κ kv) (m x : Operand) (T e : TypeId) (ok : Bool) (hop : o.op = Op.lookup T m x ok) (ht : P.underlying T = some (.map k e)) (M : Nat) (L : List (κ × Value)) (hm : a.eval m = .map (some M)) (h : MapIs kv w M L) (key : κ) (hx : a.eval x = kv key) (z : Value) (hz : (zeroValue e).run P w = .ok z w)
    (hK : wpList P ops Q rest (a.put o.dst (if ok then .tuple #[(aget L key).getD z, .bool (aget L key).isSome] else (aget L key).getD z)) w) : wpList P ops Q (o :: rest) a w := by
  refine wpList_wantK hw fun K' hK' => ?_
  have hrun := run_lookupL K T e ht w M L h key z hz ok
  unfold Oper.wp
  simp only [execOp, hop, hm, hx, Sem.run_bind, hrun, Result.andThen_ok, Sem.run_pure]
  exact hK' _ _ hK
end
section
variable {w w' : World} {B D M : Nat} {d : Dk} {F : List Ent}
def syncedOf (fs : Fs) (n : ByteArray) : Int := match fget fs n with | some f => (f.safe : Int) | none => 0
set_option maxHeartbeats 1000000 in
set_option maxRecDepth 100000 in
theorem dkSynced (h : DkAt w B D M d F) (nm : ByteArray) : Calls Try.prog 32 #[pD D, .string nm] w fun e w' => e = .returned (.int .i64 (syncedOf (fsOf F) nm)) ∧ w = w' := by
  have c0' : w.cell? ⟨D, 0, none⟩ = some (.map (some M)) := h.cell 0
  have hz : (zeroValue 89).run Try.prog w = .ok (.pointer none) w := by kernel_rfl
  have tok1 : Hid True := Lib.hid trivial
  have tok2 : Hid True := Lib.hid trivial
  rcases aget_split F nm with ⟨hno, hne⟩ | ⟨P, e, Q, rfl, rfl, hyes, hfirst⟩
  · have HNO := Lib.hid hno
    have H := Lib.hid h
    have HS : Hid (syncedOf (fsOf F) nm = 0) := Lib.hid (by unfold syncedOf; rw [fget_none hne])
    clear h hno hne
    go_enter Try.func32, Try.ntmps32
    go_wp2_with (first
      | (at_lookup; have _t := tok1; refine wpList_lookupG (by rfl) kS (.tmp 11) (.tmp 12) 83 89 false rfl Try.underlying83 M (mapL F) rfl H.out.map nm rfl (.pointer none) hz ?_; rw [HNO.out]; simp only [Option.getD_none, Bool.false_eq_true, if_false]; clear tok1 _t))
    go_ret
    exact ⟨by rw [HS.out]; rfl, rfl⟩
  · obtain ⟨nm, g, v, f⟩ := e
    simp only at *
    have HYES := Lib.hid hyes
    have H := Lib.hid h
    have HFA := Lib.hid (h.files ⟨nm, g, v, f⟩ (by simp))
    have y1 : w.cell? ⟨g, 1, none⟩ = some (.int .i64 f.safe) := HFA.out.cell 1
    have HS : Hid (syncedOf (fsOf (P ++ ⟨nm, g, v, f⟩ :: Q)) nm = (f.safe : Int)) := Lib.hid (by unfold syncedOf; rw [fget_at (e := ⟨nm, g, v, f⟩) hfirst])
    clear h hyes hfirst
    go_enter Try.func32, Try.ntmps32
    go_wp2_with (first
      | (at_lookup; have _t := tok1; refine wpList_lookupG (by rfl) kS (.tmp 11) (.tmp 12) 83 89 false rfl Try.underlying83 M (mapL (P ++ ⟨nm, g, v, f⟩ :: Q)) rfl H.out.map nm rfl (.pointer none) hz ?_; rw [HYES.out]; simp only [Option.getD_some, Bool.false_eq_true, if_false]; clear tok1 _t)
      | (at_lookup; have _t := tok2; refine wpList_lookupL rfl kS (.tmp 19) (.tmp 20) 83 89 false rfl Try.underlying83 M (mapL (P ++ ⟨nm, g, v, f⟩ :: Q)) rfl H.out.map nm rfl (.pointer none) hz ?_; rw [HYES.out]; simp only [Option.getD_some, Bool.false_eq_true, if_false]; clear tok2 _t))
    go_ret
    exact ⟨by rw [HS.out]; rfl, rfl⟩
end
end Go.Proofs.Ythblbmbefhlbjaa
/- Layer 2: Rename, walked. -/
namespace Go.Proofs.Ythblbmbefhlbjaa
open Go.RowKit Go.MapKept

section
variable {w w' : World} {B D M : Nat} {d d1 : Dk} {F : List Ent}
end
end Go.Proofs.Ythblbmbefhlbjaa
/- Layer 2: Rename, walked to its end. -/
namespace Go.Proofs.Ythblbmbefhlbjaa
open Go.RowKit Go.MapKept

section
variable {w w' : World} {B D M : Nat} {d d1 : Dk}
end
end Go.Proofs.Ythblbmbefhlbjaa
/- Layer 2: what each change does, told of the files and numbers alone; the contracts in these words. -/
namespace Go.Proofs.Ythblbmbefhlbjaa
open Go.RowKit Go.MapKept

def ftotal (fs : Fs) : Nat := (fs.map fun e => e.2.bs.length).sum
theorem ftotal_of (F : List Ent) : ftotal (fsOf F) = total F := by
  unfold ftotal total fsOf
  rw [List.map_map]; rfl
theorem ftotal_app (a b : Fs) : ftotal (a ++ b) = ftotal a + ftotal b := by simp [ftotal]
theorem ftotal_cons (a : ByteArray × Fl) (b : Fs) : ftotal (a :: b) = a.2.bs.length + ftotal b := by simp [ftotal]
/-- numbers that fit the files -/
structure FsOk (d : Dk) (fs : Fs) : Prop where
  ok : d.Ok
  tot : d.used = (ftotal fs : Int)
  safe : ∀ e ∈ fs, e.2.safe ≤ e.2.bs.length
  names : (fs.map (·.1)).Nodup
theorem FsOk.dk {d : Dk} {F : List Ent} (h : FsOk d (fsOf F)) : DkOk d F :=
  ⟨h.ok, by rw [h.tot, ftotal_of], fun e he => h.safe (e.nm, e.f) (List.mem_map.2 ⟨e, he, rfl⟩)⟩
theorem FsOk.len {d : Dk} {fs : Fs} (h : FsOk d fs) {n : ByteArray} {f : Fl} (hf : fget fs n = some f) : (f.bs.length : Int) ≤ d.used := by
  rw [h.tot]
  have : f.bs.length ≤ ftotal fs := by
    clear h
    induction fs with
    | nil => cases hf
    | cons a r ih =>
      rw [ftotal_cons]
      unfold fget at hf
      split at hf
      · injection hf with hf; subst hf; omega
      · have := ih hf; omega
  omega
theorem fget_mid {F : List Ent} {n : ByteArray} {f : Fl} (h : fget (fsOf F) n = some f) : ∃ P g v Q, F = P ++ ⟨n, g, v, f⟩ :: Q ∧ ∀ x ∈ P, x.nm ≠ n := by
  rcases aget_split F n with ⟨_, h2⟩ | ⟨P, e, Q, rfl, rfl, _, h3⟩
  · rw [fget_none h2] at h; cases h
  · rw [fget_at h3] at h
    injection h with h
    subst h
    exact ⟨P, e.g, e.v, Q, rfl, h3⟩
theorem fget_no {F : List Ent} {n : ByteArray} (h : fget (fsOf F) n = none) : ∀ e ∈ F, e.nm ≠ n := by
  rcases aget_split F n with ⟨_, h2⟩ | ⟨P, e, Q, rfl, rfl, _, h3⟩
  · exact h2
  · rw [fget_at h3] at h; cases h
abbrev Out := (Int ⊕ Int) × Dk × Fs
/-- a change that is done as a whole, or not at all -/
def opChange (d : Dk) (fs : Fs) (x : Int) (d1 d2 : Dk) (done : Fs) : Out :=
  if d.armedIn = 1 then (.inr (d.ops + 1), if dOdd d then (d1, done) else (d2, fs)) else (.inl x, d1, done)
def opTrunc (d : Dk) (fs : Fs) (nm : ByteArray) (n : Int) : Out :=
  match fget fs nm with
  | none => (.inl 6, d, fs)
  | some f => if n < 0 ∨ (f.bs.length : Int) < n then (.inl 3, d, fs) else opChange d fs 0 { d.begin with used := d.used - ((f.bs.length : Int) - (n.toNat : Int)) } d.begin (fput fs nm (trFl n.toNat f))
def opSync (d : Dk) (fs : Fs) (nm : ByteArray) : Out :=
  match fget fs nm with
  | none => (.inl 6, d, fs)
  | some f => opChange d fs (syncErr (d.failIn == 1)) d.syncs.begin d.syncs.begin (fput fs nm (syncFl (d.failIn == 1) f))
def opRemove (d : Dk) (fs : Fs) (nm : ByteArray) : Out :=
  match fget fs nm with
  | none => (.inl 6, d, fs)
  | some f => opChange d fs 0 { d.begin with used := d.used - (f.bs.length : Int) } d.begin (fdel fs nm)
/-- how many bytes a file has -/
def flen (fs : Fs) (nm : ByteArray) : Nat := match fget fs nm with | some f => f.bs.length | none => 0
def opRename (d : Dk) (fs : Fs) (nm to : ByteArray) : Out :=
  match fget fs nm with
  | none => (.inl 6, d, fs)
  | some f => if nameD to = false then (.inl 16, d, fs) else if nm = to then opChange d fs 0 d.begin d.begin fs
    else opChange d fs 0 { d.begin with used := d.used - (flen fs to : Int) } d.begin (fdel (fdel fs to) nm ++ [(to, f)])
def opSetRoom (d : Dk) (fs : Fs) (n : Int) : Out := if 0 ≤ n ∧ n ≤ 1073741824 then (.inl 0, { d with room := n }, fs) else (.inl 3, d, fs)
def opFail (d : Dk) (fs : Fs) (n : Int) : Out := if n < 1 then (.inl 3, d, fs) else (.inl 0, { d with failIn := n }, fs)
def opArm (d : Dk) (fs : Fs) (n k : Int) : Out := if n < 1 then (.inl 3, d, fs) else (.inl 0, { d with armedIn := n, armKeep := k }, fs)
def powFs (keep : Int) (fs : Fs) : Fs := fs.map fun e => (e.1, powFl keep e.2)
def opPower (d : Dk) (fs : Fs) (keep : Int) : Out := (.inl 0, { d with used := (ftotal (powFs keep fs) : Int), failIn := 0, armedIn := 0 }, powFs keep fs)
/-- how a method ends -/
def endM : Int ⊕ Int → Ending
  | .inl x => .returned (.int .i64 x)
  | .inr op => .panicked [{ v := crashI op, recovered := false }]
def MEnds (B D M : Nat) (F : List Ent) (w : World) (r : Out) (e : Ending) (w' : World) : Prop :=
  ∃ F', e = endM r.1 ∧ DkAt w' B D M r.2.1 F' ∧ DkCh D M F F' w w' ∧ fsOf F' = r.2.2
theorem fsOf_pow (keep : Int) (F : List Ent) : fsOf (F.map (powE keep)) = powFs keep (fsOf F) := by
  unfold fsOf powFs
  rw [List.map_map, List.map_map]; rfl
section
variable {w : World} {B D M : Nat} {d : Dk} {F : List Ent}
theorem MEnds.same {d : Dk} {w' : World} {x : Int} (h : DkAt w B D M d F) (hb : Below w.heap.size w w') : MEnds B D M F w (.inl x, d, fsOf F) (.returned (.int .i64 x)) w' := ⟨F, rfl, h.below hb, DkCh.of_below hb, rfl⟩
/-- out of a change's ends -/
theorem MEnds.change {d1 d2 : Dk} {F1 : List Ent} {e : Ending} {w' : World} {x : Int} {Rgo Rno : World → Prop} (h : ChOut (.int .i64 x) d Rgo Rno e w')
    (h1 : Rgo w' → DkAt w' B D M d1 F1 ∧ DkCh D M F F1 w w') (h2 : Rno w' → DkAt w' B D M d2 F ∧ DkCh D M F F w w') {fs : Fs} (hf : fsOf F1 = fs) : MEnds B D M F w (opChange d (fsOf F) x d1 d2 fs) e w' := by
  subst hf
  unfold opChange
  rcases h with ⟨ha, rfl, hr⟩ | ⟨ha, rfl, ⟨ho, hr⟩ | ⟨ho, hr⟩⟩
  · rw [if_neg ha]
    exact ⟨F1, rfl, (h1 hr).1, (h1 hr).2, rfl⟩
  · rw [if_pos ha, if_pos ho]
    exact ⟨F1, rfl, (h1 hr).1, (h1 hr).2, rfl⟩
  · rw [if_pos ha, if_neg (by rw [ho]; decide)]
    exact ⟨F, rfl, (h2 hr).1, (h2 hr).2, rfl⟩

theorem mSync (h : DkAt w B D M d F) (ok : FsOk d (fsOf F)) (nm : ByteArray) : Calls Try.prog 44 #[pD D, .string nm] w (MEnds B D M F w (opSync d (fsOf F) nm)) := by
  unfold opSync
  cases hg : fget (fsOf F) nm with
  | none => exact (dkSync_none h nm (fget_no hg)).mono fun e w' ⟨he, hb⟩ => by subst he; exact MEnds.same h hb
  | some f =>
    obtain ⟨P, g, v, Q, rfl, hfi⟩ := fget_mid hg
    have e1 : fsOf (P ++ ⟨nm, g, v, syncFl (d.failIn == 1) f⟩ :: Q) = fput (fsOf (P ++ ⟨nm, g, v, f⟩ :: Q)) nm (syncFl (d.failIn == 1) f) := (fput_at (e := ⟨nm, g, v, f⟩) _ hfi g v).symm
    by_cases ha : d.armedIn = 1
    · cases ho : dOdd d
      · refine (dkSync_even h ok.ok ha ho hfi).mono fun e w' ⟨he, h1, h2⟩ => ?_
        simp only [opChange, if_pos ha, ho]
        exact ⟨_, he, h1, h2, rfl⟩
      · refine (dkSync_odd h ok.ok ha ho hfi).mono fun e w' ⟨he, h1, h2⟩ => ?_
        simp only [opChange, if_pos ha, ho]
        exact ⟨_, he, h1, h2, e1⟩
    · refine (dkSync_go h ok.ok ha hfi).mono fun e w' ⟨he, h1, h2⟩ => ?_
      simp only [opChange, if_neg ha]
      exact ⟨_, he, h1, h2, e1⟩

theorem mTrunc (h : DkAt w B D M d F) (ok : FsOk d (fsOf F)) (nm : ByteArray) (n : Int) : Calls Try.prog 65 #[pD D, .string nm, .int .i64 n] w (MEnds B D M F w (opTrunc d (fsOf F) nm n)) := by
  unfold opTrunc
  cases hg : fget (fsOf F) nm with
  | none => exact (dkTruncate_none h nm n (fget_no hg)).mono fun e w' ⟨he, hb⟩ => by subst he; exact MEnds.same h hb
  | some f =>
    have hl := ok.len hg
    obtain ⟨P, g, v, Q, rfl, hfi⟩ := fget_mid hg
    obtain ⟨A0, c0, rfl⟩ := own_form (show w.ownsRow B 5 1 v f.bs.length (u8s f.bs) from (h.files ⟨nm, g, v, f⟩ (by simp)).own)
    simp only
    by_cases h1 : n < 0
    · rw [if_pos (.inl h1)]
      exact (dkTruncate_neg h hfi n h1).mono fun e w' ⟨he, hb⟩ => by subst he; exact MEnds.same h hb
    · by_cases h2 : (f.bs.length : Int) < n
      · rw [if_pos (.inr h2)]
        exact (dkTruncate_far h hfi n h2).mono fun e w' ⟨he, hb⟩ => by subst he; exact MEnds.same h hb
      · rw [if_neg (by omega)]
        have hk := dkTruncate h hfi n.toNat (by omega) ok.ok hl
        rw [show ((n.toNat : Nat) : Int) = n by omega] at hk
        refine hk.mono fun e w' hr => ?_
        rw [show ((n.toNat : Nat) : Int) = n by omega]
        exact MEnds.change hr (fun hh => by unfold TrR at hh; rw [show ((n.toNat : Nat) : Int) = n by omega] at hh; exact hh) id (fput_at (e := ⟨nm, g, _, f⟩) _ hfi g _).symm
theorem mSetRoom (h : DkAt w B D M d F) (n : Int) : Calls Try.prog 24 #[pD D, .int .i64 n] w (MEnds B D M F w (opSetRoom d (fsOf F) n)) := by
  unfold opSetRoom
  by_cases hn : 0 ≤ n ∧ n ≤ 1073741824
  · rw [if_pos hn]
    exact (dkSetRoom h n hn).mono fun e w' ⟨he, h1, h2⟩ => ⟨F, he, h1, DkCh.of1 h2, rfl⟩
  · rw [if_neg hn]
    exact (dkSetRoom_no D n hn w).mono fun e w' ⟨he, h1⟩ => by subst he h1; exact MEnds.same h (Below.refl _ _)
theorem mFail (h : DkAt w B D M d F) (n : Int) : Calls Try.prog 25 #[pD D, .int .i64 n] w (MEnds B D M F w (opFail d (fsOf F) n)) := by
  unfold opFail
  by_cases hn : n < 1
  · rw [if_pos hn]
    exact (dkFail_no D n hn w).mono fun e w' ⟨he, h1⟩ => by subst he h1; exact MEnds.same h (Below.refl _ _)
  · rw [if_neg hn]
    exact (dkFail h n (by omega)).mono fun e w' ⟨he, h1, h2⟩ => ⟨F, he, h1, DkCh.of1 h2, rfl⟩
theorem mArm (h : DkAt w B D M d F) (n k : Int) : Calls Try.prog 26 #[pD D, .int .i64 n, .int .i64 k] w (MEnds B D M F w (opArm d (fsOf F) n k)) := by
  unfold opArm
  by_cases hn : n < 1
  · rw [if_pos hn]
    exact (dkArm_no D n k hn w).mono fun e w' ⟨he, h1⟩ => by subst he h1; exact MEnds.same h (Below.refl _ _)
  · rw [if_neg hn]
    exact (dkArm h n k (by omega)).mono fun e w' ⟨he, h1, h2⟩ => ⟨F, he, h1, DkCh.of1 h2, rfl⟩
theorem mPower (h : DkAt w B D M d F) (ok : FsOk d (fsOf F)) (keep : Int) : Calls Try.prog 27 #[pD D, .int .i64 keep] w (MEnds B D M F w (opPower d (fsOf F) keep)) :=
  (dkPower h ok.dk keep).mono fun e w' ⟨he, h1, h2⟩ => ⟨_, he, by rw [← ftotal_of, fsOf_pow] at h1; exact h1, h2, fsOf_pow keep F⟩
end
end Go.Proofs.Ythblbmbefhlbjaa
/- Layer 2: the law's call: what it defers, and an append, walked. -/
namespace Go.Proofs.Ythblbmbefhlbjaa
open Go.RowKit Go.MapKept

/-- the four results' boxes -/
structure Boxes (w : World) (s : Nat) (n e : Int) (gone : Bool) (op : Int) : Prop where
  n_ : w.heap[s]? = some (.cells #[.int .i64 n] 3)
  e_ : w.heap[s + 1]? = some (.cells #[.int .i64 e] 34)
  g_ : w.heap[s + 1 + 1]? = some (.cells #[.bool gone] 4)
  o_ : w.heap[s + 1 + 1 + 1]? = some (.cells #[.int .i64 op] 3)
abbrev bx (s : Nat) : Array Value := #[.pointer (some ⟨s, 0, none⟩), .pointer (some ⟨s + 1, 0, none⟩), .pointer (some ⟨s + 1 + 1, 0, none⟩), .pointer (some ⟨s + 1 + 1 + 1, 0, none⟩)]
theorem Boxes.same {w w' : World} {s : Nat} {n e op : Int} {gone : Bool} (h : Boxes w s n e gone op) {S : Nat → Prop} (c : Ch S w w') (hS : ∀ k, s ≤ k → k < s + 4 → ¬ S k) : Boxes w' s n e gone op :=
  ⟨c.row h.n_ (hS _ (by omega) (by omega)), c.row h.e_ (hS _ (by omega) (by omega)), c.row h.g_ (hS _ (by omega) (by omega)), c.row h.o_ (hS _ (by omega) (by omega))⟩

theorem Boxes.cells {w : World} {s : Nat} {n e op : Int} {gone : Bool} (h : Boxes w s n e gone op) : (w.cell? ⟨s, 0, none⟩ = some (.int .i64 n) ∧ w.cell? ⟨s + 1, 0, none⟩ = some (.int .i64 e) ∧ w.cell? ⟨s + 1 + 1, 0, none⟩ = some (.bool gone) ∧ w.cell? ⟨s + 1 + 1 + 1, 0, none⟩ = some (.int .i64 op)) ∧ w.frozen? ⟨s, 0, none⟩ = false ∧ w.frozen? ⟨s + 1, 0, none⟩ = false ∧ w.frozen? ⟨s + 1 + 1, 0, none⟩ = false ∧ w.frozen? ⟨s + 1 + 1 + 1, 0, none⟩ = false :=
  ⟨⟨cell_of_row _ _ 0 _ _ _ h.n_, cell_of_row _ _ 0 _ _ _ h.e_, cell_of_row _ _ 0 _ _ _ h.g_, cell_of_row _ _ 0 _ _ _ h.o_⟩, by simp [World.frozen?, h.n_], by simp [World.frozen?, h.e_], by simp [World.frozen?, h.g_], by simp [World.frozen?, h.o_]⟩
abbrev BxS (s : Nat) : Nat → Prop := fun k => s ≤ k ∧ k < s + 4
end Go.Proofs.Ythblbmbefhlbjaa
/- Layer 2: the law's call of Append, walked. -/
namespace Go.Proofs.Ythblbmbefhlbjaa
open Go.RowKit Go.MapKept

section
variable {w : World} {B D M : Nat} {d : Dk} {F : List Ent}
theorem DkCh.boxes {F' : List Ent} {w1 w2 w3 : World} {s : Nat} (c : DkCh D M F F' w1 w2) (hs : ∀ k, DFoot D M F k → k < s) (hs2 : s + 4 ≤ w1.heap.size) {d' : Dk} (h2 : DkAt w2 B D M d' F') (c3 : Ch (BxS s) w2 w3) : DkAt w3 B D M d' F' :=
  h2.ch c3 (fun k hk hb => by
    have hb1 := hb.1
    have hb2 := hb.2
    rcases hk with hk | hk | hk
    · have := hs k (.inl hk); omega
    · have := hs k (.inr (.inl hk)); omega
    · rcases c.foot k hk with h5 | h5
      · have := hs k (.inr (.inr h5)); omega
      · omega)
/-- an append's error -/
def appE (d : Dk) (m : Nat) : Int := if appN d m < m then 4 else 0
end
end Go.Proofs.Ythblbmbefhlbjaa
/- Layer 2: the law's call of any change, walked. -/
namespace Go.Proofs.Ythblbmbefhlbjaa
open Go.RowKit Go.MapKept

abbrev OutN := (Int × (Int ⊕ Int)) × Dk × Fs
section
variable {w : World} {B D M : Nat} {d : Dk} {F : List Ent}
end
end Go.Proofs.Ythblbmbefhlbjaa
/- Layer 2: what the law's call does, whatever it is asked, in one contract; what stays right. -/
namespace Go.Proofs.Ythblbmbefhlbjaa
open Go.RowKit Go.MapKept

def appO (d : Dk) (fs : Fs) (a : ByteArray) (l : List UInt8) : OutN :=
  if nameD a = false then ((0, .inl 16), d, fs)
  else if d.armedIn = 1 then ((0, .inr (d.ops + 1)), { d.begin with used := d.used + (appK d l.length : Int) }, layF fs a (l.take (appK d l.length)))
  else (((appN d l.length : Int), .inl (appE d l.length)), { d.begin with used := d.used + (appN d l.length : Int) }, layF fs a (l.take (appN d l.length)))
def liftO (r : Out) : OutN := ((0, r.1), r.2.1, r.2.2)
def callD (d : Dk) (fs : Fs) (kd n k : Int) (a b : ByteArray) (l : List UInt8) : OutN :=
  if kd = 0 then appO d fs a l
  else if kd = 1 then liftO (opTrunc d fs a n)
  else if kd = 2 then liftO (opSync d fs a)
  else if kd = 3 then liftO (opRename d fs a b)
  else if kd = 4 then liftO (opRemove d fs a)
  else if kd = 5 then liftO (opSetRoom d fs n)
  else if kd = 6 then liftO (opFail d fs n)
  else if kd = 7 then liftO (opArm d fs n k)
  else if kd = 8 then liftO (opPower d fs k)
  else ((0, .inl 0), d, fs)
section
variable {w : World} {B D M : Nat} {d : Dk} {F : List Ent}
end

/-! what stays right -/
theorem fget_mem : ∀ {fs : Fs} {n : ByteArray} {f : Fl}, fget fs n = some f → (n, f) ∈ fs
  | (a, v) :: r, n, f, h => by
    unfold fget at h
    split at h
    · rename_i e; injection h with h; subst h e; simp
    · exact List.mem_cons_of_mem _ (fget_mem h)
theorem fput_names_some : ∀ {fs : Fs} {n : ByteArray} {f : Fl} (v : Fl), fget fs n = some f → (fput fs n v).map (·.1) = fs.map (·.1)
  | (a, u) :: r, n, f, v, h => by
    unfold fget at h
    unfold fput
    split
    · rename_i e; simp [e]
    · rename_i e
      rw [if_neg e] at h
      simp [fput_names_some v h]
theorem fput_new : ∀ {fs : Fs} {n : ByteArray} (v : Fl), fget fs n = none → fput fs n v = fs ++ [(n, v)]
  | [], n, v, h => rfl
  | (a, u) :: r, n, v, h => by
    unfold fget at h
    unfold fput
    split
    · rename_i e; rw [if_pos e] at h; cases h
    · rename_i e
      rw [if_neg e] at h
      rw [fput_new v h]; rfl
theorem fget_none_names : ∀ {fs : Fs} {n : ByteArray}, fget fs n = none → n ∉ fs.map (·.1)
  | [], n, h => by simp
  | (a, u) :: r, n, h => by
    unfold fget at h
    split at h
    · cases h
    · rename_i e
      rw [List.map_cons, List.mem_cons]
      rintro (h2 | h2)
      · exact e h2
      · exact fget_none_names h h2
theorem mem_fput : ∀ {fs : Fs} {n : ByteArray} {v : Fl} {x : ByteArray × Fl}, x ∈ fput fs n v → x = (n, v) ∨ x ∈ fs
  | [], n, v, x, h => by simp [fput] at h; exact .inl h
  | (a, u) :: r, n, v, x, h => by
    unfold fput at h
    split at h
    · rcases List.mem_cons.1 h with h | h
      · exact .inl h
      · exact .inr (List.mem_cons_of_mem _ h)
    · rcases List.mem_cons.1 h with h | h
      · exact .inr (by rw [h]; simp)
      · rcases mem_fput h with h | h
        · exact .inl h
        · exact .inr (List.mem_cons_of_mem _ h)
theorem ftotal_fput : ∀ {fs : Fs} {n : ByteArray} {f : Fl} (v : Fl), fget fs n = some f → ftotal (fput fs n v) + f.bs.length = ftotal fs + v.bs.length
  | (a, u) :: r, n, f, v, h => by
    unfold fget at h
    unfold fput
    split
    · rename_i e
      rw [if_pos e] at h
      injection h with h
      subst h
      rw [ftotal_cons, ftotal_cons]; simp only; omega
    · rename_i e
      rw [if_neg e] at h
      have := ftotal_fput v h
      rw [ftotal_cons, ftotal_cons]; omega
theorem fdel_sub : ∀ (fs : Fs) (n : ByteArray), (fdel fs n).Sublist fs
  | [], n => List.Sublist.refl _
  | (a, u) :: r, n => by
    unfold fdel
    split
    · exact List.sublist_cons_self _ _
    · exact (fdel_sub r n).cons_cons _
theorem ftotal_fdel : ∀ {fs : Fs} {n : ByteArray} {f : Fl}, fget fs n = some f → ftotal (fdel fs n) + f.bs.length = ftotal fs
  | (a, u) :: r, n, f, h => by
    unfold fget at h
    unfold fdel
    split
    · rename_i e
      rw [if_pos e] at h
      injection h with h
      subst h
      rw [ftotal_cons]; simp only; omega
    · rename_i e
      rw [if_neg e] at h
      have := ftotal_fdel h
      rw [ftotal_cons, ftotal_cons]; omega
theorem fdel_names_not : ∀ {fs : Fs} {n : ByteArray}, (fs.map (·.1)).Nodup → n ∉ (fdel fs n).map (·.1)
  | [], n, _ => by simp [fdel]
  | (a, u) :: r, n, h => by
    rw [List.map_cons, List.nodup_cons] at h
    unfold fdel
    split
    · rename_i e; subst e; exact h.1
    · rename_i e
      rw [List.map_cons, List.mem_cons]
      rintro (h2 | h2)
      · exact e h2
      · exact fdel_names_not h.2 h2
theorem fget_fdel_ne : ∀ {fs : Fs} {n m : ByteArray}, n ≠ m → fget (fdel fs n) m = fget fs m
  | [], n, m, _ => rfl
  | (a, u) :: r, n, m, h => by
    unfold fdel
    split
    · rename_i e
      conv => rhs; unfold fget
      rw [if_neg (fun e2 => h (by rw [e, e2]))]
    · unfold fget
      split
      · rfl
      · exact fget_fdel_ne h
theorem ftotal_flen {fs : Fs} (n : ByteArray) : ftotal (fdel fs n) + flen fs n = ftotal fs := by
  unfold flen
  cases h : fget fs n with
  | some f => exact ftotal_fdel h
  | none =>
    simp only
    induction fs with
    | nil => rfl
    | cons a r ih =>
      obtain ⟨a, u⟩ := a
      unfold fget at h
      unfold fdel
      split
      · rename_i e; rw [if_pos e] at h; cases h
      · rename_i e
        rw [if_neg e] at h
        have := ih h
        rw [ftotal_cons, ftotal_cons]; omega
theorem Dk.Ok.begin' {d : Dk} (ok : d.Ok) (h : d.ops + 1 ≤ 1152921504606846976) : d.begin.Ok := by
  have h1 := ok.armedIn
  have h2 := ok.ops
  refine ⟨ok.room, ok.used, ⟨by show 0 ≤ d.ops + 1; omega, h⟩, ok.failIn, ?_, ok.armKeep⟩
  unfold Dk.begin
  simp only
  split <;> omega
theorem Dk.Ok.used' {d : Dk} (ok : d.Ok) {u : Int} (h : 0 ≤ u ∧ u ≤ 1073741824) : ({ d with used := u } : Dk).Ok := ⟨ok.room, h, ok.ops, ok.failIn, ok.armedIn, ok.armKeep⟩
/-- out of a change: right before, right behind -/
theorem FsOk.change {d d1 d2 : Dk} {fs done : Fs} {x : Int} (h1 : FsOk d1 done) (h2 : FsOk d2 fs) : FsOk (opChange d fs x d1 d2 done).2.1 (opChange d fs x d1 d2 done).2.2 := by
  unfold opChange
  split
  · split
    · exact h1
    · exact h2
  · exact h1
theorem FsOk.nums {d d' : Dk} {fs : Fs} (h : FsOk d fs) (ok : d'.Ok) (hu : d'.used = d.used) : FsOk d' fs := ⟨ok, by rw [hu]; exact h.tot, h.safe, h.names⟩
theorem FsOk.put {d d' : Dk} {fs : Fs} {n : ByteArray} {f v : Fl} (h : FsOk d fs) (hg : fget fs n = some f) (hs : v.safe ≤ v.bs.length) (ok : d'.Ok) (hu : d'.used = d.used - f.bs.length + v.bs.length) : FsOk d' (fput fs n v) := by
  have h1 := ftotal_fput v hg
  have h2 := h.tot
  refine ⟨ok, by rw [hu]; omega, fun e he => ?_, by rw [fput_names_some v hg]; exact h.names⟩
  rcases mem_fput he with rfl | he
  · exact hs
  · exact h.safe e he
section
variable {d : Dk} {fs : Fs}
theorem trunc_ok (h : FsOk d fs) (ho : d.ops + 1 ≤ 1152921504606846976) (a : ByteArray) (n : Int) : FsOk (opTrunc d fs a n).2.1 (opTrunc d fs a n).2.2 := by
  unfold opTrunc
  cases hg : fget fs a with
  | none => exact h
  | some f =>
    simp only
    split
    · exact h
    · rename_i hn
      have hl := h.len hg
      have hu := h.ok.used
      have hsf := h.safe _ (fget_mem hg)
      simp only at hsf
      refine FsOk.change (FsOk.put (f := f) h hg ?_ ((h.ok.begin' ho).used' ⟨by omega, by omega⟩) ?_) (h.nums (h.ok.begin' ho) rfl)
      · simp only [trFl, List.length_take]; omega
      · simp only [trFl, List.length_take]; omega
theorem sync_ok (h : FsOk d fs) (ho : d.ops + 1 ≤ 1152921504606846976) (a : ByteArray) : FsOk (opSync d fs a).2.1 (opSync d fs a).2.2 := by
  unfold opSync
  cases hg : fget fs a with
  | none => exact h
  | some f =>
    have hsf := h.safe _ (fget_mem hg)
    simp only at hsf
    have hk : d.syncs.begin.Ok := h.ok.syncs.begin' ho
    refine FsOk.change (FsOk.put (f := f) h hg ?_ hk ?_) (h.nums hk rfl)
    · unfold syncFl; split
      · exact hsf
      · exact Nat.le_refl _
    · show d.used = _
      unfold syncFl; split <;> simp <;> omega
theorem remove_ok (h : FsOk d fs) (ho : d.ops + 1 ≤ 1152921504606846976) (a : ByteArray) : FsOk (opRemove d fs a).2.1 (opRemove d fs a).2.2 := by
  unfold opRemove
  cases hg : fget fs a with
  | none => exact h
  | some f =>
    have hl := h.len hg
    have hu := h.ok.used
    have h1 := ftotal_fdel hg
    have h2 := h.tot
    refine FsOk.change ⟨(h.ok.begin' ho).used' ⟨by omega, by omega⟩, ?_, fun e he => h.safe e ((fdel_sub fs a).subset he), h.names.sublist ((fdel_sub fs a).map _)⟩ (h.nums (h.ok.begin' ho) rfl)
    show d.used - _ = _
    omega
theorem rename_ok (h : FsOk d fs) (ho : d.ops + 1 ≤ 1152921504606846976) (a b : ByteArray) : FsOk (opRename d fs a b).2.1 (opRename d fs a b).2.2 := by
  unfold opRename
  cases hg : fget fs a with
  | none => exact h
  | some f =>
    simp only
    split
    · exact h
    · split
      · exact FsOk.change (h.nums (h.ok.begin' ho) rfl) (h.nums (h.ok.begin' ho) rfl)
      · rename_i hne
        have hg2 : fget (fdel fs b) a = some f := by rw [fget_fdel_ne (fun e => hne e.symm)]; exact hg
        have h1 := ftotal_fdel hg2
        have h2 := ftotal_flen (fs := fs) b
        have h3 := h.tot
        have hu := h.ok.used
        have hsf := h.safe _ (fget_mem hg)
        simp only at hsf
        refine FsOk.change ⟨(h.ok.begin' ho).used' ⟨by omega, by omega⟩, ?_, fun e he => ?_, ?_⟩ (h.nums (h.ok.begin' ho) rfl)
        · show d.used - _ = _
          rw [ftotal_app, ftotal_cons]
          simp only [ftotal, List.map_nil, List.sum_nil] at *
          omega
        · rcases List.mem_append.1 he with he | he
          · exact h.safe e ((fdel_sub fs b).subset ((fdel_sub _ a).subset he))
          · rw [List.mem_singleton.1 he]; exact hsf
        · have hn1 : ((fdel fs b).map (·.1)).Nodup := h.names.sublist ((fdel_sub fs b).map _)
          have hn2 : ((fdel (fdel fs b) a).map (·.1)).Nodup := hn1.sublist ((fdel_sub _ a).map _)
          rw [List.map_append, List.nodup_append]
          refine ⟨hn2, by simp, fun x hx y hy e => ?_⟩
          simp at hy
          subst hy e
          have := fdel_names_not (n := x) h.names
          exact this (((fdel_sub (fdel fs x) a).map _).subset hx)
theorem power_ok (h : FsOk d fs) (k : Int) : FsOk (opPower d fs k).2.1 (opPower d fs k).2.2 := by
  unfold opPower
  have hle : ftotal (powFs k fs) ≤ ftotal fs := by
    have hs := h.safe
    clear h
    induction fs with
    | nil => exact Nat.le_refl _
    | cons a r ih =>
      have h1 := ih (fun e he => hs e (List.mem_cons_of_mem _ he))
      have h2 := hs a (by simp)
      unfold powFs at h1 ⊢
      rw [List.map_cons, ftotal_cons, ftotal_cons]
      have h5 : (powFl k a.2).bs.length ≤ a.2.bs.length := by simp only [powFl, List.length_take]; omega
      simp only at h5 ⊢
      omega
  have h3 := h.tot
  have h4 := h.ok.used
  refine ⟨⟨h.ok.room, ⟨by simp only; omega, by simp only; omega⟩, h.ok.ops, ⟨by simp, by simp⟩, ⟨by simp, by simp⟩, h.ok.armKeep⟩, rfl, fun e he => ?_, ?_⟩
  · obtain ⟨x, hx, rfl⟩ := List.mem_map.1 he
    have h2 := h.safe x hx
    have := powN_le (keep := k) h2
    simp only [powFl, List.length_take]
    omega
  · unfold powFs
    rw [List.map_map]
    exact h.names
theorem lay_ok (h : FsOk d fs) (ho : d.ops + 1 ≤ 1152921504606846976) (a : ByteArray) (l : List UInt8) (N : Nat) (hN : N ≤ l.length) (hr : d.used + (N : Int) ≤ 1073741824) : FsOk { d.begin with used := d.used + (N : Int) } (layF fs a (l.take N)) := by
  have hu := h.ok.used
  have ht := h.tot
  have hk : ({ d.begin with used := d.used + (N : Int) } : Dk).Ok := (h.ok.begin' ho).used' ⟨by omega, hr⟩
  unfold layF
  cases hg : fget fs a with
  | some f =>
    have hsf := h.safe _ (fget_mem hg)
    simp only at hsf
    refine FsOk.put h hg (by simp; omega) hk ?_
    simp
    omega
  | none =>
    rw [fput_new _ hg]
    refine ⟨hk, ?_, fun e he => ?_, ?_⟩
    · rw [ftotal_app, ftotal_cons]
      simp only [ftotal, List.map_nil, List.sum_nil, List.length_take] at *
      omega
    · rcases List.mem_append.1 he with he | he
      · exact h.safe e he
      · rw [List.mem_singleton.1 he]; exact Nat.zero_le _
    · rw [List.map_append, List.nodup_append]
      refine ⟨h.names, by simp, fun x hx y hy e => ?_⟩
      simp at hy
      subst hy e
      exact fget_none_names hg hx
theorem appN_room (h : FsOk d fs) (m : Nat) : d.used + (appN d m : Int) ≤ 1073741824 := by
  have h1 := h.ok.used
  have h2 := h.ok.room
  unfold appN
  omega
theorem callD_ok (h : FsOk d fs) (ho : d.ops + 1 ≤ 1152921504606846976) (kd n k : Int) (hn : -9223372036854775808 ≤ n ∧ n ≤ 9223372036854775807) (hk : -9223372036854775808 ≤ k ∧ k ≤ 9223372036854775807) (a b : ByteArray) (l : List UInt8) :
    FsOk (callD d fs kd n k a b l).2.1 (callD d fs kd n k a b l).2.2 := by
  unfold callD
  split
  · unfold appO
    split
    · exact h
    · split
      · exact lay_ok h ho a l _ (by unfold appK appN; omega) (by have := appN_room h l.length; unfold appK; omega)
      · exact lay_ok h ho a l _ (by unfold appN; omega) (appN_room h l.length)
  split
  · exact trunc_ok h ho a n
  split
  · exact sync_ok h ho a
  split
  · exact rename_ok h ho a b
  split
  · exact remove_ok h ho a
  split
  · unfold liftO opSetRoom
    split
    · rename_i hh; exact h.nums ⟨hh, h.ok.used, h.ok.ops, h.ok.failIn, h.ok.armedIn, h.ok.armKeep⟩ rfl
    · exact h
  split
  · unfold liftO opFail
    split
    · exact h
    · exact h.nums ⟨h.ok.room, h.ok.used, h.ok.ops, ⟨by simp only; omega, hn.2⟩, h.ok.armedIn, h.ok.armKeep⟩ rfl
  split
  · unfold liftO opArm
    split
    · exact h
    · exact h.nums ⟨h.ok.room, h.ok.used, h.ok.ops, h.ok.failIn, ⟨by simp only; omega, hn.2⟩, hk⟩ rfl
  split
  · exact power_ok h k
  · exact h
/-- at most one change more is counted -/
theorem opChange_ops {x : Int} {d1 d2 : Dk} {done : Fs} {u : Int} (h1 : d1.ops ≤ u) (h2 : d2.ops ≤ u) : (opChange d fs x d1 d2 done).2.1.ops ≤ u := by
  unfold opChange
  split
  · split <;> assumption
  · assumption
theorem callD_ops (kd n k : Int) (a b : ByteArray) (l : List UInt8) : (callD d fs kd n k a b l).2.1.ops ≤ d.ops + 1 := by
  have e1 : d.begin.ops = d.ops + 1 := rfl
  unfold callD
  split
  · unfold appO
    split
    · simp only; omega
    · split <;> exact Int.le_refl _
  split
  · unfold liftO opTrunc
    cases fget fs a with
    | none => simp only; omega
    | some f =>
      simp only
      split
      · simp only; omega
      · exact opChange_ops (Int.le_refl _) (Int.le_refl _)
  split
  · unfold liftO opSync
    cases fget fs a with
    | none => simp only; omega
    | some f => exact opChange_ops (Int.le_refl _) (Int.le_refl _)
  split
  · unfold liftO opRename
    cases fget fs a with
    | none => simp only; omega
    | some f =>
      simp only
      split
      · simp only; omega
      · split <;> exact opChange_ops (Int.le_refl _) (Int.le_refl _)
  split
  · unfold liftO opRemove
    cases fget fs a with
    | none => simp only; omega
    | some f => exact opChange_ops (Int.le_refl _) (Int.le_refl _)
  split
  · unfold liftO opSetRoom; split <;> simp only <;> omega
  split
  · unfold liftO opFail; split <;> simp only <;> omega
  split
  · unfold liftO opArm; split <;> simp only <;> omega
  split
  · unfold liftO opPower; simp only; omega
  · simp only; omega
end
end Go.Proofs.Ythblbmbefhlbjaa
/- Layer 13: all records that bytes begin with, as plain lists. -/
namespace Go.Proofs.Ythblbmbefhlbjaa
open Go.RowKit

theorem getErr_len {l : List UInt8} (h : getErr l = 0) : 9 ≤ getLen l ∧ getLen l ≤ l.length ∧ getLen l = 8 + (getGet l).length ∧ okLen (getGet l).length = true := by
  unfold getLen getGet
  rw [if_pos h, if_pos h]
  unfold getErr at h
  by_cases h8 : l.length < 8
  · rw [if_pos h8] at h; omega
  rw [if_neg h8] at h
  by_cases ho : okLen (beNum (l.take 4)) = false
  · rw [if_pos ho] at h; omega
  rw [if_neg ho] at h
  have ho : okLen (beNum (l.take 4)) = true := by
    cases hh : okLen (beNum (l.take 4)) with
    | true => rfl
    | false => exact absurd hh ho
  have hx := okLen_yes ho
  by_cases hk : l.length - 8 < beNum (l.take 4)
  · rw [if_pos hk] at h; omega
  have e : ((l.drop 8).take (beNum (l.take 4))).length = beNum (l.take 4) := by rw [List.length_take, List.length_drop]; omega
  rw [e]
  exact ⟨by omega, by omega, rfl, ho⟩

/-- what l begins with: the records, how many bytes they have, why there is no further one -/
def scanF : Nat → List UInt8 → List (List UInt8) × Nat × Int
  | 0, _ => ([], 0, 0)
  | f + 1, l => if l.length = 0 then ([], 0, 0) else if getErr l = 0 then (getGet l :: (scanF f (l.drop (getLen l))).1, getLen l + (scanF f (l.drop (getLen l))).2.1, (scanF f (l.drop (getLen l))).2.2) else ([], 0, getErr l)
theorem scanF_more : ∀ (f g : Nat) (l : List UInt8), l.length ≤ f → l.length ≤ g → scanF f l = scanF g l
  | 0, 0, _, _, _ => rfl
  | 0, g + 1, l, h, _ => by
    have h0 : l.length = 0 := by omega
    simp [scanF, h0]
  | f + 1, 0, l, _, h => by
    have h0 : l.length = 0 := by omega
    simp [scanF, h0]
  | f + 1, g + 1, l, h1, h2 => by
    unfold scanF
    by_cases h0 : l.length = 0
    · rw [if_pos h0, if_pos h0]
    rw [if_neg h0, if_neg h0]
    by_cases he : getErr l = 0
    · have hl := getErr_len he
      rw [if_pos he, if_pos he, scanF_more f g (l.drop (getLen l)) (by rw [List.length_drop]; omega) (by rw [List.length_drop]; omega)]
    · rw [if_neg he, if_neg he]
def scan (l : List UInt8) : List (List UInt8) × Nat × Int := scanF l.length l
theorem scan_nil : scan [] = ([], 0, 0) := rfl
theorem scan_err {l : List UInt8} (h0 : 0 < l.length) (h : getErr l ≠ 0) : scan l = ([], 0, getErr l) := by
  unfold scan
  obtain ⟨n, hn⟩ : ∃ n, l.length = n + 1 := ⟨l.length - 1, by omega⟩
  rw [hn]
  unfold scanF
  rw [if_neg (by omega), if_neg h]
theorem scan_ok {l : List UInt8} (h : getErr l = 0) : scan l = (getGet l :: (scan (l.drop (getLen l))).1, getLen l + (scan (l.drop (getLen l))).2.1, (scan (l.drop (getLen l))).2.2) := by
  have hl := getErr_len h
  unfold scan
  obtain ⟨n, hn⟩ : ∃ n, l.length = n + 1 := ⟨l.length - 1, by omega⟩
  have e := scanF_more n (l.drop (getLen l)).length (l.drop (getLen l)) (by rw [List.length_drop]; omega) (Nat.le_refl _)
  rw [hn]
  conv => lhs; unfold scanF
  rw [if_neg (by omega), if_pos h, e]
theorem scanF_len : ∀ (f : Nat) (l : List UInt8), (scanF f l).2.1 ≤ l.length
  | 0, l => Nat.zero_le _
  | f + 1, l => by
    unfold scanF
    by_cases h0 : l.length = 0
    · rw [if_pos h0]; exact Nat.zero_le _
    rw [if_neg h0]
    by_cases he : getErr l = 0
    · have hl := getErr_len he
      have ih := scanF_len f (l.drop (getLen l))
      rw [List.length_drop] at ih
      rw [if_pos he]
      show getLen l + _ ≤ _
      omega
    · rw [if_neg he]; exact Nat.zero_le _
theorem scan_len (l : List UInt8) : (scan l).2.1 ≤ l.length := scanF_len _ _
/-- as far as place p: acc was found there -/
def ScanAt (l : List UInt8) (p : Nat) (acc : List (List UInt8)) : Prop :=
  p ≤ l.length ∧ 9 * acc.length ≤ p ∧ (scan l).1 = acc ++ (scan (l.drop p)).1 ∧ (scan l).2.1 = p + (scan (l.drop p)).2.1 ∧ (scan l).2.2 = (scan (l.drop p)).2.2 ∧ (∀ x ∈ acc, okLen x.length = true)
theorem ScanAt.start (l : List UInt8) : ScanAt l 0 [] := ⟨Nat.zero_le _, Nat.le_refl _, by simp, by simp, by simp, by simp⟩
theorem ScanAt.more {l : List UInt8} {p : Nat} {acc : List (List UInt8)} (h : ScanAt l p acc) (he : getErr (l.drop p) = 0) : ScanAt l (p + getLen (l.drop p)) (acc ++ [getGet (l.drop p)]) := by
  obtain ⟨h1, h2, h3, h4, h5, h6⟩ := h
  have hl := getErr_len he
  have hs := scan_ok he
  rw [List.length_drop] at hl
  rw [List.drop_drop] at hs
  refine ⟨by omega, by rw [List.length_append, List.length_singleton]; omega, ?_, ?_, ?_, fun x hx => ?_⟩
  · rw [h3, hs]; simp
  · rw [h4, hs]; simp; omega
  · rw [h5, hs]
  · rcases List.mem_append.1 hx with hx | hx
    · exact h6 x hx
    · simp at hx; rw [hx]; exact hl.2.2.2
theorem ScanAt.stop {l : List UInt8} {p : Nat} {acc : List (List UInt8)} (h : ScanAt l p acc) (hp : p < l.length) (he : getErr (l.drop p) ≠ 0) : scan l = (acc, p, getErr (l.drop p)) := by
  obtain ⟨h1, h2, h3, h4, h5, _⟩ := h
  have hs := scan_err (l := l.drop p) (by rw [List.length_drop]; omega) he
  rw [hs] at h3 h4 h5
  refine Prod.ext (by simpa using h3) (Prod.ext (by simpa using h4) h5)
theorem ScanAt.all {l : List UInt8} {p : Nat} {acc : List (List UInt8)} (h : ScanAt l p acc) (hp : p = l.length) : scan l = (acc, p, 0) := by
  obtain ⟨h1, h2, h3, h4, h5, _⟩ := h
  rw [hp, List.drop_length, scan_nil] at h3 h4 h5
  exact Prod.ext (by simpa using h3) (Prod.ext (by simpa [hp] using h4) h5)
end Go.Proofs.Ythblbmbefhlbjaa
/- Layer 13: two rows of records behind each other, as plain lists. -/
namespace Go.Proofs.Ythblbmbefhlbjaa
open Go.RowKit

end Go.Proofs.Ythblbmbefhlbjaa
/- Layer 13: records behind each other, cut anywhere, as plain lists. -/
namespace Go.Proofs.Ythblbmbefhlbjaa
open Go.RowKit

/-- how many of them are whole in k bytes, and how many bytes these have -/
def cutI : List (List UInt8) → Nat → Nat × Nat
  | [], _ => (0, 0)
  | b :: r, k => if k < 8 + b.length then (0, 0) else ((cutI r (k - (8 + b.length))).1 + 1, 8 + b.length + (cutI r (k - (8 + b.length))).2)
def recs (own : List (List UInt8)) : List UInt8 := (own.map record).flatten
theorem recs_nil : recs [] = [] := rfl
theorem recs_cons (b : List UInt8) (r : List (List UInt8)) : recs (b :: r) = record b ++ recs r := by simp [recs]
theorem recs_snoc (L : List (List UInt8)) (b : List UInt8) : recs (L ++ [b]) = recs L ++ record b := by simp [recs]

theorem get_short {b : List UInt8} (hok : okLen b.length = true) (k : Nat) (hk : k < 8 + b.length) : getErr ((record b).take k) = 7 := by
  unfold getErr
  have hl : ((record b).take k).length = k := by rw [List.length_take, record_length]; omega
  by_cases h8 : k < 8
  · rw [if_pos (by omega)]
  have e4 : ((record b).take k).take 4 = be4 b.length := by
    rw [List.take_take, show min 4 k = 4 from by omega]
    unfold record
    rw [List.append_assoc, List.take_append_of_le_length (by simp [be4]), List.take_of_length_le (by simp [be4])]
  have hb := okLen_yes hok
  rw [if_neg (by omega), e4, beNum_be4 (by omega), if_neg (by rw [hok]; decide), if_pos (by omega)]

theorem cut_scan : ∀ (own : List (List UInt8)) (k : Nat), (∀ x ∈ own, okLen x.length = true) → k ≤ (recs own).length →
    scan ((recs own).take k) = (own.take (cutI own k).1, (cutI own k).2, if (cutI own k).2 = k then 0 else 7)
  | [], k, _, hk => by
    have h0 : k = 0 := by simpa [recs] using hk
    subst h0
    rfl
  | b :: r, k, hok, hk => by
    have hb := hok b (by simp)
    rw [recs_cons] at hk ⊢
    by_cases hlt : k < 8 + b.length
    · have hc : cutI (b :: r) k = (0, 0) := by simp [cutI, hlt]
      rw [hc, List.take_append_of_le_length (by rw [record_length]; omega)]
      by_cases h0 : k = 0
      · subst h0
        simp [scan_nil]
      · have he := get_short hb k hlt
        have hl : ((record b).take k).length = k := by rw [List.length_take, record_length]; omega
        rw [scan_err (by omega) (by omega), he, if_neg (by omega)]
        rfl
    · obtain ⟨j, hj⟩ : ∃ j, k = 8 + b.length + j := ⟨k - (8 + b.length), by omega⟩
      subst hj
      have hc : cutI (b :: r) (8 + b.length + j) = ((cutI r j).1 + 1, 8 + b.length + (cutI r j).2) := by
        simp only [cutI, if_neg hlt, show 8 + b.length + j - (8 + b.length) = j from by omega]
      have ht : (record b ++ recs r).take (8 + b.length + j) = record b ++ (recs r).take j := by
        rw [List.take_append, List.take_of_length_le (by rw [record_length]; omega), record_length, show 8 + b.length + j - (8 + b.length) = j from by omega]
      obtain ⟨g1, g2, g3⟩ := get_record b ((recs r).take j) hb
      have hs := scan_ok g1
      have hd : (record b ++ (recs r).take j).drop (8 + b.length) = (recs r).take j := List.drop_left' (by rw [record_length])
      have ih := cut_scan r j (fun x hx => hok x (List.mem_cons_of_mem _ hx)) (by rw [List.length_append, record_length] at hk; omega)
      rw [g2, g3, hd, ih] at hs
      rw [ht, hs, hc]
      refine Prod.ext (by simp) (Prod.ext rfl ?_)
      show (if (cutI r j).2 = j then (0 : Int) else 7) = if 8 + b.length + (cutI r j).2 = 8 + b.length + j then 0 else 7
      by_cases h : (cutI r j).2 = j
      · rw [if_pos h, if_pos (by omega)]
      · rw [if_neg h, if_neg (by omega)]
/-- ahead of the i-th -/
def CutAt (own : List (List UInt8)) (k i at_ : Nat) : Prop := i ≤ own.length ∧ at_ ≤ k ∧ (cutI own k).1 = i + (cutI (own.drop i) (k - at_)).1 ∧ (cutI own k).2 = at_ + (cutI (own.drop i) (k - at_)).2
theorem CutAt.start (own : List (List UInt8)) (k : Nat) : CutAt own k 0 0 := ⟨Nat.zero_le _, Nat.zero_le _, by simp, by simp⟩
theorem drop_cons {own : List (List UInt8)} {i : Nat} (h : i < own.length) : own.drop i = own.getD i [] :: own.drop (i + 1) := by
  rw [List.drop_eq_getElem_cons h, List.getD_eq_getElem?_getD, List.getElem?_eq_getElem h]
  rfl
theorem CutAt.more {own : List (List UInt8)} {k i at_ : Nat} (h : CutAt own k i at_) (hi : i < own.length) (hk : ¬ k < at_ + (8 + (own.getD i []).length)) : CutAt own k (i + 1) (at_ + (8 + (own.getD i []).length)) := by
  obtain ⟨h1, h2, h3, h4⟩ := h
  rw [drop_cons hi] at h3 h4
  have e : cutI (own.getD i [] :: own.drop (i + 1)) (k - at_) = ((cutI (own.drop (i + 1)) (k - (at_ + (8 + (own.getD i []).length)))).1 + 1, 8 + (own.getD i []).length + (cutI (own.drop (i + 1)) (k - (at_ + (8 + (own.getD i []).length)))).2) := by
    rw [cutI, if_neg (by omega), Nat.sub_sub]
  rw [e] at h3 h4
  simp only at h3 h4
  exact ⟨by omega, by omega, by omega, by omega⟩
theorem CutAt.stop {own : List (List UInt8)} {k i at_ : Nat} (h : CutAt own k i at_) (hi : i < own.length) (hk : k < at_ + (8 + (own.getD i []).length)) : cutI own k = (i, at_) := by
  obtain ⟨h1, h2, h3, h4⟩ := h
  rw [drop_cons hi, cutI, if_pos (by omega)] at h3 h4
  exact Prod.ext h3 h4
theorem CutAt.all {own : List (List UInt8)} {k i at_ : Nat} (h : CutAt own k i at_) (hi : i = own.length) : cutI own k = (i, at_) := by
  obtain ⟨h1, h2, h3, h4⟩ := h
  rw [hi, List.drop_length, cutI] at h3 h4
  exact Prod.ext (by rw [h3, hi]; rfl) h4
end Go.Proofs.Ythblbmbefhlbjaa
/- A row of slices of bytes, of the call's own, that avoids some blocks. No condition. -/
namespace Go.Proofs.Ythblbmbefhlbjaa
open Go.RowKit

/-- v is a row of the call's own, from block B on, of the slices vs, which read as L; neither it nor they lie in blocks of T, and none of them lies in its block -/
def RwV (B : Nat) (T : Nat → Prop) (w : World) (v : Value) (L : List (List UInt8)) (vs : List Value) : Prop :=
  vs.length = L.length ∧ w.ownsRow B 27 1 v L.length vs ∧ (∀ u ∈ vs, u.oneCell' = true) ∧ (∀ k, v.ownBlock = some k → ¬ T k) ∧
    ∀ (i : Nat) (u : Value) (x : List UInt8), vs[i]? = some u → L[i]? = some x → ∃ A c, u = .slice A x.length c ∧ Bs w A x.length c x ∧ (0 < x.length → ∀ b, A = some b → ¬ v.ownBlock = some b.block ∧ ¬ T b.block)
def Rw (B : Nat) (T : Nat → Prop) (w : World) (v : Value) (L : List (List UInt8)) : Prop := ∃ vs, RwV B T w v L vs

section
variable {B : Nat} {T T' S : Nat → Prop} {w w' : World} {v v' : Value} {L : List (List UInt8)} {vs : List Value}
theorem Rw.nil (B : Nat) (T : Nat → Prop) (w : World) : Rw B T w (.slice none 0 0) [] := ⟨[], rfl, World.ownsRow_nil w B 27 1, (fun u h => by cases h), (fun k h => by cases h), (fun i u x h => by cases h)⟩
theorem RwV.form (h : RwV B T w v L vs) : ∃ A c, v = .slice A L.length c := own_form h.2.1
theorem Rw.form (h : Rw B T w v L) : ∃ A c, v = .slice A L.length c := by obtain ⟨vs, h⟩ := h; exact h.form
theorem RwV.ch (h : RwV B T w v L vs) (c : Ch S w w') (hS : ∀ k, k < w.heap.size → S k → T k) (hT : ∀ k, k < w.heap.size → T' k → T k) : RwV B T' w' v L vs := by
  obtain ⟨hl, ho, h1, h2, hg⟩ := h
  refine ⟨hl, own_ch ho c (fun k hk hs => h2 k hk (hS k (World.ownsRow.lt ho k hk).2 hs)), h1, fun k hk ht => h2 k hk (hT k (World.ownsRow.lt ho k hk).2 ht), fun i u x a b => ?_⟩
  obtain ⟨A, ci, e, hb, hne⟩ := hg i u x a b
  have hlt : 0 < x.length → ∀ b, A = some b → b.block < w.heap.size := fun h0 b hA => by
    obtain ⟨b', o', e', hlt, _⟩ := hb.at_ h0
    rw [e'] at hA
    injection hA with hA
    subst hA
    exact hlt
  exact ⟨A, ci, e, hb.ch c (fun h0 b hA hs => (hne h0 b hA).2 (hS _ (hlt h0 b hA) hs)), fun h0 b hA => ⟨(hne h0 b hA).1, fun ht => (hne h0 b hA).2 (hT _ (hlt h0 b hA) ht)⟩⟩
theorem Rw.ch (h : Rw B T w v L) (c : Ch S w w') (hS : ∀ k, k < w.heap.size → S k → T k) (hT : ∀ k, k < w.heap.size → T' k → T k) : Rw B T' w' v L := by
  obtain ⟨vs, h⟩ := h
  exact ⟨vs, h.ch c hS hT⟩
theorem Rw.below (h : Rw B T w v L) (hb : Below w.heap.size w w') : Rw B T w' v L := h.ch (Ch.of_below (S := fun _ => False) hb) (fun _ _ h => h.elim) (fun _ _ h => h)
theorem Rw.rd (h : Rw B T w v L) : ∃ A c, v = .slice A L.length c ∧ Rd w A L.length c L := by
  obtain ⟨vs, hl, ho, _, _, hg⟩ := h
  rcases ho.2 with ⟨rfl, h0⟩ | ⟨g, cap, cur, rfl, h1, h2, h3, h4, h5, h6⟩
  · exact ⟨none, 0, by rw [h0], rfl, by omega, by simp [maxLen], fun hn => by omega⟩
  · refine ⟨_, cap, rfl, rfl, h3, h4, fun _ => ⟨g, 0, rfl, (Array.getElem?_eq_some_iff.1 h2).1, fun i x hi => ?_⟩⟩
    have hil : i < L.length := (List.getElem?_eq_some_iff.1 hi).1
    have hgl : i < vs.length := by rw [hl]; exact hil
    obtain ⟨A, c, e, hb, _⟩ := hg i vs[i] x (List.getElem?_eq_getElem hgl) hi
    refine ⟨A, c, ?_, hb⟩
    rw [Nat.zero_add, cell_of_row w g i cur _ _ h2]
    have e2 : (cur.toList.take (L.length * 1))[i]? = vs[i]? := by rw [h6]
    rw [Nat.mul_one, List.getElem?_take, if_pos hil, List.getElem?_eq_getElem hgl, e] at e2
    simpa using e2
/-- one slice more -/
theorem RwV.more {x : List UInt8} {A : Option Addr} {c : Nat} (h : RwV B T w v L vs) (hx : Bs w A x.length c x) (hlt : 0 < x.length → ∀ b, A = some b → ¬ v.ownBlock = some b.block ∧ ¬ T b.block) (hTn : ¬ T w.heap.size)
    (hown : w'.ownsRow B 27 1 v' (L.length + 1) (vs ++ [.slice A x.length c])) (hgr : w.grownBy w' v.ownBlock) (hfr : v'.ownBlock = v.ownBlock ∨ v'.ownBlock = some w.heap.size) : RwV B T w' v' (L ++ [x]) (vs ++ [.slice A x.length c]) := by
  obtain ⟨hl, ho, h1, h2, hg⟩ := h
  have hch : Ch (fun k => v.ownBlock = some k) w w' := Ch.of_grown hgr (fun k hk => hk)
  have hnew : ∀ b : Addr, b.block < w.heap.size → ¬ v.ownBlock = some b.block → ¬ v'.ownBlock = some b.block := fun b hb hne e => by
    rcases hfr with q | q
    · exact hne (by rw [← q]; exact e)
    · rw [q] at e; injection e with e; omega
  have hblk : ∀ (A : Option Addr) (c : Nat) (y : List UInt8), Bs w A y.length c y → 0 < y.length → ∀ b, A = some b → b.block < w.heap.size := fun A c y hb h0 b hA => by
    obtain ⟨b', o', e', hlt, _⟩ := hb.at_ h0
    rw [e'] at hA
    injection hA with hA
    subst hA
    exact hlt
  refine ⟨by simp [hl], by rw [List.length_append]; exact hown, fun u hu => ?_, fun k hk ht => ?_, fun i u z e1 e2 => ?_⟩
  · rcases List.mem_append.1 hu with hu | hu
    · exact h1 u hu
    · simp at hu; rw [hu]; rfl
  · rcases hfr with q | q
    · exact h2 k (by rw [← q]; exact hk) ht
    · rw [q] at hk; injection hk with hk; rw [← hk] at ht; exact hTn ht
  · by_cases hi : i < L.length
    · rw [List.getElem?_append_left (by rw [hl]; exact hi)] at e1
      rw [List.getElem?_append_left hi] at e2
      obtain ⟨A', c', e, hb, hne⟩ := hg i u z e1 e2
      exact ⟨A', c', e, hb.ch hch (fun h0 b hA hs => (hne h0 b hA).1 hs), fun h0 b hA => ⟨hnew b (hblk _ _ _ hb h0 b hA) (hne h0 b hA).1, (hne h0 b hA).2⟩⟩
    · rw [List.getElem?_append_right (by rw [hl]; omega), hl] at e1
      rw [List.getElem?_append_right (by omega)] at e2
      have : i - L.length = 0 := by
        rcases Nat.lt_or_ge (i - L.length) 1 with h | h
        · omega
        · rw [List.getElem?_eq_none (by simpa using h)] at e2; cases e2
      rw [this] at e1 e2
      simp at e1 e2
      subst e1 e2
      exact ⟨A, c, rfl, hx.ch hch (fun h0 b hA hs => (hlt h0 b hA).1 hs), fun h0 b hA => ⟨hnew b (hblk _ _ _ hx h0 b hA) (hlt h0 b hA).1, (hlt h0 b hA).2⟩⟩
end

/-- 'append(l, x)': x lies in none of T, and not in l's block -/
theorem wpList_rw {ops : Array Oper} {rest : List Oper} {o : Oper} {a : Act} {Q : Exit → Act → World → Prop} {w : World} (hgd : o.guard = none) (s y : Operand)
    (ho : o.op = .call { callee := .builtin .append, args := #[s, y], argTypes := #[47, 47] }) (B : Nat) (T : Nat → Prop) (v : Value) (L : List (List UInt8)) (x : List UInt8) (A : Option Addr) (c : Nat) (hs : a.eval s = v) (hw : Rw B T w v L) (hx : Bs w A x.length c x)
    (hlt : 0 < x.length → ∀ b, A = some b → ¬ v.ownBlock = some b.block ∧ ¬ T b.block) (hTn : ¬ T w.heap.size)
    (g : Nat) (hy : a.eval y = .slice (some ⟨g, 0, none⟩) 1 1) (hg : w.heap[g]? = some (.cells #[.slice A x.length c] 27)) (hn : L.length + 1 ≤ 1099511627776) (hB : B ≤ w.heap.size)
    (h : ∀ v' w', Rw B T w' v' (L ++ [x]) → w.grownBy w' v.ownBlock → (v'.ownBlock = v.ownBlock ∨ v'.ownBlock = some w.heap.size) → wpList Try.prog ops Q rest (a.put o.dst v') w') : wpList Try.prog ops Q (o :: rest) a w := by
  obtain ⟨vs, hw⟩ := hw
  refine wpList_appAt hgd s y 47 ho B 27 (.slice none 0 0) 24 Try.underlying47 rowsInfo rfl (by decide) v L.length vs hs hw.2.1 ⟨g, 0, none⟩ 1 1 [.slice A x.length c] hy rfl (fun j u hu => ?_) (fun u hu => ?_) hn hB (fun v' w' q1 q2 q3 => h v' w' ⟨_, hw.more hx hlt hTn q1 q2 q3⟩ q2 q3)
  · have hj : j = 0 := by
      rcases Nat.lt_or_ge j 1 with h | h
      · omega
      · rw [List.getElem?_eq_none (by simpa using h)] at hu; cases hu
    subst hj
    rw [Addr.add_lit, Nat.zero_add, cell_of_row w g 0 _ _ _ hg]
    exact hu
  · simp at hu; subst hu; rfl
end Go.Proofs.Ythblbmbefhlbjaa
/- A region that draws its order, whose first operations only read, and whose last ones do what they like: one walk, in the order of the text, by the cheap step. -/
namespace Go.Proofs.Ythblbmbefhlbjaa
open Go.RowKit

/-- this world -/
structure Here (w : World) where
  u : World
  h : u = w
instance (w : World) : Nonempty (Here w) := ⟨⟨w, rfl⟩⟩
theorem still_of_quiet {P : Program} {o : Oper} {a : Act} {W : World} {K : Act → Prop} (h : o.quiet P a (fun w' => ∃ m : Here W, w' = m.u) K) : o.still P a W K := by
  obtain ⟨v, h1, h2⟩ := h
  have h3 := h1 W ⟨⟨W, rfl⟩, rfl⟩
  unfold Oper.quietAt at h3
  unfold Oper.still
  generalize (execOp a.eval o).run P W = r at *
  cases r with
  | ok n w' =>
    cases n with
    | value u => obtain ⟨rfl, rfl⟩ := h3; exact ⟨rfl, h2⟩
    | skip => obtain ⟨rfl, rfl⟩ := h3; exact ⟨rfl, h2⟩
    | enter f args =>
      obtain ⟨rfl, hc⟩ := h3
      exact ⟨rfl, v, hc.mono (fun e w'' hh => ⟨hh.1, by obtain ⟨m, rfl⟩ := hh.2; exact m.h⟩), h2⟩
    | _ => cases h3
  | halt x w' => cases h3
theorem wpStill_of_quiet {P : Program} {ops : Array Oper} {W : World} {Q : Act → Prop} : ∀ (l : List Oper) (a : Act), wpQuiet P ops (fun w' => ∃ m : Here W, w' = m.u) Q l a → wpStill P ops W Q l a
  | [], _, h => h
  | o :: rest, a, h => by
    unfold wpQuiet at h
    unfold wpStill
    split
    · rename_i hw
      rw [if_pos hw] at h
      exact Oper.still_mono (fun a1 ha => wpStill_of_quiet rest a1 ha) (still_of_quiet h)
    · rename_i hw
      rw [if_neg hw] at h
      exact wpStill_of_quiet rest _ h
theorem region_tail {P : Program} {id : Nat} {Q : Exit → Act → World → Prop} {a : Act} {w : World} {l : List Oper} (n : Nat) (hm : P.follows .mixedOrders = true) (hB : Region.lexTailB .any l.toArray n = true)
    (h : wpQuiet P l.toArray (fun w' => ∃ m : Here w.drew, w' = m.u) (fun a' => wpList P l.toArray Q (l.drop n) a' w.drew) (l.take n) a) : (Code.region id l.toArray true).wp P Q a w :=
  wp_region_still_tail n hm hB (wpStill_of_quiet _ _ h)
theorem Here.cell {w : World} {a : Addr} {v : Value} (h : w.cell? a = some v) (n : Here w.drew) : n.u.cell? a = some v := by
  rw [n.h]; exact h
end Go.Proofs.Ythblbmbefhlbjaa
/- Laid together: WalM, Wal1, Wal2, Wal3, ScanN, Wal4, WalP, WalA. -/

/- Layer 14: what Add and Open do, as plain functions, and what a log's file keeps. -/
namespace Go.Proofs.Ythblbmbefhlbjaa
open Go.RowKit Go.MapKept

def undo_ (x : Int) (r : Out) : Out := match r with
  | (.inl _, s) => (.inl x, s)
  | (.inr op, s) => (.inr op, s)
/-- behind the sync -/
def addS (nm : ByteArray) (g : Nat) (r : Out) : Out := match r with
  | (.inr op, s) => (.inr op, s)
  | (.inl x, s) => if x = 0 then (.inl 0, s) else undo_ 5 (opTrunc s.1 s.2 nm (g : Int))
/-- behind the append -/
def addA (nm : ByteArray) (g m : Nat) (r : OutN) : Out := match r with
  | ((_, .inr op), s) => (.inr op, s)
  | ((n, .inl _), s) => if n < (m : Int) then undo_ 4 (opTrunc s.1 s.2 nm (g : Int)) else addS nm g (opSync s.1 s.2 nm)
def addD (d : Dk) (fs : Fs) (nm : ByteArray) (g : Nat) (b : List UInt8) : Out :=
  if okLen b.length = true then addA nm g (record b).length (appO d fs nm (record b)) else (.inl 9, d, fs)
/-- a file's bytes; none, if it isn't there -/
def bsOf (fs : Fs) (nm : ByteArray) : List UInt8 := match fget fs nm with
  | some f => f.bs
  | none => []
def openT (nm : ByteArray) (r : Out) : Out := match r with
  | (.inr op, s) => (.inr op, s)
  | (.inl _, s) => opSync s.1 s.2 nm
def openD (d : Dk) (fs : Fs) (nm : ByteArray) : Out :=
  if (scan (bsOf fs nm)).2.1 = (bsOf fs nm).length then (.inl 0, d, fs) else openT nm (opTrunc d fs nm ((scan (bsOf fs nm)).2.1 : Int))

theorem fget_put_same : ∀ (fs : Fs) (k : ByteArray) (v : Fl), fget (fput fs k v) k = some v
  | [], k, v => by simp [fput, fget]
  | (a, u) :: r, k, v => by
    unfold fput
    split
    · simp [fget]
    · rename_i h
      unfold fget
      rw [if_neg h]
      exact fget_put_same r k v
theorem fget_powFs (k : Int) : ∀ (fs : Fs) (n : ByteArray), fget (powFs k fs) n = (fget fs n).map (powFl k)
  | [], n => rfl
  | (a, v) :: r, n => by
    show fget ((a, powFl k v) :: powFs k r) n = _
    unfold fget
    split
    · rfl
    · exact fget_powFs k r n
/-- a cut that may be -/
theorem trunc_get {d : Dk} {fs : Fs} {nm : ByteArray} {f : Fl} {n : Nat} (h : fget fs nm = some f) (hn : n ≤ f.bs.length) :
    ((opTrunc d fs nm (n : Int)).1 = .inl 0 ∧ fget (opTrunc d fs nm (n : Int)).2.2 nm = some (trFl n f)) ∨
    ∃ op, (opTrunc d fs nm (n : Int)).1 = .inr op ∧ d.armedIn = 1 ∧ (fget (opTrunc d fs nm (n : Int)).2.2 nm = some (trFl n f) ∨ fget (opTrunc d fs nm (n : Int)).2.2 nm = some f) := by
  unfold opTrunc
  rw [h]
  simp only
  rw [if_neg (by omega)]
  unfold opChange
  by_cases ha : d.armedIn = 1
  · rw [if_pos ha]
    refine .inr ⟨_, rfl, ha, ?_⟩
    by_cases ho : dOdd d = true
    · rw [if_pos ho]; left; simp only [Int.toNat_natCast]; exact fget_put_same _ _ _
    · rw [if_neg ho]; right; exact h
  · rw [if_neg ha]
    refine .inl ⟨rfl, ?_⟩
    simp only [Int.toNat_natCast]
    exact fget_put_same _ _ _
theorem sync_get {d : Dk} {fs : Fs} {nm : ByteArray} {f : Fl} (h : fget fs nm = some f) :
    ((opSync d fs nm).1 = .inl 0 ∧ fget (opSync d fs nm).2.2 nm = some ⟨f.bs, f.bs.length⟩) ∨
    ((∃ x, x ≠ 0 ∧ (opSync d fs nm).1 = .inl x) ∧ d.failIn = 1 ∧ fget (opSync d fs nm).2.2 nm = some f) ∨
    ∃ op, (opSync d fs nm).1 = .inr op ∧ d.armedIn = 1 ∧ (fget (opSync d fs nm).2.2 nm = some ⟨f.bs, f.bs.length⟩ ∨ fget (opSync d fs nm).2.2 nm = some f) := by
  unfold opSync
  rw [h]
  simp only
  unfold opChange
  by_cases ha : d.armedIn = 1
  · rw [if_pos ha]
    refine .inr (.inr ⟨_, rfl, ha, ?_⟩)
    by_cases ho : dOdd d = true
    · rw [if_pos ho]
      simp only [fget_put_same]
      cases (d.failIn == 1)
      · left; rfl
      · right; rfl
    · rw [if_neg ho]; right; exact h
  · rw [if_neg ha]
    cases hf : (d.failIn == 1)
    · exact .inl ⟨rfl, fget_put_same _ _ _⟩
    · exact .inr (.inl ⟨⟨_, by decide, rfl⟩, by simpa using hf, fget_put_same _ _ _⟩)
/-- an append -/
theorem app_get {d : Dk} {fs : Fs} {nm : ByteArray} {l : List UInt8} (hn : nameD nm = true) {c : List UInt8} {s : Nat} (h : (fget fs nm = none ∧ c = [] ∧ s = 0) ∨ fget fs nm = some ⟨c, s⟩) :
    ∃ k, k ≤ l.length ∧ fget (appO d fs nm l).2.2 nm = some ⟨c ++ l.take k, s⟩ ∧ ((∃ x, (appO d fs nm l).1 = ((k : Int), .inl x)) ∨ ∃ op, (appO d fs nm l).1.2 = .inr op) := by
  have hl : ∀ b, fget (layF fs nm b) nm = some ⟨c ++ b, s⟩ := fun b => by
    unfold layF
    rw [fget_put_same]
    rcases h with ⟨h, rfl, rfl⟩ | h
    · rw [h]; rfl
    · rw [h]
  unfold appO
  rw [if_neg (by rw [hn]; decide)]
  by_cases ha : d.armedIn = 1
  · rw [if_pos ha]
    exact ⟨appK d l.length, by unfold appK appN; omega, hl _, .inr ⟨_, rfl⟩⟩
  · rw [if_neg ha]
    exact ⟨appN d l.length, by unfold appN; omega, hl _, .inl ⟨_, rfl⟩⟩

/-- a log's file holds just these records, and all of it is safe -/
def WalFs (fs : Fs) (nm : ByteArray) (rs : List (List UInt8)) : Prop :=
  (∀ x ∈ rs, okLen x.length = true) ∧ ((fget fs nm = none ∧ rs = []) ∨ fget fs nm = some ⟨recs rs, (recs rs).length⟩)
/-- it holds these records and the beginning of one more; all ahead of that one is safe -/
def HalfFs (fs : Fs) (nm : ByteArray) (rs : List (List UInt8)) (b : List UInt8) : Prop :=
  okLen b.length = true ∧ (∀ x ∈ rs, okLen x.length = true) ∧ ∃ k s, k ≤ (record b).length ∧ (recs rs).length ≤ s ∧ s ≤ (recs rs).length + k ∧ fget fs nm = some ⟨recs rs ++ (record b).take k, s⟩
def AddEnd (nm : ByteArray) (rs : List (List UInt8)) (b : List UInt8) (r : Out) : Prop := match r with
  | (.inl x, s) => if x = 0 then okLen b.length = true ∧ WalFs s.2 nm (rs ++ [b]) else WalFs s.2 nm rs
  | (.inr _, s) => HalfFs s.2 nm rs b
theorem trFl_back (X Y : List UInt8) : trFl X.length ⟨X ++ Y, X.length⟩ = ⟨X, X.length⟩ := by
  unfold trFl
  simp
theorem undo_end {d : Dk} {fs : Fs} {nm : ByteArray} {rs : List (List UInt8)} {b : List UInt8} {k : Nat} {x : Int} (hx : x ≠ 0) (hb : okLen b.length = true) (hok : ∀ x ∈ rs, okLen x.length = true) (hk : k ≤ (record b).length)
    (h : fget fs nm = some ⟨recs rs ++ (record b).take k, (recs rs).length⟩) : AddEnd nm rs b (undo_ x (opTrunc d fs nm ((recs rs).length : Int))) := by
  have ht := trunc_get (d := d) (n := (recs rs).length) h (by simp)
  rw [trFl_back] at ht
  generalize opTrunc d fs nm ((recs rs).length : Int) = r at ht
  obtain ⟨y, d', fs'⟩ := r
  rcases ht with ⟨h1, h2⟩ | ⟨op, h1, _, h2⟩
  · obtain rfl : y = .inl 0 := h1
    show if x = 0 then _ else WalFs fs' nm rs
    rw [if_neg hx]
    exact ⟨hok, .inr h2⟩
  · obtain rfl : y = .inr op := h1
    rcases h2 with h2 | h2
    · exact ⟨hb, hok, 0, _, Nat.zero_le _, Nat.le_refl _, by omega, by rw [show (record b).take 0 = [] from rfl, List.append_nil]; exact h2⟩
    · exact ⟨hb, hok, k, _, hk, Nat.le_refl _, by omega, h2⟩
/-- what an Add leaves -/
theorem addD_keeps (d : Dk) {fs : Fs} {nm : ByteArray} {rs : List (List UInt8)} (b : List UInt8) (hn : nameD nm = true) (hw : WalFs fs nm rs) : AddEnd nm rs b (addD d fs nm (recs rs).length b) := by
  obtain ⟨hok, hf⟩ := hw
  unfold addD
  by_cases hb : okLen b.length = true
  · rw [if_pos hb]
    obtain ⟨k, hk, hg, he⟩ := app_get (d := d) (l := record b) hn (c := recs rs) (s := (recs rs).length) (by
      rcases hf with ⟨h, rfl⟩ | h
      · exact .inl ⟨h, rfl, rfl⟩
      · exact .inr h)
    generalize appO d fs nm (record b) = r at hg he
    obtain ⟨⟨n, y⟩, d1, fs1⟩ := r
    rcases he with ⟨x, he⟩ | ⟨op, he⟩
    · obtain ⟨rfl, rfl⟩ := Prod.mk.inj he
      show AddEnd nm rs b (if (k : Int) < ((record b).length : Int) then undo_ 4 (opTrunc d1 fs1 nm ((recs rs).length : Int)) else addS nm (recs rs).length (opSync d1 fs1 nm))
      by_cases hlt : (k : Int) < ((record b).length : Int)
      · rw [if_pos hlt]
        exact undo_end (by decide) hb hok hk hg
      · rw [if_neg hlt]
        have hs := sync_get (d := d1) hg
        generalize opSync d1 fs1 nm = r at hs
        obtain ⟨y, d2, fs2⟩ := r
        have hkk : k = (record b).length := by omega
        rcases hs with ⟨h1, h2⟩ | ⟨⟨z, hz, h1⟩, _, h2⟩ | ⟨op, h1, _, h2⟩
        · obtain rfl : y = .inl 0 := h1
          refine ⟨hb, fun x hx => ?_, .inr ?_⟩
          · rcases List.mem_append.1 hx with hx | hx
            · exact hok x hx
            · rw [List.mem_singleton.1 hx]; exact hb
          · rw [h2, hkk, List.take_of_length_le (Nat.le_refl _), recs_snoc]
        · obtain rfl : y = .inl z := h1
          show AddEnd nm rs b (if z = 0 then (.inl 0, (d2, fs2)) else undo_ 5 (opTrunc d2 fs2 nm ((recs rs).length : Int)))
          rw [if_neg hz]
          exact undo_end (by decide) hb hok hk h2
        · obtain rfl : y = .inr op := h1
          rcases h2 with h2 | h2
          · refine ⟨hb, hok, k, _, hk, ?_, ?_, h2⟩
            · simp
            · rw [List.length_append, List.length_take]; omega
          · exact ⟨hb, hok, k, _, hk, Nat.le_refl _, by omega, h2⟩
    · obtain rfl : y = .inr op := he
      exact ⟨hb, hok, k, _, hk, Nat.le_refl _, by omega, hg⟩
  · rw [if_neg hb]
    show if (9 : Int) = 0 then okLen b.length = true ∧ WalFs fs nm (rs ++ [b]) else WalFs fs nm rs
    rw [if_neg (by decide)]
    exact ⟨hok, hf⟩
/-- when the power goes -/
theorem walFs_pow {fs : Fs} {nm : ByteArray} {rs : List (List UInt8)} (kp : Int) (h : WalFs fs nm rs) : WalFs (powFs kp fs) nm rs := by
  obtain ⟨hok, h⟩ := h
  refine ⟨hok, ?_⟩
  rw [fget_powFs]
  rcases h with ⟨h, rfl⟩ | h
  · exact .inl ⟨by rw [h]; rfl, rfl⟩
  · refine .inr ?_
    rw [h]
    simp [powFl, powN]
theorem halfFs_pow {fs : Fs} {nm : ByteArray} {rs : List (List UInt8)} {b : List UInt8} (kp : Int) (h : HalfFs fs nm rs b) :
    okLen b.length = true ∧ (∀ x ∈ rs, okLen x.length = true) ∧ ∃ k, k ≤ (record b).length ∧ fget (powFs kp fs) nm = some ⟨recs rs ++ (record b).take k, (recs rs).length + k⟩ := by
  obtain ⟨hb, hok, k, s, hk, h1, h2, h⟩ := h
  refine ⟨hb, hok, powN kp ⟨recs rs ++ (record b).take k, s⟩ - (recs rs).length, ?_, ?_⟩
  · have := powN_le (keep := kp) (f := ⟨recs rs ++ (record b).take k, s⟩) (by simp; omega)
    simp at this
    omega
  · have h3 := powN_le (keep := kp) (f := ⟨recs rs ++ (record b).take k, s⟩) (by simp; omega)
    have h4 : s ≤ powN kp ⟨recs rs ++ (record b).take k, s⟩ := by unfold powN; show s ≤ s + _; omega
    rw [fget_powFs, h]
    simp only [Option.map_some, powFl]
    simp only [List.length_append, List.length_take] at h3
    generalize powN kp ⟨recs rs ++ (record b).take k, s⟩ = P at h3 h4 ⊢
    congr 1
    rw [show (recs rs).length + (P - (recs rs).length) = P from by omega]
    congr 1
    rw [List.take_append, List.take_of_length_le (by omega), List.take_take, show min (P - (recs rs).length) k = P - (recs rs).length from by omega]
theorem cutI_last (b : List UInt8) : ∀ (rs : List (List UInt8)) (k : Nat), k ≤ 8 + b.length → cutI (rs ++ [b]) ((recs rs).length + k) = if k < 8 + b.length then (rs.length, (recs rs).length) else (rs.length + 1, (recs rs).length + (8 + b.length))
  | [], k, hk => by
    simp only [List.nil_append, recs_nil, List.length_nil, Nat.zero_add, cutI]
    split
    · rfl
    · simp
  | a :: r, k, hk => by
    have ih := cutI_last b r k hk
    have hl : (recs (a :: r)).length = 8 + a.length + (recs r).length := by rw [recs_cons, List.length_append, record_length]
    simp only [List.cons_append, cutI]
    rw [if_neg (by omega), show (recs (a :: r)).length + k - (8 + a.length) = (recs r).length + k from by omega, ih]
    split
    · simp [hl]
    · simp [hl]; omega
theorem scan_whole {rs : List (List UInt8)} (hok : ∀ x ∈ rs, okLen x.length = true) : scan (recs rs) = (rs, (recs rs).length, 0) := by
  have h := cut_scan rs (recs rs).length hok (Nat.le_refl _)
  have hc : ∀ rs : List (List UInt8), cutI rs (recs rs).length = (rs.length, (recs rs).length) := by
    intro rs
    induction rs with
    | nil => rfl
    | cons a r ih =>
      have hl : (recs (a :: r)).length = 8 + a.length + (recs r).length := by rw [recs_cons, List.length_append, record_length]
      simp only [cutI]
      rw [if_neg (by omega), show (recs (a :: r)).length - (8 + a.length) = (recs r).length from by omega, ih]
      simp [hl]
  rw [hc rs, List.take_of_length_le (Nat.le_refl _), List.take_of_length_le (Nat.le_refl _)] at h
  simpa using h
theorem walFs_bs {fs : Fs} {nm : ByteArray} {rs : List (List UInt8)} (h : WalFs fs nm rs) : bsOf fs nm = recs rs := by
  unfold bsOf
  rcases h.2 with ⟨h1, rfl⟩ | h1
  · rw [h1]; rfl
  · rw [h1]
/-- a whole log is opened as it is -/
theorem openD_whole (d : Dk) {fs : Fs} {nm : ByteArray} {rs : List (List UInt8)} (h : WalFs fs nm rs) : openD d fs nm = (.inl 0, d, fs) ∧ (scan (bsOf fs nm)).1 = rs ∧ (scan (bsOf fs nm)).2.1 = (recs rs).length := by
  have hs := scan_whole h.1
  unfold openD
  rw [walFs_bs h, hs]
  exact ⟨if_pos rfl, rfl, rfl⟩
theorem begin_rest {d : Dk} (ha : d.armedIn = 0) : d.begin.armedIn = 0 := by unfold Dk.begin; simp [ha]
theorem syncs_rest {d : Dk} (hf : d.failIn = 0) : d.syncs.failIn = 0 := by unfold Dk.syncs; simp [hf]
theorem trunc_rest {d : Dk} {fs : Fs} {nm : ByteArray} {n : Int} (ha : d.armedIn = 0) (hf : d.failIn = 0) : (opTrunc d fs nm n).2.1.armedIn = 0 ∧ (opTrunc d fs nm n).2.1.failIn = 0 := by
  unfold opTrunc
  split
  · exact ⟨ha, hf⟩
  · split
    · exact ⟨ha, hf⟩
    · unfold opChange
      rw [if_neg (by omega)]
      exact ⟨begin_rest ha, hf⟩
theorem sync_rest {d : Dk} {fs : Fs} {nm : ByteArray} (ha : d.armedIn = 0) (hf : d.failIn = 0) : (opSync d fs nm).2.1.armedIn = 0 ∧ (opSync d fs nm).2.1.failIn = 0 := by
  unfold opSync
  split
  · exact ⟨ha, hf⟩
  · unfold opChange
    rw [if_neg (by omega)]
    exact ⟨begin_rest (d := d.syncs) ha, syncs_rest hf⟩
/-- a log that was cut off is opened with its whole records -/
theorem openD_half {d : Dk} {fs : Fs} {nm : ByteArray} {rs : List (List UInt8)} {b : List UInt8} {k : Nat} (ha : d.armedIn = 0) (hf : d.failIn = 0) (hb : okLen b.length = true) (hok : ∀ x ∈ rs, okLen x.length = true) (hk : k ≤ (record b).length)
    (hg : fget fs nm = some ⟨recs rs ++ (record b).take k, (recs rs).length + k⟩) :
    ∃ rs', (rs' = rs ∨ rs' = rs ++ [b]) ∧ (scan (bsOf fs nm)).1 = rs' ∧ (scan (bsOf fs nm)).2.1 = (recs rs').length ∧ (openD d fs nm).1 = .inl 0 ∧ WalFs (openD d fs nm).2.2 nm rs' ∧ (openD d fs nm).2.1.armedIn = 0 ∧ (openD d fs nm).2.1.failIn = 0 := by
  have hbs : bsOf fs nm = recs rs ++ (record b).take k := by unfold bsOf; rw [hg]
  have hrl := record_length b
  have hok2 : ∀ x ∈ rs ++ [b], okLen x.length = true := fun x hx => by
    rcases List.mem_append.1 hx with hx | hx
    · exact hok x hx
    · rw [List.mem_singleton.1 hx]; exact hb
  rcases Nat.lt_or_ge k (8 + b.length) with hlt | hge
  · have hc := cut_scan (rs ++ [b]) ((recs rs).length + k) hok2 (by rw [recs_snoc, List.length_append]; omega)
    rw [cutI_last b rs k (by omega), if_pos hlt] at hc
    have ht : (recs (rs ++ [b])).take ((recs rs).length + k) = recs rs ++ (record b).take k := by
      rw [recs_snoc, List.take_append, List.take_of_length_le (by omega), show (recs rs).length + k - (recs rs).length = k from by omega]
    rw [ht, List.take_left' rfl] at hc
    refine ⟨rs, .inl rfl, by rw [hbs, hc], by rw [hbs, hc], ?_⟩
    have hlen : (recs rs ++ (record b).take k).length = (recs rs).length + k := by rw [List.length_append, List.length_take]; omega
    unfold openD
    rw [hbs, hc, hlen]
    simp only
    by_cases h0 : k = 0
    · rw [if_pos (by omega)]
      refine ⟨rfl, ⟨hok, .inr ?_⟩, ha, hf⟩
      show fget fs nm = _
      rw [hg, h0]; simp
    · rw [if_neg (by omega)]
      have htr := trunc_get (d := d) (n := (recs rs).length) hg (by simp)
      have hr := trunc_rest (fs := fs) (nm := nm) (n := ((recs rs).length : Int)) ha hf
      generalize opTrunc d fs nm ((recs rs).length : Int) = r at htr hr
      obtain ⟨y, d1, fs1⟩ := r
      rcases htr with ⟨h1, h2⟩ | ⟨op, _, h1, _⟩
      · obtain rfl : y = .inl 0 := h1
        show (opSync d1 fs1 nm).1 = .inl 0 ∧ WalFs (opSync d1 fs1 nm).2.2 nm rs ∧ (opSync d1 fs1 nm).2.1.armedIn = 0 ∧ (opSync d1 fs1 nm).2.1.failIn = 0
        have hr2 := sync_rest (fs := fs1) (nm := nm) hr.1 hr.2
        have hs := sync_get (d := d1) h2
        rcases hs with ⟨h3, h4⟩ | ⟨_, h3, _⟩ | ⟨op, _, h3, _⟩
        · refine ⟨h3, ⟨hok, .inr ?_⟩, hr2.1, hr2.2⟩
          rw [h4]
          simp [trFl]
        · have := hr.2; simp only at this; omega
        · have := hr.1; simp only at this; omega
      · omega
  · have hke : k = (record b).length := by omega
    have hall : recs rs ++ (record b).take k = recs (rs ++ [b]) := by rw [recs_snoc, hke, List.take_of_length_le (Nat.le_refl _)]
    have hw : WalFs fs nm (rs ++ [b]) := ⟨hok2, .inr (by rw [hg, hall, recs_snoc, List.length_append, hke])⟩
    obtain ⟨h1, h2, h3⟩ := openD_whole d hw
    exact ⟨rs ++ [b], .inr rfl, h2, h3, by rw [h1], by rw [h1]; exact hw, by rw [h1]; exact ha, by rw [h1]; exact hf⟩
end Go.Proofs.Ythblbmbefhlbjaa

/- Layer 14: a log, and the methods that only read it, walked. -/
namespace Go.Proofs.Ythblbmbefhlbjaa
open Go.RowKit Go.MapKept

abbrev TL : TypeId := 79
abbrev pL (L : Nat) : Value := .pointer (some ⟨L, 0, none⟩)
abbrev lgCells (D : Nat) (nm : ByteArray) (v : Value) (g : Nat) : Array Value := #[pD D, .string nm, v, .int .i64 (g : Int)]
/-- the log's block and the disk's blocks -/
def LT (L D M : Nat) (F : List Ent) (k : Nat) : Prop := k = L ∨ DFoot D M F k
/-- a log at block L: its records, and how many bytes these have -/
structure LgAt (E : Nat → Prop) (w : World) (B L D M : Nat) (F : List Ent) (nm : ByteArray) (rs : List (List UInt8)) (g : Nat) (v : Value) : Prop where
  row : w.heap[L]? = some (.cells (lgCells D nm v g) TL)
  base : B ≤ L
  off : ¬ DFoot D M F L
  rw : Rw B (fun k => LT L D M F k ∨ E k) w v rs
section
variable {E : Nat → Prop} {w w' : World} {B L D M g : Nat} {d d' : Dk} {F F' : List Ent} {nm : ByteArray} {rs : List (List UInt8)} {v : Value}
theorem LgAt.lt (h : LgAt E w B L D M F nm rs g v) : L < w.heap.size := (Array.getElem?_eq_some_iff.1 h.row).1
theorem LgAt.cell (h : LgAt E w B L D M F nm rs g v) (j : Nat) : w.cell? ⟨L, j, none⟩ = (lgCells D nm v g)[j]? := cell_of_row w L j _ _ _ h.row
theorem LgAt.frozen (h : LgAt E w B L D M F nm rs g v) (j : Nat) : w.frozen? ⟨L, j, none⟩ = false := by simp [World.frozen?, h.row]
theorem DkCh.dfoot (c : DkCh D M F F' w w') {k : Nat} (hk : DFoot D M F' k) : DFoot D M F k ∨ w.heap.size ≤ k := by
  rcases hk with hk | hk | hk
  · exact .inl (.inl hk)
  · exact .inl (.inr (.inl hk))
  · rcases c.foot k hk with h | h
    · exact .inl (.inr (.inr h))
    · exact .inr h
theorem LgAt.dkch (h : LgAt E w B L D M F nm rs g v) (c : DkCh D M F F' w w') : LgAt E w' B L D M F' nm rs g v :=
  ⟨c.ch.row h.row h.off, h.base, fun hk => by
    rcases c.dfoot hk with h1 | h1
    · exact h.off h1
    · have := h.lt; omega, h.rw.ch c.ch (fun _ _ hk => .inl (.inr hk)) (fun k hk ht => by
    rcases ht with (ht | ht) | ht
    · exact .inl (.inl ht)
    · rcases c.dfoot ht with h1 | h1
      · exact .inl (.inr h1)
      · omega
    · exact .inr ht)⟩
theorem LgAt.below (h : LgAt E w B L D M F nm rs g v) (hb : Below w.heap.size w w') : LgAt E w' B L D M F nm rs g v := h.dkch (DkCh.of_below hb)
/-- its blocks, and those of its disk -/
def WFoot (L D M : Nat) (F : List Ent) (v : Value) (k : Nat) : Prop := LT L D M F k ∨ v.ownBlock = some k
structure WlCh (L D M : Nat) (F F' : List Ent) (v v' : Value) (w w' : World) : Prop where
  ch : Ch (WFoot L D M F v) w w'
  foot : ∀ k, WFoot L D M F' v' k → WFoot L D M F v k ∨ w.heap.size ≤ k
theorem WlCh.of_dk (c : DkCh D M F F' w w') : WlCh L D M F F' v v w w' :=
  ⟨(Ch.refl _ w).trans c.ch (fun _ _ hk => .inl (.inr hk)), fun k hk => by
    rcases hk with (hk | hk) | hk
    · exact .inl (.inl (.inl hk))
    · rcases c.dfoot hk with h | h
      · exact .inl (.inl (.inr h))
      · exact .inr h
    · exact .inl (.inr hk)⟩
theorem WlCh.trans {w1 : World} {F1 : List Ent} {v1 v' : Value} (h : WlCh L D M F F1 v v1 w w1) (k : WlCh L D M F1 F' v1 v' w1 w') : WlCh L D M F F' v v' w w' :=
  ⟨h.ch.trans k.ch (fun x hx hf => by
    rcases h.foot x hf with h1 | h1
    · exact h1
    · omega), fun x hx => by
    rcases k.foot x hx with h1 | h1
    · exact h.foot x h1
    · exact .inr (Nat.le_trans h.ch.size h1)⟩
theorem WlCh.of_below (hb : Below w.heap.size w w') : WlCh L D M F F v v w w' := WlCh.of_dk (DkCh.of_below hb)
theorem LgAt.foot_lt (h : LgAt E w B L D M F nm rs g v) (hd : DkAt w B D M d F) {k : Nat} (hk : WFoot L D M F v k) : B ≤ k ∧ k < w.heap.size := by
  rcases hk with (hk | hk) | hk
  · rw [hk]; exact ⟨h.base, h.lt⟩
  · exact hd.foot_lt hk
  · obtain ⟨vs, hv⟩ := h.rw
    exact World.ownsRow.lt hv.2.1 k hk
theorem WlCh.below (h : LgAt E w B L D M F nm rs g v) (hd : DkAt w B D M d F) {v' : Value} (c : WlCh L D M F F' v v' w w') (hB : B ≤ w.heap.size) : Below B w w' :=
  c.ch.below (fun _ hk => (h.foot_lt hd hk).1) hB
/-- blocks that are new are avoided too -/
theorem Rw.widen {T T' : Nat → Prop} (h : Rw B T w v rs) (hT : ∀ k, T' k → T k ∨ w.heap.size ≤ k) : Rw B T' w v rs := by
  obtain ⟨vs, h1, h2, h3, h4, h5⟩ := h
  refine ⟨vs, h1, h2, h3, fun k hk ht => ?_, fun i u x a b => ?_⟩
  · rcases hT k ht with h6 | h6
    · exact h4 k hk h6
    · have := (World.ownsRow.lt h2 k hk).2; omega
  · obtain ⟨A, c, e, hb, hne⟩ := h5 i u x a b
    refine ⟨A, c, e, hb, fun h0 b' hb' => ⟨(hne h0 b' hb').1, fun ht => ?_⟩⟩
    rcases hT _ ht with h6 | h6
    · exact (hne h0 b' hb').2 h6
    · obtain ⟨b2, o2, e2, hlt, _⟩ := hb.at_ h0
      rw [hb'] at e2; injection e2 with e2; subst e2; simp only at h6; omega
theorem LgAt.widen {E' : Nat → Prop} (h : LgAt E w B L D M F nm rs g v) (hE : ∀ k, E' k → E k ∨ w.heap.size ≤ k) : LgAt E' w B L D M F nm rs g v :=
  ⟨h.row, h.base, h.off, h.rw.widen (fun k hk => by
    rcases hk with hk | hk
    · exact .inl (.inl hk)
    · rcases hE k hk with h1 | h1
      · exact .inl (.inr h1)
      · exact .inr h1)⟩
/-- a change of blocks that are avoided -/
theorem LgAt.chE {S : Nat → Prop} (h : LgAt E w B L D M F nm rs g v) (c : Ch S w w') (hS : ∀ k, k < w.heap.size → S k → E k) (hL : ¬ S L) : LgAt E w' B L D M F nm rs g v :=
  ⟨c.row h.row hL, h.base, h.off, h.rw.ch c (fun k hk hs => .inr (hS k hk hs)) (fun _ _ ht => ht)⟩
/-- the i-th record's slice -/
theorem LgAt.get (h : LgAt E w B L D M F nm rs g v) {i : Nat} (hi : i < rs.length) : ∃ b o c A k, v = .slice (some ⟨b, o, none⟩) rs.length c ∧ rs.length ≤ c ∧ c ≤ maxLen ∧ w.cell? ⟨b, o + i, none⟩ = some (.slice A (rs.getD i []).length k) ∧ Bs w A (rs.getD i []).length k (rs.getD i []) := by
  obtain ⟨A, c, e, hr⟩ := h.rw.rd
  obtain ⟨b, o, rfl, hlt, hc⟩ := hr.2.2.2 (by omega)
  obtain ⟨A', k, hx, hb⟩ := hc i (rs.getD i []) (by rw [List.getD_eq_getElem?_getD, List.getElem?_eq_getElem hi]; rfl)
  exact ⟨b, o, c, A', k, e, hr.2.1, hr.2.2.1, hx, hb⟩

set_option maxRecDepth 100000 in
set_option maxHeartbeats 2000000 in
theorem walLen (h : LgAt E w B L D M F nm rs g v) : Calls Try.prog 14 #[pL L] w fun e w' => e = .returned (.int .i64 (rs.length : Int)) ∧ w' = w := by
  obtain ⟨A, c, rfl⟩ := h.rw.form
  have c2 := h.cell 2
  simp only [List.getElem?_toArray, List.getElem?_cons_zero, List.getElem?_cons_succ] at c2
  clear h
  go_enter Try.func14, Try.ntmps14
  go_wp2_with (fail)
  go_ret
  exact ⟨rfl, rfl⟩
set_option maxRecDepth 100000 in
set_option maxHeartbeats 2000000 in
theorem walGood (h : LgAt E w B L D M F nm rs g v) : Calls Try.prog 15 #[pL L] w fun e w' => e = .returned (.int .i64 (g : Int)) ∧ w' = w := by
  have c3 := h.cell 3
  simp only [List.getElem?_toArray, List.getElem?_cons_zero, List.getElem?_cons_succ] at c3
  clear h
  go_enter Try.func15, Try.ntmps15
  go_wp2_with (fail)
  go_ret
  exact ⟨rfl, rfl⟩
/-- bytes in a block of their own -/
def RetC (w : World) (l : List UInt8) (e : Ending) (w' : World) : Prop := ∃ b, e = .returned (.slice (some ⟨b, 0, none⟩) l.length l.length) ∧ w.heap.size ≤ b ∧ w'.heap[b]? = some (.cells (u8s l).toArray 5) ∧ Below w.heap.size w w'
set_option maxRecDepth 100000 in
set_option maxHeartbeats 2000000 in
theorem walClone (A : Option Addr) (n c : Nat) (l : List UInt8) (w : World) (hB : Bs w A n c l) (hm : n ≤ 140737488355328) : Calls Try.prog 42 #[.slice A n c] w (RetC w l) := by
  have hnm := hB.nmax
  have hl := hB.len
  subst hl
  obtain ⟨Z, HZ, hzl, hmk⟩ := mk_zeros ((l.length : Nat) : Int) l.length rfl (by omega)
  have HZL := Lib.hid hzl
  have HB := Lib.hid hB
  have tok2 : Hid True := Lib.hid trivial
  clear hB hzl
  go_enter Try.func42, Try.ntmps42
  go_wp2_with (have _t := tok2; with_reducible show wpList _ _ _ _ _ _; refine wpList_cpyTo rfl (.tmp 7) (.tmp 8) 27 27 rfl 5 Try.underlying27 byteInfo w.heap.size 0 _ _ _ rfl Z 5 (heap_alloc_new w _) A l.length l.length c l rfl (HB.out.alloc _) (fun _ => rfl) (by omega) (by rw [HZL.out]; omega) ?_; intro w1 hw1 hb1; have HB1 := Lib.hid hb1; clear hb1 tok2 _t)
  go_ret
  have hr := hw1.out
  rw [List.take_zero, List.nil_append, List.drop_of_length_le (by rw [HZL.out]; omega), List.append_nil] at hr
  exact ⟨w.heap.size, rfl, Nat.le_refl _, hr, ((Below.refl _ w).alloc (Nat.le_refl _) _).trans (HB1.out.mono (Nat.le_refl _))⟩
/-- what Get answers -/
def GetEnd (w : World) (l : List UInt8) (x : Int) (e : Ending) (w' : World) : Prop := ∃ A c, e = .returned (.tuple #[.slice A l.length c, .int .i64 x]) ∧ Bs w' A l.length c l ∧ (0 < l.length → ∀ b, A = some b → w.heap.size ≤ b.block ∧ b.off = 0 ∧ w'.heap[b.block]? = some (.cells (u8s l).toArray 5)) ∧ Below w.heap.size w w'
set_option maxRecDepth 100000 in
set_option maxHeartbeats 2000000 in
theorem walGet_out (h : LgAt E w B L D M F nm rs g v) (i : Int) (hi : i < 0 ∨ (rs.length : Int) ≤ i) : Calls Try.prog 16 #[pL L, .int .i64 i] w (GetEnd w [] 3) := by
  obtain ⟨A, c, rfl⟩ := h.rw.form
  have c2 := h.cell 2
  simp only [List.getElem?_toArray, List.getElem?_cons_zero, List.getElem?_cons_succ] at c2
  clear h
  by_cases h0 : i < 0
  · have d0 : decide (i < 0) = true := by simpa using h0
    clear h0 hi
    go_enter Try.func16, Try.ntmps16
    go_wp2_with (fail)
    go_ret2
    exact ⟨none, 0, rfl, Bs.nil _ 0 none (by simp [maxLen]), fun h => absurd h (by decide), Below.refl _ _⟩
  · have d0 : decide (i < 0) = false := by simpa using h0
    have d1 : decide ((rs.length : Int) ≤ i) = true := by simp; omega
    clear h0 hi
    go_enter Try.func16, Try.ntmps16
    go_wp2_with (fail)
    go_ret2
    exact ⟨none, 0, rfl, Bs.nil _ 0 none (by simp [maxLen]), fun h => absurd h (by decide), Below.refl _ _⟩
set_option maxRecDepth 100000 in
set_option maxHeartbeats 2000000 in
theorem walGet (h : LgAt E w B L D M F nm rs g v) (i : Nat) (hi : i < rs.length) (hx : (rs.getD i []).length ≤ 65536) : Calls Try.prog 16 #[pL L, .int .i64 (i : Int)] w (GetEnd w (rs.getD i []) 0) := by
  obtain ⟨b, o, c, A, k, rfl, h1, h2, hc, hb⟩ := h.get hi
  have c2 := h.cell 2
  simp only [List.getElem?_toArray, List.getElem?_cons_zero, List.getElem?_cons_succ] at c2
  have HB := Lib.hid hb
  have d0 : decide ((i : Int) < 0) = false := by simp
  have d1 : decide ((rs.length : Int) ≤ (i : Int)) = false := by simp; omega
  have d2 : (i : Int) < (rs.length : Int) := by omega
  have d3 : (0 : Int) ≤ (i : Int) := by omega
  clear h hb hi
  go_enter Try.func16, Try.ntmps16
  go_wp2_with (fail)
  refine (walClone A _ k (rs.getD i []) w HB.out (by omega)).mono ?_
  rintro e w1 ⟨q, rfl, hq, hr, hb1⟩
  have HP : Hid (GetEnd w (rs.getD i []) 0 (.returned (.tuple #[.slice (some ⟨q, 0, none⟩) (rs.getD i []).length (rs.getD i []).length, .int .i64 0])) w1) := Lib.hid ⟨_, _, rfl, Bs.block hr rfl HB.out.nmax, fun _ b hb => by injection hb with hb; subst hb; exact ⟨hq, rfl, hr⟩, hb1⟩
  clear hq hr hb1
  go_wp2_with (fail)
  go_ret2
  exact HP.out
end
end Go.Proofs.Ythblbmbefhlbjaa

/- Layer 14: a log's last bytes taken back, walked. -/
namespace Go.Proofs.Ythblbmbefhlbjaa
open Go.RowKit Go.MapKept

/-- how a method without an answer ends -/
def endU : Int ⊕ Int → Ending
  | .inl _ => .returned (.tuple #[])
  | .inr op => .panicked [{ v := crashI op, recovered := false }]
def UEnds (B D M : Nat) (F : List Ent) (w : World) (r : Out) (e : Ending) (w' : World) : Prop :=
  ∃ F', e = endU r.1 ∧ DkAt w' B D M r.2.1 F' ∧ DkCh D M F F' w w' ∧ fsOf F' = r.2.2
section
variable {E : Nat → Prop} {w w' : World} {B L D M g : Nat} {d d' : Dk} {F F' : List Ent} {nm : ByteArray} {rs : List (List UInt8)} {v : Value}
set_option maxRecDepth 100000 in
set_option maxHeartbeats 4000000 in
theorem walTakeBack (h : LgAt E w B L D M F nm rs g v) (hd : DkAt w B D M d F) (ok : FsOk d (fsOf F)) : Calls Try.prog 41 #[pL L] w (UEnds B D M F w (opTrunc d (fsOf F) nm (g : Int))) := by
  have c0 : ∀ n : Here w.drew, n.u.cell? ⟨L, 0, none⟩ = some (pD D) := Here.cell (h.cell 0)
  have c1 : ∀ n : Here w.drew, n.u.cell? ⟨L, 1, none⟩ = some (.string nm) := Here.cell (h.cell 1)
  have c3 : ∀ n : Here w.drew, n.u.cell? ⟨L, 3, none⟩ = some (.int .i64 (g : Int)) := Here.cell (h.cell 3)
  have HD : Hid (DkAt w.drew B D M d F) := Lib.hid (hd.below (Below.refl _ w).drew)
  have HC : Hid (DkCh D M F F w w.drew) := Lib.hid (DkCh.of_below (Below.refl _ w).drew)
  have OK := Lib.hid ok
  clear h hd ok
  go_enter Try.func41, Try.ntmps41
  go_wp2_with (fail)
  refine region_tail 12 (by kernel_rfl) (by kernel_rfl) ?_
  simp only [List.take_succ_cons, List.take_zero, List.drop_succ_cons, List.drop_zero]
  repeat (go_big_quiet_step (fail))
  refine wpQuiet_nil ?_
  clear c0 c1 c3
  generalize w.drew = w1 at *
  go_wp2_with (fail)
  refine (mTrunc HD.out OK.out nm (g : Int)).mono ?_
  rintro e w2 ⟨F2, he, h2, hc2, hf2⟩
  generalize opTrunc d (fsOf F) nm (g : Int) = r at *
  obtain ⟨y | op, d2, fs2⟩ := r
  · obtain rfl : e = .returned (.int .i64 y) := he
    have HP : Hid (UEnds B D M F w (.inl y, d2, fs2) (.returned (.tuple #[])) w2) := Lib.hid ⟨F2, rfl, h2, HC.out.trans hc2, hf2⟩
    clear h2 hc2 hf2
    go_wp2_with (fail)
    go_end0
    exact HP.out
  · obtain rfl : e = .panicked [{ v := crashI op, recovered := false }] := he
    exact ⟨rfl, F2, rfl, h2, HC.out.trans hc2, hf2⟩
end
end Go.Proofs.Ythblbmbefhlbjaa

/- Layer 14: a record kept, walked. -/
namespace Go.Proofs.Ythblbmbefhlbjaa
open Go.RowKit Go.MapKept

def endAW : Int × (Int ⊕ Int) → Ending
  | (n, .inl x) => .returned (.tuple #[.int .i64 n, .int .i64 x])
  | (_, .inr op) => .panicked [{ v := crashI op, recovered := false }]
def AEndsW (B D M : Nat) (F : List Ent) (w : World) (r : OutN) (e : Ending) (w' : World) : Prop :=
  ∃ F', e = endAW r.1 ∧ DkAt w' B D M r.2.1 F' ∧ DkCh D M F F' w w' ∧ fsOf F' = r.2.2
section
variable {w : World} {B D M : Nat} {d : Dk} {F : List Ent}
theorem mAppendW (h : DkAt w B D M d F) (ok : FsOk d (fsOf F)) (nm : ByteArray) (hs : nm.size ≤ 140737488355328) (A : Option Addr) (m c : Nat) (l : List UInt8) (hl : Bs w A m c l) (hBw : B ≤ w.heap.size) :
    Calls Try.prog 28 #[pD D, .string nm, .slice A m c] w (AEndsW B D M F w (appO d (fsOf F) nm l)) := by
  have hm := hl.len
  unfold appO
  cases hn : nameD nm
  · rw [if_pos rfl]
    refine (dkAppend_name w D nm hs hn A m c).mono ?_
    rintro e w' ⟨rfl, rfl⟩
    exact ⟨F, rfl, h, DkCh.refl D M F w, rfl⟩
  · rw [if_neg (by decide)]
    by_cases h1 : d.armedIn = 1
    · rw [if_pos h1, hm]
      refine (dkAppend_lost h ok.ok ok.dk.lens nm hn hs A m c l hl hBw h1).mono ?_
      rintro e w' ⟨he, F', h2, h3, h4⟩
      exact ⟨F', he, h2, h3, h4⟩
    · rw [if_neg h1, hm]
      refine (dkAppend_ok h ok.ok ok.dk.lens nm hn hs A m c l hl hBw h1).mono ?_
      rintro e w' ⟨he, F', h2, h3, h4⟩
      exact ⟨F', he, h2, h3, h4⟩
end
theorem trunc_opsW (d : Dk) (fs : Fs) (a : ByteArray) (n : Int) : (opTrunc d fs a n).2.1.ops ≤ d.ops + 1 := by
  have := callD_ops (d := d) (fs := fs) 1 n 0 a a []
  simpa [callD, liftO] using this
theorem sync_opsW (d : Dk) (fs : Fs) (a : ByteArray) : (opSync d fs a).2.1.ops ≤ d.ops + 1 := by
  have := callD_ops (d := d) (fs := fs) 2 0 0 a a []
  simpa [callD, liftO] using this
theorem app_opsW (d : Dk) (fs : Fs) (a : ByteArray) (l : List UInt8) : (appO d fs a l).2.1.ops ≤ d.ops + 1 := by
  have := callD_ops (d := d) (fs := fs) 0 0 0 a a l
  simpa [callD] using this
theorem app_okW {d : Dk} {fs : Fs} (h : FsOk d fs) (ho : d.ops + 1 ≤ 1152921504606846976) (a : ByteArray) (l : List UInt8) : FsOk (appO d fs a l).2.1 (appO d fs a l).2.2 := by
  have := callD_ok h ho 0 0 0 (by decide) (by decide) a a l
  simpa [callD] using this
theorem app_numW (d : Dk) (fs : Fs) (a : ByteArray) (l : List UInt8) : ∃ k : Nat, (appO d fs a l).1.1 = (k : Int) := by
  unfold appO
  split
  · exact ⟨0, rfl⟩
  · split
    · exact ⟨0, rfl⟩
    · exact ⟨_, rfl⟩
/-- 'append(l, x)' in a region that draws its order -/
theorem step_rwW {ops : Array Oper} {o : Oper} {a : Act} {w : World} {K : Act → World → Prop} {Q : Exit → Act → World → Prop} {E : Prop} (hgd : o.guard = none) (s y : Operand)
    (ho : o.op = .call { callee := .builtin .append, args := #[s, y], argTypes := #[47, 47] }) (B : Nat) (T : Nat → Prop) (v : Value) (L : List (List UInt8)) (x : List UInt8) (A : Option Addr) (c : Nat) (hs : a.eval s = v) (hw : Rw B T w v L) (hx : Bs w A x.length c x)
    (hlt : 0 < x.length → ∀ b, A = some b → ¬ v.ownBlock = some b.block ∧ ¬ T b.block) (hTn : ¬ T w.heap.size)
    (g : Nat) (hy : a.eval y = .slice (some ⟨g, 0, none⟩) 1 1) (hg : w.heap[g]? = some (.cells #[.slice A x.length c] 27)) (hn : L.length ≤ 1099511627770) (hB : B ≤ w.heap.size)
    (h : ∀ v' w', Rw B T w' v' (L ++ [x]) → w.grownBy w' v.ownBlock → (v'.ownBlock = v.ownBlock ∨ v'.ownBlock = some w.heap.size) → K (a.put o.dst v') w') :
    if Region.wanted o (yielded ops a.tmps) = true then Oper.wp Try.prog o a w K Q else E := by
  have hwt : Region.wanted o (yielded ops a.tmps) = true := by simp [Region.wanted, hgd]
  rw [if_pos hwt]
  obtain ⟨vs, hw⟩ := hw
  obtain ⟨i, hi, hzz⟩ := Option.map_eq_some_iff.1 rowsInfo
  simp only [Prod.mk.injEq] at hzz
  obtain ⟨v', w', hrun, h2, h3, _, h5⟩ := run_append_own_at (P := Try.prog) w B 47 o.type 27 i (.slice none 0 0) 1 24 Try.underlying47 hi hzz.1 hzz.2.1 hzz.2.2 rfl (by decide) v L.length vs hw.2.1 ⟨g, 0, none⟩ 1 1 [.slice A x.length c] rfl
    (fun j z hz => by
      have hj : j = 0 := by
        rcases Nat.lt_or_ge j 1 with h | h
        · omega
        · rw [List.getElem?_eq_none (by simpa using h)] at hz; cases hz
      subst hj
      rw [Addr.add_lit, Nat.zero_add, cell_of_row w g 0 _ _ _ hg]
      exact hz) (fun z hz => by simp at hz; subst hz; rfl) (by simp only [maxLen]; omega) (by omega) hB
  unfold Oper.wp
  simp [execOp, ho, resolve, invoke, builtin, hs, hy, hrun, Result.andThen]
  exact h v' w' ⟨_, hw.more hx hlt hTn h2 h3 h5⟩ h3 h5
section
variable {E : Nat → Prop} {w w' : World} {B L D M g : Nat} {d d' : Dk} {F F' : List Ent} {nm : ByteArray} {rs : List (List UInt8)} {v : Value}
theorem Rw.lt {T : Nat → Prop} (h : Rw B T w v rs) {k : Nat} (hk : v.ownBlock = some k) : B ≤ k ∧ k < w.heap.size := by
  obtain ⟨vs, hv⟩ := h
  exact World.ownsRow.lt hv.2.1 k hk
theorem Rw.offT {T : Nat → Prop} (h : Rw B T w v rs) {k : Nat} (hk : v.ownBlock = some k) : ¬ T k := by
  obtain ⟨vs, hv⟩ := h
  exact hv.2.2.2.1 k hk
/-- the records' row in another place, and the field stored -/
theorem LgAt.app {v2 : Value} {Z : List (List UInt8)} {w2 : World} (h : LgAt E w B L D M F nm rs g v) (hd : DkAt w B D M d F) (hw : Rw B (fun k => LT L D M F k ∨ E k) w2 v2 Z) (hg : w.grownBy w2 v.ownBlock) (hf : v2.ownBlock = v.ownBlock ∨ v2.ownBlock = some w.heap.size) :
    w2.cell? ⟨L, 2, none⟩ = some v ∧ w2.frozen? ⟨L, 2, none⟩ = false ∧ Hid (LgAt E (w2.setCell ⟨L, 2, none⟩ v2) B L D M F nm Z g v2 ∧ DkAt (w2.setCell ⟨L, 2, none⟩ v2) B D M d F ∧ WlCh L D M F F v v2 w (w2.setCell ⟨L, 2, none⟩ v2)) := by
  have hch : Ch (fun k => v.ownBlock = some k) w w2 := Ch.of_grown hg (fun k hk => hk)
  have hoff : ∀ k, v.ownBlock = some k → ¬ LT L D M F k := fun k hk hl => h.rw.offT hk (.inl hl)
  have r := hch.row h.row (fun e => hoff _ e (.inl rfl))
  have hd2 : DkAt w2 B D M d F := hd.ch hch (fun k hk hs => hoff k hs (.inr hk))
  have hcs : Ch (At1 L) w2 (w2.setCell ⟨L, 2, none⟩ v2) := (Ch.refl _ w2).set1 2 _
  refine ⟨by rw [cell_of_row w2 L 2 _ _ _ r]; rfl, by simp [World.frozen?, r], Lib.hid ⟨⟨heap_set_row r v2, h.base, h.off, hw.ch hcs (fun k _ hk => .inl (.inl hk)) (fun _ _ hk => hk)⟩, hd2.ch hcs (fun k hk hs => by rw [show k = L from hs] at hk; exact h.off hk), ?_, ?_⟩⟩
  · exact ((Ch.refl (WFoot L D M F v) w).trans hch (fun k _ hk => .inr hk)).trans hcs (fun k _ hk => .inl (.inl hk))
  · intro k hk
    rcases hk with hk | hk
    · exact .inl (.inl hk)
    · rcases hf with q | q
      · exact .inl (.inr (by rw [← q]; exact hk))
      · rw [q] at hk; injection hk with hk; exact .inr (by omega)
theorem LgAt.setGood (h : LgAt E w B L D M F nm rs g v) (hd : DkAt w B D M d F) (k : Nat) : LgAt E (w.setCell ⟨L, 3, none⟩ (.int .i64 (k : Int))) B L D M F nm rs k v ∧ DkAt (w.setCell ⟨L, 3, none⟩ (.int .i64 (k : Int))) B D M d F ∧ WlCh L D M F F v v w (w.setCell ⟨L, 3, none⟩ (.int .i64 (k : Int))) := by
  have hcs : Ch (At1 L) w (w.setCell ⟨L, 3, none⟩ (.int .i64 (k : Int))) := (Ch.refl _ w).set1 3 _
  exact ⟨⟨heap_set_row h.row _, h.base, h.off, h.rw.ch hcs (fun k _ hk => .inl (.inl hk)) (fun _ _ hk => hk)⟩, hd.ch hcs (fun k hk hs => by rw [show k = L from hs] at hk; exact h.off hk), ⟨(Ch.refl (WFoot L D M F v) w).trans hcs (fun k _ hk => .inl (.inl hk)), fun _ hk => .inl hk⟩⟩

/-- what keep leaves -/
def KEnd (E : Nat → Prop) (B L D M : Nat) (F : List Ent) (nm : ByteArray) (rs : List (List UInt8)) (g : Nat) (v : Value) (w : World) (l : List UInt8) (n : Nat) (r : Out) (e : Ending) (w' : World) : Prop :=
  ∃ F' v', e = endM r.1 ∧ DkAt w' B D M r.2.1 F' ∧ fsOf F' = r.2.2 ∧ LgAt E w' B L D M F' nm (if r.1 = .inl 0 then rs ++ [l] else rs) (if r.1 = .inl 0 then g + n else g) v' ∧ WlCh L D M F F' v v' w w'
theorem KEnd.undo {B L D M : Nat} {F F2 : List Ent} {w2 : World} {l : List UInt8} {n : Nat} {x : Int} (hx : x ≠ 0) {r : Out} {e : Ending} {w3 : World} (h : LgAt E w2 B L D M F2 nm rs g v) (c : WlCh L D M F F2 v v w w2) (hu : UEnds B D M F2 w2 r e w3) :
    (∃ op, r.1 = .inr op ∧ e = .panicked [{ v := crashI op, recovered := false }] ∧ KEnd E B L D M F nm rs g v w l n (undo_ x r) (.panicked [{ v := crashI op, recovered := false }]) w3) ∨ (e = .returned (.tuple #[]) ∧ KEnd E B L D M F nm rs g v w l n (undo_ x r) (.returned (.int .i64 x)) w3) := by
  obtain ⟨F3, he, h3, hc3, hf3⟩ := hu
  obtain ⟨y | op, d3, fs3⟩ := r
  · right
    refine ⟨he, F3, v, rfl, h3, hf3, ?_, c.trans (WlCh.of_dk hc3)⟩
    have hne : ¬ ((undo_ x (.inl y, d3, fs3)).1 = .inl 0) := fun e => hx (by injection e)
    rw [if_neg hne, if_neg hne]
    exact h.dkch hc3
  · left
    refine ⟨op, rfl, he, F3, v, rfl, h3, hf3, ?_, c.trans (WlCh.of_dk hc3)⟩
    have hne : ¬ ((undo_ x (.inr op, d3, fs3)).1 = .inl 0) := fun e => by cases e
    rw [if_neg hne, if_neg hne]
    exact h.dkch hc3

set_option maxRecDepth 100000 in
set_option maxHeartbeats 8000000 in
theorem walKeep (h : LgAt E w B L D M F nm rs g v) (hd : DkAt w B D M d F) (ok : FsOk d (fsOf F)) (ho : d.ops + 8 ≤ 1152921504606846976) (hs : nm.size ≤ 140737488355328) (A : Option Addr) (c : Nat) (l : List UInt8) (hl : Bs w A l.length c l) (hm : l.length ≤ 140737488355328)
    (hoff : 0 < l.length → ∀ b, A = some b → ¬ DFoot D M F b.block) (A2 : Option Addr) (m2 c2 : Nat) (lr : List UInt8) (hr : Bs w A2 m2 c2 lr) (hg : g + m2 ≤ 1099511627776) (hn : rs.length ≤ 1099511627770) (hBw : B ≤ w.heap.size) (hE : ∀ k, E k → k < w.heap.size) :
    Calls Try.prog 40 #[pL L, .slice A l.length c, .slice A2 m2 c2, .func (Fn.func 41) #[pL L] #[]] w (KEnd E B L D M F nm rs g v w l m2 (addA nm g m2 (appO d (fsOf F) nm lr))) := by
  have c0 : w.drew.cell? ⟨L, 0, none⟩ = some (pD D) := h.cell 0
  have c1 : w.drew.cell? ⟨L, 1, none⟩ = some (.string nm) := h.cell 1
  have hb0 : Below w.heap.size w w.drew := (Below.refl _ w).drew
  have H1 := Lib.hid (h.below hb0)
  have HD1 := Lib.hid (hd.below hb0)
  have HL1 := Lib.hid (hl.below hb0)
  have HR1 := Lib.hid (hr.below hb0)
  have HC1 : Hid (WlCh L D M F F v v w w.drew) := Lib.hid (WlCh.of_below hb0)
  have HLM := Lib.hid hr.len
  have HBW1 : Hid (B ≤ w.drew.heap.size) := Lib.hid hBw
  have OK := Lib.hid ok
  have HO := Lib.hid ho
  have HOFF := Lib.hid hoff
  have HM := Lib.hid hm
  have HG := Lib.hid hg
  have HN := Lib.hid hn
  have HEB := Lib.hid hE
  have HWS : Hid (∀ w', WlCh L D M F F v v w w' → w.heap.size ≤ w'.heap.size) := Lib.hid (fun w' c => c.ch.size)
  clear h hd ok ho hl hr hb0 hBw hoff hm hg hn hE HWS
  go_enter Try.func40, Try.ntmps40
  go_wp2_with (fail)
  have HA := mAppendW HD1.out OK.out nm hs A2 m2 c2 lr HR1.out HBW1.out
  have hok2 := app_okW OK.out (by have := HO.out; omega) nm lr
  have hop2 := app_opsW d (fsOf F) nm lr
  have hnum := app_numW d (fsOf F) nm lr
  generalize appO d (fsOf F) nm lr = r at *
  have keyF : ∀ (w2 : World) (F2 : List Ent), DkCh D M F F2 w.drew w2 → Bs w2 A l.length c l ∧ WlCh L D M F F2 v v w w2 ∧ LgAt E w2 B L D M F2 nm rs g v ∧ (0 < l.length → ∀ b, A = some b → ¬ DFoot D M F2 b.block) ∧ B ≤ w2.heap.size := fun w2 F2 hc2 =>
    ⟨HL1.out.ch hc2.ch HOFF.out, HC1.out.trans (WlCh.of_dk hc2), H1.out.dkch hc2, fun h0 b hb hk => by
      rcases hc2.dfoot hk with h5 | h5
      · exact HOFF.out h0 b hb h5
      · obtain ⟨b', o', e', hlt, _⟩ := HL1.out.at_ h0
        rw [hb] at e'; injection e' with e'; subst e'; have h6 : w.drew.heap.size ≤ b' := h5; omega, Nat.le_trans HBW1.out hc2.ch.size⟩
  have KF := Lib.hid keyF
  have HAA := Lib.hid HA
  have HNUM := Lib.hid hnum
  have HOK2 := Lib.hid hok2
  have HOP2 := Lib.hid hop2
  clear keyF HA hnum hok2 hop2 H1 HD1 HL1 HR1 HC1 HBW1 HOFF OK
  refine wp_region_held_drew (S := fun W => W.cell? ⟨L, 0, none⟩ = some (pD D) ∧ W.cell? ⟨L, 1, none⟩ = some (.string nm)) (by kernel_rfl) ⟨c0, c1⟩ (fun hHeld => ?_)
  refine wpAnyH_take (i := 0) (oi := ⟨some 12, _, _, _, _, _⟩) (v := ?v1) rfl (by kernel_rfl) (by kernel_rfl) (by kernel_rfl) (fun _ _ _ h => h) (Or.inl ⟨by kernel_rfl, ?hy1⟩) hHeld ?rest1
  case hy1 =>
    intro w hSw
    (try dsimp only at hSw)
    go_simp
    (try with_reducible rfl)
  (try simp only [Act.put])
  refine wpAnyH_take (i := 1) (oi := ⟨some 13, _, _, _, _, _⟩) (v := ?v2) rfl (by kernel_rfl) (by kernel_rfl) (by kernel_rfl) (fun _ _ _ h => h) (Or.inl ⟨by kernel_rfl, ?hy2⟩) hHeld ?rest2
  case hy2 =>
    intro w hSw
    (try dsimp only at hSw)
    go_simp
    (try with_reducible rfl)
  (try simp only [Act.put])
  refine wpAnyH_take (i := 2) (oi := ⟨some 14, _, _, _, _, _⟩) (v := ?v3) rfl (by kernel_rfl) (by kernel_rfl) (by kernel_rfl) (fun _ _ _ h => h) (Or.inl ⟨by kernel_rfl, ?hy3⟩) hHeld ?rest3
  case hy3 =>
    intro w hSw
    (try dsimp only at hSw)
    go_simp
    (try with_reducible rfl)
  (try simp only [Act.put])
  refine wpAnyH_take (i := 3) (oi := ⟨some 15, _, _, _, _, _⟩) (v := ?v4) rfl (by kernel_rfl) (by kernel_rfl) (by kernel_rfl) (fun _ _ _ h => h) (Or.inl ⟨by kernel_rfl, ?hy4⟩) hHeld ?rest4
  case hy4 =>
    intro w hSw
    (try dsimp only at hSw)
    go_simp
    (try with_reducible rfl)
  (try simp only [Act.put])
  refine wpAnyH_take (i := 4) (oi := ⟨some 16, _, _, _, _, _⟩) (v := ?v5) rfl (by kernel_rfl) (by kernel_rfl) (by kernel_rfl) (fun _ _ _ h => h) (Or.inl ⟨by kernel_rfl, ?hy5⟩) hHeld ?rest5
  case hy5 =>
    intro w hSw
    (try dsimp only at hSw)
    go_simp
    (try with_reducible rfl)
  (try simp only [Act.put])
  refine wpAnyH_take (i := 5) (oi := ⟨some 17, _, _, _, _, _⟩) (v := ?v6) rfl (by kernel_rfl) (by kernel_rfl) (by kernel_rfl) (fun _ _ _ h => h) (Or.inl ⟨by kernel_rfl, ?hy6⟩) hHeld ?rest6
  case hy6 =>
    intro w hSw
    (try dsimp only at hSw)
    go_simp
    (try with_reducible rfl)
  (try simp only [Act.put])
  refine wpAnyH_take (i := 6) (oi := ⟨some 18, _, _, _, _, _⟩) (v := ?v7) rfl (by kernel_rfl) (by kernel_rfl) (by kernel_rfl) (fun _ _ _ h => h) (Or.inl ⟨by kernel_rfl, ?hy7⟩) hHeld ?rest7
  case hy7 =>
    intro w hSw
    (try dsimp only at hSw)
    go_simp
    (try with_reducible rfl)
  (try simp only [Act.put])
  refine wpAnyH_take (i := 7) (oi := ⟨some 19, _, _, _, _, _⟩) (v := ?v8) rfl (by kernel_rfl) (by kernel_rfl) (by kernel_rfl) (fun _ _ _ h => h) (Or.inl ⟨by kernel_rfl, ?hy8⟩) hHeld ?rest8
  case hy8 =>
    intro w hSw
    (try dsimp only at hSw)
    go_simp
    (try with_reducible rfl)
  (try simp only [Act.put])
  refine wpAnyH_take (i := 8) (oi := ⟨some 20, _, _, _, _, _⟩) (v := ?v9) rfl (by kernel_rfl) (by kernel_rfl) (by kernel_rfl) (fun _ _ _ h => h) (Or.inl ⟨by kernel_rfl, ?hy9⟩) hHeld ?rest9
  case hy9 =>
    intro w hSw
    (try dsimp only at hSw)
    go_simp
    (try with_reducible rfl)
  (try simp only [Act.put])
  clear hHeld c0 c1
  refine wpAnyH_ready (rs := [9]) (by kernel_rfl) (by simp) (AllReadyH.cons (o := _) rfl (fun K' hK => ?_) AllReadyH.nil)
  go_simp
  refine HAA.out.mono ?_
  rintro e w2 ⟨F2, he, h2, hc2, hf2⟩
  have HKF := Lib.hid (KF.out _ _ hc2)
  obtain ⟨⟨n, y | op⟩, d2, fs2⟩ := r
  · obtain ⟨n, rfl⟩ : ∃ k : Nat, n = (k : Int) := HNUM.out
    obtain rfl : fsOf F2 = fs2 := hf2
    obtain rfl : e = .returned (.tuple #[.int .i64 (n : Int), .int .i64 y]) := he
    have HD2 := Lib.hid (show DkAt w2 B D M d2 F2 from h2)
    have OK2 := Lib.hid (show FsOk d2 (fsOf F2) from HOK2.out)
    have HP2 : Hid (d2.ops ≤ d.ops + 1) := Lib.hid HOP2.out
    have HL2 := Lib.hid HKF.out.1
    have HC2 := Lib.hid HKF.out.2.1
    have H2 := Lib.hid HKF.out.2.2.1
    have HOF2 := Lib.hid HKF.out.2.2.2.1
    have HBW2 := Lib.hid HKF.out.2.2.2.2
    dsimp only
    refine hK.out _ _ ⟨H2.out.cell 0, H2.out.cell 1⟩ (fun hHeld => ?_)
    clear hK K' h2 hc2 HKF KF HAA HNUM HOK2 HOP2
    (try simp only [Act.put])
    refine wpAnyH_take (i := 10) (oi := ⟨some 11, _, _, _, _, _⟩) (v := ?v10) rfl (by kernel_rfl) (by kernel_rfl) (by kernel_rfl) (fun _ _ _ h => h) (Or.inl ⟨by kernel_rfl, ?hy10⟩) hHeld ?rest10
    case hy10 =>
      intro w hSw
      (try dsimp only at hSw)
      go_simp
      (try with_reducible rfl)
    (try simp only [Act.put])
    refine wpAnyH_take (i := 11) (oi := ⟨some 22, _, _, _, _, _⟩) (v := ?v11) rfl (by kernel_rfl) (by kernel_rfl) (by kernel_rfl) (fun _ _ _ h => h) (Or.inl ⟨by kernel_rfl, ?hy11⟩) hHeld ?rest11
    case hy11 =>
      intro w hSw
      (try dsimp only at hSw)
      go_simp
      (try with_reducible rfl)
    (try simp only [Act.put])
    refine wpAnyH_take (i := 12) (oi := ⟨some 23, _, _, _, _, _⟩) (v := ?v12) rfl (by kernel_rfl) (by kernel_rfl) (by kernel_rfl) (fun _ _ _ h => h) (Or.inl ⟨by kernel_rfl, ?hy12⟩) hHeld ?rest12
    case hy12 =>
      intro w hSw
      (try dsimp only at hSw)
      go_simp
      (try with_reducible rfl)
    (try simp only [Act.put])
    refine wpAnyH_take (i := 13) (oi := ⟨some 9, _, _, _, _, _⟩) (v := ?v13) rfl (by kernel_rfl) (by kernel_rfl) (by kernel_rfl) (fun _ _ _ h => h) (Or.inl ⟨by kernel_rfl, ?hy13⟩) hHeld ?rest13
    case hy13 =>
      intro w hSw
      (try dsimp only at hSw)
      go_simp
      (try with_reducible rfl)
    (try simp only [Act.put])
    refine wpAnyH_take (i := 14) (oi := ⟨some 10, _, _, _, _, _⟩) (v := ?v14) rfl (by kernel_rfl) (by kernel_rfl) (by kernel_rfl) (fun _ _ _ h => h) (Or.inl ⟨by kernel_rfl, ?hy14⟩) hHeld ?rest14
    case hy14 =>
      intro w hSw
      (try dsimp only at hSw)
      go_simp
      (try with_reducible rfl)
    (try simp only [Act.put])
    clear hHeld
    (try simp only [List.setIfInBounds_toArray, List.set_cons_zero, List.set_cons_succ])
    refine wpAnyH_done (by kernel_rfl) ?_ _
    have HE : Hid (addA nm g m2 (((n : Int), .inl y), d2, fsOf F2) = if (n : Int) < (m2 : Int) then undo_ 4 (opTrunc d2 (fsOf F2) nm (g : Int)) else addS nm g (opSync d2 (fsOf F2) nm)) := Lib.hid rfl
    by_cases hlt : n < m2
    · have e1 : decide (n < m2) = true := by simpa using hlt
      have e2 : (n : Int) < (m2 : Int) := by omega
      have HE2 : Hid (addA nm g m2 (((n : Int), .inl y), d2, fsOf F2) = undo_ 4 (opTrunc d2 (fsOf F2) nm (g : Int))) := Lib.hid (by rw [HE.out, if_pos e2])
      clear hlt e2 HE
      go_wp2_with (fail)
      refine (walTakeBack H2.out HD2.out OK2.out).mono ?_
      rintro e w3 hu
      rcases KEnd.undo (x := 4) (l := l) (n := m2) (by decide) H2.out HC2.out hu with ⟨op, hr, rfl, hK⟩ | ⟨rfl, hK⟩
      · rw [HE2.out]
        exact ⟨rfl, hK⟩
      · have HK := Lib.hid hK
        clear hu hK
        go_wp2_with (fail)
        go_ret
        rw [HE2.out]
        exact HK.out
    · have e1 : decide (n < m2) = false := by simpa using hlt
      have e2 : ¬ (n : Int) < (m2 : Int) := by omega
      have HE2 : Hid (addA nm g m2 (((n : Int), .inl y), d2, fsOf F2) = addS nm g (opSync d2 (fsOf F2) nm)) := Lib.hid (by rw [HE.out, if_neg e2])
      clear hlt e2 HE
      have c0 : ∀ n : Here w2.drew, n.u.cell? ⟨L, 0, none⟩ = some (pD D) := Here.cell (H2.out.cell 0)
      have c1 : ∀ n : Here w2.drew, n.u.cell? ⟨L, 1, none⟩ = some (.string nm) := Here.cell (H2.out.cell 1)
      have hb2 : Below w2.heap.size w2 w2.drew := (Below.refl _ w2).drew
      have H3 := Lib.hid (H2.out.below hb2)
      have HD3 := Lib.hid (HD2.out.below hb2)
      have HL3 := Lib.hid (HL2.out.below hb2)
      have HC3 : Hid (WlCh L D M F F2 v v w w2.drew) := Lib.hid (HC2.out.trans (WlCh.of_below hb2))
      have HBW3 : Hid (B ≤ w2.drew.heap.size) := Lib.hid HBW2.out
      clear hb2 H2 HD2 HL2 HC2 HBW2
      go_wp2_with (fail)
      refine region_tail 8 (by kernel_rfl) (by kernel_rfl) ?_
      simp only [List.take_succ_cons, List.take_zero, List.drop_succ_cons, List.drop_zero]
      repeat (go_big_quiet_step (fail))
      refine wpQuiet_nil ?_
      clear c0 c1 e1
      generalize w2.drew = w3 at *
      go_wp2_with (fail)
      refine (mSync HD3.out OK2.out nm).mono ?_
      rintro e w4 ⟨F4, he, h4, hc4, hf4⟩
      have hok4 := sync_ok OK2.out (by have := HO.out; have := HP2.out; omega) nm
      have hop4 := sync_opsW d2 (fsOf F2) nm
      generalize opSync d2 (fsOf F2) nm = r at *
      have HL4 : Hid (Bs w4 A l.length c l) := Lib.hid (HL3.out.ch hc4.ch HOF2.out)
      have HC4 : Hid (WlCh L D M F F4 v v w w4) := Lib.hid (HC3.out.trans (WlCh.of_dk hc4))
      have H4 := Lib.hid (H3.out.dkch hc4)
      have HBW4 : Hid (B ≤ w4.heap.size) := Lib.hid (Nat.le_trans HBW3.out hc4.ch.size)
      clear hc4 H3 HD3 HL3 HC3 HBW3 HOF2 OK2
      obtain ⟨x | op, d4, fs4⟩ := r
      · obtain rfl : fsOf F4 = fs4 := hf4
        obtain rfl : e = .returned (.int .i64 x) := he
        have HD4 := Lib.hid (show DkAt w4 B D M d4 F4 from h4)
        have OK4 := Lib.hid (show FsOk d4 (fsOf F4) from hok4)
        clear h4 hok4 hop4
        have HE : Hid (addA nm g m2 (((n : Int), .inl y), d2, fsOf F2) = if x = 0 then (.inl 0, (d4, fsOf F4)) else undo_ 5 (opTrunc d4 (fsOf F4) nm (g : Int))) := HE2
        clear HE2
        by_cases hx : x = 0
        · subst hx
          have HE2 : Hid (addA nm g m2 (((n : Int), .inl y), d2, fsOf F2) = ((.inl 0, (d4, fsOf F4)) : Out)) := Lib.hid (by rw [HE.out, if_pos rfl])
          clear HE
          go_wp2_with (fail)
          obtain ⟨Av, cv, rfl⟩ := H4.out.rw.form
          have hb5 : Below w4.heap.size w4 w4.drew := (Below.refl _ w4).drew
          have H5 := Lib.hid (H4.out.below hb5)
          have HD5 := Lib.hid (HD4.out.below hb5)
          have HL5 := Lib.hid (HL4.out.below hb5)
          have HC5 : Hid (WlCh L D M F F4 (.slice Av rs.length cv) (.slice Av rs.length cv) w w4.drew) := Lib.hid (HC4.out.trans (WlCh.of_below hb5))
          have HBW5 : Hid (B ≤ w4.drew.heap.size) := Lib.hid HBW4.out
          have cA : w4.drew.cell? ⟨L, 2, none⟩ = some (.slice Av rs.length cv) := H5.out.cell 2
          obtain ⟨Z, hZ⟩ : ∃ Z, Z = rs ++ [l] := ⟨_, rfl⟩
          have HZ := Lib.hid hZ
          have tok1 : Hid True := Lib.hid trivial
          have tok2 : Hid True := Lib.hid trivial
          clear hb5 H4 HD4 HL4 HC4 HBW4 hZ
          go_region_law (first
            | (have _t := tok1; go_simp; refine (walClone A _ c l _ HL5.out HM.out).mono ?_; rintro e w6 ⟨q, rfl, hq, hr6, hb6⟩; have H6 := Lib.hid (H5.out.below hb6); have HD6 := Lib.hid (HD5.out.below hb6); have HC6 := Lib.hid (HC5.out.trans (WlCh.of_below hb6)); have HBW6 : Hid (B ≤ w6.heap.size) := Lib.hid (Nat.le_trans HBW5.out hb6.size); have HB6 : Hid (Bs w6 (some ⟨q, 0, none⟩) l.length l.length l) := Lib.hid (Bs.block hr6 rfl (by have := HM.out; simp only [maxLen]; omega)); have HLT : Hid (0 < l.length → ∀ b, (some ⟨q, 0, none⟩ : Option Addr) = some b → ¬ (Value.slice Av rs.length cv).ownBlock = some b.block ∧ ¬ (LT L D M F4 b.block ∨ E b.block)) := Lib.hid (fun _ b hb => by injection hb with hb; subst hb; exact ⟨fun e => by have := (H5.out.rw.lt e).2; simp only at this; omega, fun e => by rcases e with e | e; exact (by have := (H5.out.foot_lt HD5.out (.inl e)).2; simp only at this; omega); exact (by have h1 := HEB.out _ e; have h2 := HC5.out.ch.size; simp only at h1; omega)⟩); have cB : w6.cell? ⟨L, 2, none⟩ = some (.slice Av rs.length cv) := H6.out.cell 2; have cC : ∀ o, (w6.alloc o).cell? ⟨L, 2, none⟩ = some (.slice Av rs.length cv) := fun o => (H6.out.below ((Below.refl _ _).alloc (Nat.le_refl _) o)).cell 2; have HS7 := Lib.hid ((Below.refl w6.heap.size w6).alloc (Nat.le_refl _) (.cells #[.slice (some ⟨q, 0, none⟩) l.length l.length] 27)); have H7 := Lib.hid (H6.out.below HS7.out); have HD7 := Lib.hid (HD6.out.below HS7.out); have HB7 := Lib.hid (HB6.out.below HS7.out); have HC7 := Lib.hid (HC6.out.trans (WlCh.of_below HS7.out)); have HROW := Lib.hid (heap_alloc_new w6 (.cells #[.slice (some ⟨q, 0, none⟩) l.length l.length] 27)); have HTN : Hid (¬ (LT L D M F4 (w6.alloc (.cells #[.slice (some ⟨q, 0, none⟩) l.length l.length] 27)).heap.size ∨ E (w6.alloc (.cells #[.slice (some ⟨q, 0, none⟩) l.length l.length] 27)).heap.size)) := Lib.hid (fun e => by rcases e with e | e; exact (by have := (H6.out.foot_lt HD6.out (.inl e)).2; simp only [World.size_alloc] at this; omega); exact (by have h1 := HEB.out _ e; have h2 := HC6.out.ch.size; simp only [World.size_alloc] at h1; omega)); have HBW7 : Hid (B ≤ (w6.alloc (.cells #[.slice (some ⟨q, 0, none⟩) l.length l.length] 27)).heap.size) := Lib.hid (Nat.le_trans HBW6.out HS7.out.size); clear tok1 hq hr6 hb6 _t; dsimp only)
            | (have _t := tok2; refine step_rwW rfl (.tmp 46) (.tmp 49) rfl B (fun k => LT L D M F4 k ∨ E k) (.slice Av rs.length cv) rs l (some ⟨q, 0, none⟩) l.length rfl H7.out.rw HB7.out HLT.out HTN.out w6.heap.size rfl HROW.out HN.out HBW7.out ?_; intro v2 w8 hw8 hgr8 hfr8; rw [← HZ.out] at hw8; obtain ⟨A8, c8, rfl⟩ := hw8.form; obtain ⟨z1, z2, HDN⟩ := H7.out.app HD7.out hw8 hgr8 hfr8; clear tok2 hw8 hgr8 hfr8 _t))
          all_goals
            have H9 := Lib.hid HDN.out.1
            have HD9 := Lib.hid HDN.out.2.1
            have HC9 := Lib.hid (HC7.out.trans HDN.out.2.2)
            clear HDN z1 z2 cA cB cC H5 HD5 HL5 HC5 HBW5 H6 HD6 HC6 HBW6 HB6 HLT HS7 H7 HD7 HB7 HC7 HROW HTN HBW7
            generalize w8.setCell ⟨L, 2, none⟩ (.slice A8 Z.length c8) = w9 at *
            have c3 : w9.cell? ⟨L, 3, none⟩ = some (.int .i64 (g : Int)) := H9.out.cell 3
            have f3 := H9.out.frozen 3
            have ws : wrap64 ((g : Int) + (m2 : Int)) = ((g + m2 : Nat) : Int) := by rw [IntWalk.wrap64_in _ (by have := HG.out; omega)]; omega
            have ws2 : IntKind.i64.wrap ((g : Int) + (m2 : Int)) = ((g + m2 : Nat) : Int) := by rw [IntWalk.i64_in _ (by have := HG.out; omega)]; omega
            obtain ⟨G, hG⟩ : ∃ G, G = g + m2 := ⟨_, rfl⟩
            rw [← hG] at ws ws2
            have HGG := Lib.hid hG
            clear hG
            go_wp2_with (fail)
            obtain ⟨q1, q2, q3⟩ := H9.out.setGood HD9.out G
            have HK : Hid (KEnd E B L D M F nm rs g (.slice Av rs.length cv) w l m2 ((.inl 0, (d4, fsOf F4)) : Out) (.returned (.int .i64 0)) (w9.setCell ⟨L, 3, none⟩ (.int .i64 (G : Int)))) := Lib.hid ⟨F4, _, rfl, q2, rfl, by rw [if_pos rfl, if_pos rfl, ← HZ.out, ← HGG.out]; exact q1, HC9.out.trans q3⟩
            clear q1 q2 q3
            go_ret
            rw [HE2.out]
            exact HK.out
        · have HE2 : Hid (addA nm g m2 (((n : Int), .inl y), d2, fsOf F2) = undo_ 5 (opTrunc d4 (fsOf F4) nm (g : Int))) := Lib.hid (by rw [HE.out, if_neg hx])
          have e1 : (x != 0) = true := by simpa using hx
          clear hx HE
          go_wp2_with (fail)
          refine (walTakeBack H4.out HD4.out OK4.out).mono ?_
          rintro e w5 hu
          rcases KEnd.undo (x := 5) (l := l) (n := m2) (by decide) H4.out HC4.out hu with ⟨op, hr, rfl, hK⟩ | ⟨rfl, hK⟩
          · rw [HE2.out]
            exact ⟨rfl, hK⟩
          · have HK := Lib.hid hK
            clear hu hK
            go_wp2_with (fail)
            go_ret
            rw [HE2.out]
            exact HK.out
      · obtain rfl : fsOf F4 = fs4 := hf4
        obtain rfl : e = .panicked [{ v := crashI op, recovered := false }] := he
        refine ⟨rfl, ?_⟩
        rw [HE2.out]
        exact ⟨F4, v, rfl, h4, rfl, by rw [if_neg (by intro e; cases e), if_neg (by intro e; cases e)]; exact H4.out, HC4.out⟩
  · obtain rfl : fsOf F2 = fs2 := hf2
    obtain rfl : e = .panicked [{ v := crashI op, recovered := false }] := he
    exact ⟨rfl, F2, v, rfl, h2, rfl, by rw [if_neg (by intro e; cases e), if_neg (by intro e; cases e)]; exact HKF.out.2.2.1, HKF.out.2.1⟩
end
end Go.Proofs.Ythblbmbefhlbjaa

/- Layer 13: Scan, walked; its rows lie in memory of the call's own. -/
namespace Go.Proofs.Ythblbmbefhlbjaa
open Go.RowKit

abbrev PLn (BB PB LB : Nat) : Nat → Prop := fun k => k = BB ∨ k = PB ∨ k = LB
/-- the blocks that rows avoid -/
abbrev PLBn (B BB PB LB : Nat) : Nat → Prop := fun k => k = BB ∨ k = PB ∨ k = LB ∨ k < B
theorem PL_subn {B BB PB LB k : Nat} (h : PLn BB PB LB k) : PLBn B BB PB LB k := by
  rcases h with h | h | h
  · exact .inl h
  · exact .inr (.inl h)
  · exact .inr (.inr (.inl h))
/-- what Scan holds: its bytes, the place, the records so far -/
structure ScanStn (B BB PB LB : Nat) (A : Option Addr) (n c : Nat) (l : List UInt8) (p : Nat) (acc : List (List UInt8)) (v : Value) (w : World) : Prop where
  hb : w.heap[BB]? = some (.cells #[.slice A n c] 27)
  hp : w.heap[PB]? = some (.cells #[.int .i64 (p : Int)] 3)
  hl : w.heap[LB]? = some (.cells #[v] 47)
  bs : Bs w A n c l
  lo : 0 < n → ∀ b, A = some b → b.block < B
  rw : Rw B (PLBn B BB PB LB) w v acc
  bB : B ≤ BB
  bP : B ≤ PB
  bL : B ≤ LB
theorem ScanStn.below {B BB PB LB n c p : Nat} {A : Option Addr} {l : List UInt8} {acc : List (List UInt8)} {v : Value} {w w' : World} (h : ScanStn B BB PB LB A n c l p acc v w) (hb : Below w.heap.size w w') : ScanStn B BB PB LB A n c l p acc v w' :=
  ⟨(hb.block BB (Array.getElem?_eq_some_iff.1 h.hb).1).trans h.hb, (hb.block PB (Array.getElem?_eq_some_iff.1 h.hp).1).trans h.hp, (hb.block LB (Array.getElem?_eq_some_iff.1 h.hl).1).trans h.hl, h.bs.below hb, h.lo, h.rw.below hb, h.bB, h.bP, h.bL⟩
theorem ScanStn.ltB {B BB PB LB n c p : Nat} {A : Option Addr} {l : List UInt8} {acc : List (List UInt8)} {v : Value} {w : World} (h : ScanStn B BB PB LB A n c l p acc v w) : BB < w.heap.size ∧ PB < w.heap.size ∧ LB < w.heap.size :=
  ⟨(Array.getElem?_eq_some_iff.1 h.hb).1, (Array.getElem?_eq_some_iff.1 h.hp).1, (Array.getElem?_eq_some_iff.1 h.hl).1⟩

theorem ScanStn.app {B BB PB LB n c p k : Nat} {A : Option Addr} {l : List UInt8} {acc Z : List (List UInt8)} {v v2 : Value} {W w2 : World} (h : ScanStn B BB PB LB A n c l p acc v W) (hw : Rw B (PLBn B BB PB LB) w2 v2 Z) (hg : W.grownBy w2 v.ownBlock) (hk : PB ≠ LB) (hkb : BB ≠ LB) (hkp : BB ≠ PB) :
    w2.cell? ⟨LB, 0, none⟩ = some v ∧ w2.frozen? ⟨LB, 0, none⟩ = false ∧ w2.cell? ⟨PB, 0, none⟩ = some (.int .i64 (p : Int)) ∧ w2.frozen? ⟨PB, 0, none⟩ = false ∧
    Hid (ScanStn B BB PB LB A n c l (p + k) Z v2 ((w2.setCell ⟨LB, 0, none⟩ v2).setCell ⟨PB, 0, none⟩ (.int .i64 ((p + k : Nat) : Int))) ∧ Below B W ((w2.setCell ⟨LB, 0, none⟩ v2).setCell ⟨PB, 0, none⟩ (.int .i64 ((p + k : Nat) : Int))) ∧ W.heap.size ≤ ((w2.setCell ⟨LB, 0, none⟩ v2).setCell ⟨PB, 0, none⟩ (.int .i64 ((p + k : Nat) : Int))).heap.size) := by
  obtain ⟨vs, hv⟩ := h.rw
  have hch : Ch (fun k => v.ownBlock = some k) W w2 := Ch.of_grown hg (fun k hk => hk)
  have hT := hv.2.2.2.1
  have r1 := hch.row h.hb (fun e => hT _ e (.inl rfl))
  have r2 := hch.row h.hp (fun e => hT _ e (.inr (.inl rfl)))
  have r3 := hch.row h.hl (fun e => hT _ e (.inr (.inr (.inl rfl))))
  have q1 := cell_of_row w2 LB 0 _ _ _ r3
  have q2 := cell_of_row w2 PB 0 _ _ _ r2
  have hvB : ∀ k, v.ownBlock = some k → B ≤ k := fun k hk => (World.ownsRow.lt hv.2.1 k hk).1
  have hcs : Ch (PLn BB PB LB) w2 ((w2.setCell ⟨LB, 0, none⟩ v2).setCell ⟨PB, 0, none⟩ (.int .i64 ((p + k : Nat) : Int))) := ((Ch.refl _ w2).set (a := ⟨LB, 0, none⟩) (.inr (.inr rfl)) v2).set (a := ⟨PB, 0, none⟩) (.inr (.inl rfl)) _
  have hlo := h.lo
  have hBb := h.bB
  have hBp := h.bP
  have hBl := h.bL
  have hbs2 : Bs w2 A n c l := h.bs.ch hch (fun h0 b' hb' hs => by have h1 := hvB b'.block hs; have h2 := hlo h0 b' hb'; omega)
  have hwz := (Array.getElem?_eq_some_iff.1 h.hb).1
  have hbl : Below B W w2 := hch.below hvB (by omega)
  refine ⟨by simpa using q1, by simp [World.frozen?, r3], by simpa using q2, by simp [World.frozen?, r2], Lib.hid ⟨⟨?_, ?_, ?_, ?_, h.lo, ?_, h.bB, h.bP, h.bL⟩, ?_, ?_⟩⟩
  · rw [show ((w2.setCell ⟨LB, 0, none⟩ v2).setCell ⟨PB, 0, none⟩ (.int .i64 ((p + k : Nat) : Int))).heap[BB]? = (w2.setCell ⟨LB, 0, none⟩ v2).heap[BB]? from Below.heap_setCell _ _ _ _ hkp, show (w2.setCell ⟨LB, 0, none⟩ v2).heap[BB]? = w2.heap[BB]? from Below.heap_setCell _ _ _ _ hkb]
    exact r1
  · refine heap_setCell_same _ PB 0 #[.int .i64 (p : Int)] _ _ ?_
    rw [show (w2.setCell ⟨LB, 0, none⟩ v2).heap[PB]? = w2.heap[PB]? from Below.heap_setCell _ _ _ _ hk]
    exact r2
  · rw [show ((w2.setCell ⟨LB, 0, none⟩ v2).setCell ⟨PB, 0, none⟩ (.int .i64 ((p + k : Nat) : Int))).heap[LB]? = (w2.setCell ⟨LB, 0, none⟩ v2).heap[LB]? from Below.heap_setCell _ _ _ _ (Ne.symm hk)]
    exact heap_setCell_same w2 LB 0 #[v] _ _ r3
  · exact hbs2.ch hcs (fun h0 b' hb' hs => by have h2 := hlo h0 b' hb'; rcases hs with hs | hs | hs <;> omega)
  · exact hw.ch hcs (fun _ _ h => PL_subn h) (fun _ _ h => h)
  · exact hbl.trans (hcs.below (fun k hs => by rcases hs with hs | hs | hs <;> omega) (by have := hch.size; omega))
  · exact Nat.le_trans hch.size hcs.size

def NextPostn (B BB PB LB : Nat) (A : Option Addr) (n c : Nat) (l : List UInt8) (p : Nat) (acc : List (List UInt8)) (v : Value) (w : World) (e : Ending) (w' : World) : Prop :=
  e = .returned (.int .i64 (getErr (l.drop p))) ∧ Below B w w' ∧ w.heap.size ≤ w'.heap.size ∧ (getErr (l.drop p) = 0 → ∃ v', ScanStn B BB PB LB A n c l (p + getLen (l.drop p)) (acc ++ [getGet (l.drop p)]) v' w') ∧ (getErr (l.drop p) ≠ 0 → ScanStn B BB PB LB A n c l p acc v w')

set_option maxHeartbeats 4000000 in
set_option maxRecDepth 100000 in
theorem scanNextn (B BB PB LB n c p : Nat) (A : Option Addr) (l : List UInt8) (acc : List (List UInt8)) (v : Value) (w : World) (h : ScanStn B BB PB LB A n c l p acc v w) (hp : p < n) (hacc : 9 * acc.length ≤ p) (hN : n ≤ 1099511627000) :
    Calls Try.prog 51 #[.pointer (some ⟨BB, 0, none⟩), .pointer (some ⟨PB, 0, none⟩), .pointer (some ⟨LB, 0, none⟩)] w (NextPostn B BB PB LB A n c l p acc v w) := by
  obtain ⟨b, o, rfl, _, _⟩ := h.bs.at_ (by omega)
  have hcm := h.bs.max
  have hle := h.bs.le
  have cb := cell_of_row w BB 0 _ _ _ h.hb
  have cp := cell_of_row w PB 0 _ _ _ h.hp
  simp only [List.getElem?_toArray, List.getElem?_cons_zero] at cb cp
  have e9 : ¬ c = p := by omega
  have hpi : (p : Int) ≤ (n : Int) := by omega
  have hpc : p ≤ c := by omega
  have hd := h.bs.drop (i := p) (by omega)
  rw [if_neg e9, Option.map_some, Addr.add_lit] at hd
  have HD := Lib.hid hd
  have H := Lib.hid h
  have HP := Lib.hid hp
  have HA := Lib.hid hacc
  clear h hd hp hacc
  go_enter Try.func51, Try.ntmps51
  go_wp2_with (fail)
  refine (entryGetN _ (n - p) (c - p) (l.drop p) w HD.out (by omega)).mono ?_
  rintro e w1 ⟨A1, c1, rfl, hB1, hfr, hb1⟩
  have H1 := Lib.hid (H.out.below hb1)
  have HB1 : Hid (Below B w w1) := Lib.hid (hb1.mono (by have := H.out.ltB; have := H.out.bB; omega))
  have HZ1 : Hid (w.heap.size ≤ w1.heap.size) := Lib.hid hb1.size
  have HX := Lib.hid hB1
  have HFR := Lib.hid hfr
  have HGL := Lib.hid (fun h : getErr (l.drop p) = 0 => getErr_len h)
  have HDL : Hid ((l.drop p).length = n - p) := Lib.hid HD.out.len
  clear hb1 hB1 hfr
  by_cases he : getErr (l.drop p) = 0
  · have hgl := HGL.out he
    have HEE := Lib.hid he
    have HGL := Lib.hid hgl
    have hlen : getLen (l.drop p) ≤ n - p := by have := HDL.out; omega
    generalize hx : getGet (l.drop p) = x at *
    generalize hk : getLen (l.drop p) = k at *
    rw [he]
    have HXX := Lib.hid hx
    have HKK := Lib.hid hk
    have hkp : k ≤ n - p := hlen
    have hpk : ((p + k : Nat) : Int) = (p : Int) + (k : Int) := by omega
    have HPK := Lib.hid hpk
    clear he hgl hx hk hlen hpk
    obtain ⟨Av, cv, hv⟩ := H.out.rw.form
    subst hv
    have c1l := cell_of_row w1 LB 0 _ _ _ H1.out.hl
    have c1p := cell_of_row w1 PB 0 _ _ _ H1.out.hp
    simp only [List.getElem?_toArray, List.getElem?_cons_zero] at c1l c1p
    have HA1 := Lib.hid ((Below.refl w1.heap.size w1).alloc (Nat.le_refl _) (.cells #[.slice A1 x.length c1] 27))
    have HW1 := Lib.hid (H1.out.below HA1.out)
    have HROW := Lib.hid (heap_alloc_new w1 (.cells #[.slice A1 x.length c1] 27))
    have HXA := Lib.hid (HX.out.below HA1.out)
    have HLT : Hid (0 < x.length → ∀ b, A1 = some b → ¬ (Value.slice Av acc.length cv).ownBlock = some b.block ∧ ¬ PLBn B BB PB LB b.block) := Lib.hid (fun _ b hb => by
      have h1 := HFR.out b hb
      have h2 := H.out.ltB
      obtain ⟨vs, hv⟩ := H.out.rw
      exact ⟨fun e => by have := (World.ownsRow.lt hv.2.1 _ e).2; omega, fun e => by have := H.out.bB; rcases e with e | e | e | e <;> omega⟩)
    have HTN : Hid (¬ PLBn B BB PB LB (w1.alloc (.cells #[.slice A1 x.length c1] 27)).heap.size) := Lib.hid (fun e => by
      have := HW1.out.ltB
      have := HW1.out.bB
      rcases e with e | e | e | e <;> omega)
    have HBZ : Hid (B ≤ (w1.alloc (.cells #[.slice A1 x.length c1] 27)).heap.size) := Lib.hid (by have := HW1.out.ltB; have := HW1.out.bB; omega)
    have hPL : PB ≠ LB := fun e => by
      have h1 := H1.out.hp
      have h2 := H1.out.hl
      rw [e, h2] at h1
      injection h1 with h1
      injection h1 with _ h1
      exact absurd h1 (by decide)
    have hBL : BB ≠ LB := fun e => by
      have h1 := H1.out.hb
      have h2 := H1.out.hl
      rw [e, h2] at h1
      injection h1 with h1
      injection h1 with _ h1
      exact absurd h1 (by decide)
    have hBP : BB ≠ PB := fun e => by
      have h1 := H1.out.hb
      have h2 := H1.out.hp
      rw [e, h2] at h1
      injection h1 with h1
      injection h1 with _ h1
      exact absurd h1 (by decide)
    have HPL := Lib.hid hPL
    have HBL := Lib.hid hBL
    have HBP := Lib.hid hBP
    have hacc : acc.length ≤ p := by have := HA.out; omega
    obtain ⟨Z, hZ⟩ : ∃ Z, acc ++ [x] = Z := ⟨_, rfl⟩
    have HZ := Lib.hid hZ
    clear hZ
    have tok1 : Hid True := Lib.hid trivial
    go_wp2_with (at_builtin; have _t := tok1; go_loud ((refine wpList_rw rfl (.tmp 17) (.tmp 19) rfl B (PLBn B BB PB LB) (.slice Av acc.length cv) acc x A1 c1 rfl HW1.out.rw HXA.out HLT.out HTN.out w1.heap.size rfl HROW.out (by omega) HBZ.out ?_; intro v2 w2 hw2 hgr2 hfr2; rw [HZ.out] at hw2; obtain ⟨A2, c2, rfl⟩ := hw2.form; obtain ⟨z1, z2, z3, z4, HDN⟩ := HW1.out.app (k := k) hw2 hgr2 HPL.out HBL.out HBP.out; clear tok1 hw2 hgr2 hfr2 _t)))
    rw [HPK.out] at HDN
    go_ret
    refine ⟨by rw [HEE.out]; rfl, HB1.out.trans (((HA1.out.mono ?_)).trans HDN.out.2.1), ?_, fun _ => ⟨.slice A2 Z.length c2, ?_⟩, fun h => absurd HEE.out h⟩
    · have := H1.out.ltB; have := H1.out.bB; omega
    · exact Nat.le_trans HZ1.out (Nat.le_trans HA1.out.size HDN.out.2.2)
    · rw [HXX.out, HKK.out, HZ.out]; exact HDN.out.1
  · have hge := get_err (l := l.drop p) rfl he
    have hne : (getErr (l.drop p) == 0) = false := by rw [beq_eq_false_iff_ne]; exact he
    have HEE := Lib.hid he
    clear he
    rw [hge.1, hge.2]
    clear hge
    go_wp2_with (fail)
    go_ret
    exact ⟨rfl, HB1.out, HZ1.out, fun h => absurd h HEE.out, fun _ => H1.out⟩

def placeOfn (PB : Nat) (w : World) : Nat := match w.cell? ⟨PB, 0, none⟩ with | some (.int _ z) => z.toNat | _ => 0
theorem ScanStn.cells {B BB PB LB n c p : Nat} {A : Option Addr} {l : List UInt8} {acc : List (List UInt8)} {v : Value} {w : World} (h : ScanStn B BB PB LB A n c l p acc v w) :
    w.cell? ⟨BB, 0, none⟩ = some (.slice A n c) ∧ w.cell? ⟨PB, 0, none⟩ = some (.int .i64 (p : Int)) ∧ w.cell? ⟨LB, 0, none⟩ = some v ∧ placeOfn PB w = p := by
  have cb := cell_of_row w BB 0 _ _ _ h.hb
  have cp := cell_of_row w PB 0 _ _ _ h.hp
  have cl := cell_of_row w LB 0 _ _ _ h.hl
  simp only [List.getElem?_toArray, List.getElem?_cons_zero] at cb cp cl
  refine ⟨cb, cp, cl, ?_⟩
  unfold placeOfn
  rw [cp]
  simp
theorem ScanStn.new (A : Option Addr) (n c : Nat) (l : List UInt8) (w : World) (hB : Bs w A n c l) :
    ScanStn w.heap.size w.heap.size (w.heap.size + 1 + 1) (w.heap.size + 1) A n c l 0 [] (.slice none 0 0) (((w.alloc (.cells #[.slice A n c] 27)).alloc (.cells #[.slice none 0 0] 47)).alloc (.cells #[.int .i64 0] 3)) ∧ Below w.heap.size w (((w.alloc (.cells #[.slice A n c] 27)).alloc (.cells #[.slice none 0 0] 47)).alloc (.cells #[.int .i64 0] 3)) := by
  have b1 : Below w.heap.size w (w.alloc (.cells #[.slice A n c] 27)) := (Below.refl _ _).alloc (Nat.le_refl _) _
  have b2 : Below w.heap.size w ((w.alloc (.cells #[.slice A n c] 27)).alloc (.cells #[.slice none 0 0] 47)) := b1.alloc (by simp) _
  have b3 : Below w.heap.size w (((w.alloc (.cells #[.slice A n c] 27)).alloc (.cells #[.slice none 0 0] 47)).alloc (.cells #[.int .i64 0] 3)) := b2.alloc (by simp; omega) _
  have z1 : (w.alloc (.cells #[.slice A n c] 27)).heap.size = w.heap.size + 1 := by simp
  have z2 : ((w.alloc (.cells #[.slice A n c] 27)).alloc (.cells #[.slice none 0 0] 47)).heap.size = w.heap.size + 1 + 1 := by simp
  have r1 := heap_alloc_new w (.cells #[.slice A n c] 27)
  have r2 := heap_alloc_new (w.alloc (.cells #[.slice A n c] 27)) (.cells #[.slice none 0 0] 47)
  have r3 := heap_alloc_new ((w.alloc (.cells #[.slice A n c] 27)).alloc (.cells #[.slice none 0 0] 47)) (.cells #[.int .i64 0] 3)
  rw [z1] at r2
  rw [z2] at r3
  have c2 : Below (w.heap.size + 1) (w.alloc (.cells #[.slice A n c] 27)) (((w.alloc (.cells #[.slice A n c] 27)).alloc (.cells #[.slice none 0 0] 47)).alloc (.cells #[.int .i64 0] 3)) := ((Below.refl _ _).alloc (by simp) _).alloc (by simp) _
  have c3 : Below (w.heap.size + 1 + 1) ((w.alloc (.cells #[.slice A n c] 27)).alloc (.cells #[.slice none 0 0] 47)) (((w.alloc (.cells #[.slice A n c] 27)).alloc (.cells #[.slice none 0 0] 47)).alloc (.cells #[.int .i64 0] 3)) := (Below.refl _ _).alloc (by simp) _
  refine ⟨⟨(c2.block _ (by omega)).trans r1, r3, (c3.block _ (by omega)).trans r2, hB.below b3, fun h0 b hb => ?_, Rw.nil _ _ _, Nat.le_refl _, by omega, by omega⟩, b3⟩
  obtain ⟨b', o', e, hlt, _⟩ := hB.at_ h0
  rw [e] at hb
  injection hb with hb
  subst hb
  exact hlt

/-- what Scan gives: rows of the call's own -/
def ScanPostn (l : List UInt8) (w : World) (e : Ending) (w' : World) : Prop :=
  ∃ v, e = .returned (.tuple #[v, .int .i64 ((scan l).2.1 : Int), .int .i64 (scan l).2.2]) ∧ Rw w.heap.size (fun k => k < w.heap.size) w' v (scan l).1 ∧ Below w.heap.size w w'

set_option maxHeartbeats 4000000 in
set_option maxRecDepth 100000 in
theorem entryScann (A : Option Addr) (n c : Nat) (l : List UInt8) (w : World) (hB : Bs w A n c l) (hN : n ≤ 1099511627000) :
    Calls Try.prog 30 #[.slice A n c] w (ScanPostn l w) := by
  have hmf : ∀ (fn : Fn) (first cap : Array Value) (w : World), (Instr.makeFunc fn first cap).run Try.prog w = .ok (.func fn first cap) w := fun _ _ _ _ => rfl
  have hlen := Lib.hid hB.len
  have HB := Lib.hid hB
  clear hB
  go_enter Try.func30, Try.ntmps30
  go_wp2_with (fail)
  have HNEW := Lib.hid (ScanStn.new A n c l w HB.out)
  generalize (((w.alloc (.cells #[.slice A n c] 27)).alloc (.cells #[.slice none 0 0] 47)).alloc (.cells #[.int .i64 0] 3)) = W0 at *
  go_loopw [8] (fun _ wr => ∃ (p : Nat) (acc : List (List UInt8)) (v : Value), ScanStn w.heap.size w.heap.size (w.heap.size + 1 + 1) (w.heap.size + 1) A n c l p acc v wr ∧ ScanAt l p acc ∧ Below w.heap.size w wr) (fun _ wr => n - placeOfn (w.heap.size + 1 + 1) wr)
  case atStart => exact ⟨0, [], .slice none 0 0, HNEW.out.1, ScanAt.start l, HNEW.out.2⟩
  case round =>
    clear HNEW
    obtain ⟨wo, rfl⟩ : ∃ wo : World, wo = wr := ⟨_, rfl⟩
    obtain ⟨p, acc, v, hs, ha, hb⟩ := hrel
    have HS := Lib.hid hs
    have HA := Lib.hid ha
    have HBB := Lib.hid hb
    obtain ⟨cb, cp, cl, hpl⟩ := hs.cells
    have HPL := Lib.hid hpl
    have hpn : p ≤ n := by have := ha.1; have := hlen.out; omega
    clear hs ha hb hpl
    by_cases hlt : p < n
    · have e1 : (p : Int) < (n : Int) := by omega
      have HLT := Lib.hid hlt
      clear hlt
      go_wp2_with (fail)
      refine (scanNextn w.heap.size w.heap.size (w.heap.size + 1 + 1) (w.heap.size + 1) n c p A l acc v wo HS.out HLT.out HA.out.2.1 hN).mono ?_
      rintro e w1 ⟨rfl, hb1, hz1, h0, h1⟩
      have HB1 : Hid (Below w.heap.size w w1) := Lib.hid (HBB.out.trans hb1)
      have H0 := Lib.hid h0
      have H1 := Lib.hid h1
      clear hb1 hz1 h0 h1
      by_cases he : getErr (l.drop p) = 0
      · obtain ⟨v1, hs1⟩ := H0.out he
        have HS1 := Lib.hid hs1
        have HA1 := Lib.hid (HA.out.more he)
        have HGL := Lib.hid (getErr_len he)
        have HPL1 := Lib.hid hs1.cells.2.2.2
        clear hs1 H0 H1
        rw [he]
        go_wp2_with (fail)
        refine ⟨⟨_, _, v1, HS1.out, HA1.out, HB1.out⟩, ?_⟩
        rw [HPL1.out, HPL.out]
        have := HGL.out.1
        have := HLT.out
        omega
      · have hs1 := H1.out he
        have hst := HA.out.stop (by rw [hlen.out]; exact HLT.out) he
        have hne : (getErr (l.drop p) != 0) = true := by rw [bne_iff_ne]; exact he
        obtain ⟨cb1, cp1, cl1, _⟩ := hs1.cells
        have HST := Lib.hid hst
        have hrd := hs1.rw
        obtain ⟨Av, cv, hv⟩ := hrd.form
        subst hv
        have HRD := Lib.hid hrd
        clear hst hs1 H0 H1 he hrd
        generalize getErr (l.drop p) = er at *
        go_wp2_with (fail)
        go_quiet (fail)
        go_wp2_with (fail)
        go_ret3
        refine ⟨.slice Av acc.length cv, ?_, ?_, drawN_below HB1.out _⟩
        · rw [HST.out]; rfl
        · rw [HST.out]; exact (HRD.out.ch (T' := fun k => k < w.heap.size) (Ch.of_below (S := fun _ => False) (drawN_below (Below.refl _ _) _)) (fun _ _ h => h.elim) (fun _ _ h => .inr (.inr (.inr h))))
    · obtain rfl : p = n := by omega
      have hst := HA.out.all hlen.out.symm
      have hrd := HS.out.rw
      obtain ⟨Av, cv, hv⟩ := hrd.form
      subst hv
      have HST := Lib.hid hst
      have HRD := Lib.hid hrd
      clear hst hrd hlt
      go_wp2_with (fail)
      go_quiet (fail)
      go_wp2_with (fail)
      go_ret3
      refine ⟨.slice Av acc.length cv, ?_, ?_, drawN_below HBB.out _⟩
      · rw [HST.out]; rfl
      · rw [HST.out]; exact (HRD.out.ch (T' := fun k => k < w.heap.size) (Ch.of_below (S := fun _ => False) (drawN_below (Below.refl _ _) _)) (fun _ _ h => h.elim) (fun _ _ h => .inr (.inr (.inr h))))
end Go.Proofs.Ythblbmbefhlbjaa

/- Layer 14: a record added, and a log opened, walked. -/
namespace Go.Proofs.Ythblbmbefhlbjaa
open Go.RowKit Go.MapKept

section
variable {E : Nat → Prop} {w w' : World} {B L D M g : Nat} {d d' : Dk} {F F' : List Ent} {nm : ByteArray} {rs : List (List UInt8)} {v : Value}
theorem KEnd.pre {w1 : World} {l : List UInt8} {n : Nat} {r : Out} {e : Ending} (hb : Below w.heap.size w w1) (h : KEnd E B L D M F nm rs g v w1 l n r e w') : KEnd E B L D M F nm rs g v w l n r e w' := by
  obtain ⟨F', v', h1, h2, h3, h4, h5⟩ := h
  exact ⟨F', v', h1, h2, h3, h4, (WlCh.of_below hb).trans h5⟩
set_option maxRecDepth 100000 in
set_option maxHeartbeats 4000000 in
theorem walAdd (h : LgAt E w B L D M F nm rs g v) (hd : DkAt w B D M d F) (ok : FsOk d (fsOf F)) (ho : d.ops + 8 ≤ 1152921504606846976) (hs : nm.size ≤ 140737488355328) (A : Option Addr) (c : Nat) (l : List UInt8) (hl : Bs w A l.length c l)
    (hoff : 0 < l.length → ∀ b, A = some b → ¬ DFoot D M F b.block) (hg : g ≤ 1099511000000) (hn : rs.length ≤ 1099511627770) (hBw : B ≤ w.heap.size) (hE : ∀ k, E k → k < w.heap.size) :
    Calls Try.prog 13 #[pL L, .slice A l.length c] w (KEnd E B L D M F nm rs g v w l (record l).length (addD d (fsOf F) nm g l)) := by
  have hmf : ∀ (fn : Fn) (first cap : Array Value) (w : World), (Instr.makeFunc fn first cap).run Try.prog w = .ok (.func fn first cap) w := fun _ _ _ _ => rfl
  have H := Lib.hid h
  have HD := Lib.hid hd
  have OK := Lib.hid ok
  have HO := Lib.hid ho
  have HL := Lib.hid hl
  have HOFF := Lib.hid hoff
  have HG := Lib.hid hg
  have HN := Lib.hid hn
  have HBW := Lib.hid hBw
  have HEB := Lib.hid hE
  clear h hd ok ho hl hoff hg hn hBw hE
  go_enter Try.func13, Try.ntmps13
  go_wp2_with (fail)
  refine (entryPut A l.length c l w HL.out).mono ?_
  rintro e w1 ⟨A2, c2, rfl, hB2, hb1⟩
  have HB1 := Lib.hid hb1
  have HB2 := Lib.hid hB2
  have H1 := Lib.hid (H.out.below hb1)
  have HD1 := Lib.hid (HD.out.below hb1)
  have HL1 := Lib.hid (HL.out.below hb1)
  have HBW1 : Hid (B ≤ w1.heap.size) := Lib.hid (Nat.le_trans HBW.out hb1.size)
  have HEB1 : Hid (∀ k, E k → k < w1.heap.size) := Lib.hid (fun k hk => Nat.lt_of_lt_of_le (HEB.out k hk) hb1.size)
  clear hb1 hB2 H HD HL HBW
  by_cases hk : okLen l.length = true
  · have HE : Hid (addD d (fsOf F) nm g l = addA nm g (record l).length (appO d (fsOf F) nm (record l))) := Lib.hid (if_pos hk)
    have HK := Lib.hid hk
    rw [if_pos hk] at HB2 ⊢
    rw [if_pos hk]
    clear hk
    have HRL := Lib.hid (record_length l)
    obtain ⟨R, hR⟩ : ∃ R, R = record l := ⟨_, rfl⟩
    rw [← hR] at HB2 HE HRL ⊢
    have HRR : Hid (R.length = (record l).length) := Lib.hid (by rw [hR])
    clear hR
    go_wp2_with (fail)
    refine (walKeep H1.out HD1.out OK.out HO.out hs A c l HL1.out (by have := okLen_yes HK.out; omega) HOFF.out A2 R.length c2 R HB2.out (by have := okLen_yes HK.out; have := HRL.out; have := HG.out; omega) HN.out HBW1.out HEB1.out).mono ?_
    intro e w2 hK
    have hK := hK.pre HB1.out
    rw [← HE.out] at hK
    obtain ⟨F', v', he, h2, h3, h4, h5⟩ := hK
    have HP : Hid (∀ e, e = endM (addD d (fsOf F) nm g l).1 → KEnd E B L D M F nm rs g v w l (record l).length (addD d (fsOf F) nm g l) e w2) := Lib.hid (fun e he => by rw [← HRR.out]; exact ⟨F', v', he, h2, h3, h4, h5⟩)
    clear h2 h3 h4 h5
    generalize addD d (fsOf F) nm g l = r at *
    obtain ⟨x | op, s⟩ := r
    · obtain rfl : e = .returned (.int .i64 x) := he
      go_wp2_with (fail)
      go_ret
      exact HP.out _ rfl
    · obtain rfl : e = .panicked [{ v := crashI op, recovered := false }] := he
      exact ⟨rfl, HP.out _ rfl⟩
  · have HE : Hid (addD d (fsOf F) nm g l = (.inl 9, d, fsOf F)) := Lib.hid (if_neg hk)
    rw [if_neg hk] at HB2 ⊢
    rw [if_neg hk]
    clear hk
    go_wp2_with (fail)
    go_ret
    rw [HE.out]
    exact ⟨F, v, rfl, HD1.out, rfl, by rw [if_neg (by intro e; injection e with e; exact absurd e (by decide)), if_neg (by intro e; injection e with e; exact absurd e (by decide))]; exact H1.out, WlCh.of_below HB1.out⟩
theorem mReadW (h : DkAt w B D M d F) (hlen : FileLens F) (nm : ByteArray) : Calls Try.prog 29 #[pD D, .string nm] w fun e w' => ∃ A c x, e = .returned (.tuple #[.slice A (bsOf (fsOf F) nm).length c, .int .i64 x]) ∧ Bs w' A (bsOf (fsOf F) nm).length c (bsOf (fsOf F) nm) ∧ (∀ b, A = some b → w.heap.size ≤ b.block) ∧ Below w.heap.size w w' := by
  unfold bsOf
  cases hf : fget (fsOf F) nm with
  | none =>
    have hno : ∀ e ∈ F, e.nm ≠ nm := by
      rcases fget_split F nm with ⟨_, h1⟩ | ⟨P, e, Q, rfl, rfl, h1, _⟩
      · exact h1
      · rw [h1] at hf; cases hf
    refine (dkRead_none h nm hno).mono ?_
    rintro e w' ⟨rfl, rfl⟩
    exact ⟨none, 0, 6, rfl, Bs.nil _ 0 none (by simp [maxLen]), (fun b hb => by cases hb), Below.refl _ _⟩
  | some f =>
    have hl : f.bs.length ≤ 1073741824 := by
      rcases fget_split F nm with ⟨h0, _⟩ | ⟨P, e, Q, rfl, rfl, h1, _⟩
      · rw [h0] at hf; cases hf
      · rw [h1] at hf; injection hf with hf; subst hf; exact hlen e (by simp)
    refine (dkRead_some h hlen nm f hf).mono ?_
    rintro e w' ⟨g, rfl, hg, hr, hb⟩
    exact ⟨_, _, 0, rfl, Bs.block hr rfl (by simp only [maxLen]; omega), fun b hb => by injection hb with hb; subst hb; exact hg, hb⟩
/-- what Open leaves -/
def OEnd (E : Nat → Prop) (B D M : Nat) (F : List Ent) (nm : ByteArray) (w : World) (sc : List (List UInt8) × Nat × Int) (r : Out) (e : Ending) (w' : World) : Prop :=
  ∃ F', DkAt w' B D M r.2.1 F' ∧ fsOf F' = r.2.2 ∧ DkCh D M F F' w w' ∧
    match r.1 with
    | .inl x => if x = 0 then ∃ L v, e = .returned (.tuple #[pL L, .int .i64 0]) ∧ LgAt E w' B L D M F' nm sc.1 sc.2.1 v ∧ w.heap.size ≤ L ∧ (∀ k, v.ownBlock = some k → w.heap.size ≤ k) else e = .returned (.tuple #[.pointer none, .int .i64 x])
    | .inr op => e = .panicked [{ v := crashI op, recovered := false }]
theorem Rw.base {B' : Nat} {T : Nat → Prop} (h : Rw B' T w v rs) (hB : B ≤ B') : Rw B T w v rs := by
  obtain ⟨vs, h1, h2, h3, h4, h5⟩ := h
  refine ⟨vs, h1, ⟨h2.1, ?_⟩, h3, h4, h5⟩
  rcases h2.2 with q | ⟨g, cap, cur, q, q1, q2⟩
  · exact .inl q
  · exact .inr ⟨g, cap, cur, q, by omega, q2⟩
theorem bsOf_len (ok : FsOk d (fsOf F)) (nm : ByteArray) : (bsOf (fsOf F) nm).length ≤ 1073741824 := by
  unfold bsOf
  cases hf : fget (fsOf F) nm with
  | none => simp
  | some f =>
    have h1 := ok.len hf
    have h2 := ok.ok.used
    show f.bs.length ≤ _
    omega
set_option maxRecDepth 100000 in
set_option maxHeartbeats 4000000 in
theorem walOpen (h : DkAt w B D M d F) (ok : FsOk d (fsOf F)) (ho : d.ops + 8 ≤ 1152921504606846976) (nm : ByteArray) (hs : nm.size ≤ 140737488355328) (hn : nameD nm = true) (hBw : B ≤ w.heap.size) (hE : ∀ k, E k → k < w.heap.size) :
    Calls Try.prog 17 #[pD D, .string nm] w (OEnd E B D M F nm w (scan (bsOf (fsOf F) nm)) (openD d (fsOf F) nm)) := by
  have H := Lib.hid h
  have OK := Lib.hid ok
  have HO := Lib.hid ho
  have HBW := Lib.hid hBw
  have HBL := Lib.hid (bsOf_len ok nm)
  have HFT : Hid (∀ k, DFoot D M F k → k < w.heap.size) := Lib.hid (fun k hk => (h.foot_lt hk).2)
  have HNM := Lib.hid hn
  have HEB := Lib.hid hE
  clear h ok ho hBw hn hE
  go_enter Try.func17, Try.ntmps17
  go_wp2_with (fail)
  refine (fnRight nm w hs).mono ?_
  rintro e w0 ⟨rfl, rfl⟩
  rw [HNM.out]
  go_wp2_with (fail)
  refine (mReadW H.out OK.out.dk.lens nm).mono ?_
  rintro e w1 ⟨A1, c1, x1, rfl, hB1, _, hb1⟩
  have HE : Hid (openD d (fsOf F) nm = if (scan (bsOf (fsOf F) nm)).2.1 = (bsOf (fsOf F) nm).length then (.inl 0, d, fsOf F) else openT nm (opTrunc d (fsOf F) nm ((scan (bsOf (fsOf F) nm)).2.1 : Int))) := Lib.hid rfl
  have HSL := Lib.hid (scan_len (bsOf (fsOf F) nm))
  generalize bsOf (fsOf F) nm = bs at *
  have hb2 : Below w.heap.size w (w1.alloc (.cells #[pD D, .string nm, .slice none 0 0, .int .i64 0] TL)) := hb1.alloc hb1.size _
  have H2 := Lib.hid (H.out.below hb2)
  have HB2 := Lib.hid hb2
  have HBS2 : Hid (Bs (w1.alloc (.cells #[pD D, .string nm, .slice none 0 0, .int .i64 0] TL)) A1 bs.length c1 bs) := Lib.hid (hB1.alloc _)
  have HROW : Hid ((w1.alloc (.cells #[pD D, .string nm, .slice none 0 0, .int .i64 0] TL)).heap[w1.heap.size]? = some (.cells #[pD D, .string nm, .slice none 0 0, .int .i64 0] TL)) := Lib.hid (heap_alloc_new w1 _)
  have HLT : Hid (w.heap.size ≤ w1.heap.size ∧ w1.heap.size < (w1.alloc (.cells #[pD D, .string nm, .slice none 0 0, .int .i64 0] TL)).heap.size) := Lib.hid ⟨hb1.size, by simp⟩
  clear hb1 hB1 hb2 H
  go_wp2_with (fail)
  obtain ⟨L, hL⟩ : ∃ L, L = w1.heap.size := ⟨_, rfl⟩
  rw [← hL] at HROW HLT ⊢
  clear hL
  generalize w1.alloc (.cells #[pD D, .string nm, .slice none 0 0, .int .i64 0] TL) = w2 at *
  refine (entryScann A1 bs.length c1 bs w2 HBS2.out (by have := HBL.out; omega)).mono ?_
  rintro e w3 ⟨v, rfl, hrw, hb3⟩
  obtain ⟨Av, cv, rfl⟩ := hrw.form
  have hrow3 : w3.heap[L]? = some (.cells #[pD D, .string nm, .slice none 0 0, .int .i64 0] TL) := (hb3.block L HLT.out.2).trans HROW.out
  have z0 : w3.cell? ⟨L, 2, none⟩ = some (.slice none 0 0) := cell_of_row w3 L 2 _ _ _ hrow3
  have z1 : w3.frozen? ⟨L, 2, none⟩ = false := by simp [World.frozen?, hrow3]
  have z2 : w3.cell? ⟨L, 3, none⟩ = some (.int .i64 0) := cell_of_row w3 L 3 _ _ _ hrow3
  have z3 : w3.frozen? ⟨L, 3, none⟩ = false := by simp [World.frozen?, hrow3]
  obtain ⟨rs, hrs⟩ : ∃ rs, rs = (scan bs).1 := ⟨_, rfl⟩
  obtain ⟨g, hg⟩ : ∃ g, g = (scan bs).2.1 := ⟨_, rfl⟩
  rw [← hrs] at hrw
  obtain ⟨er, her⟩ : ∃ er, er = (scan bs).2.2 := ⟨_, rfl⟩
  rw [← hrs, ← hg, ← her]
  have HSC : Hid (scan bs = (rs, g, er)) := Lib.hid (by rw [hrs, hg, her])
  rw [← hg] at HE HSL
  have hcs : Ch (At1 L) w3 ((w3.setCell ⟨L, 2, none⟩ (.slice Av rs.length cv)).setCell ⟨L, 3, none⟩ (.int .i64 (g : Int))) := ((Ch.refl _ w3).set1 2 _).set1 3 _
  have hDk3 := H2.out.below hb3
  have hoff : ¬ DFoot D M F L := fun hk => by have := HFT.out L hk; have := HLT.out.1; omega
  have HD4 : Hid (DkAt ((w3.setCell ⟨L, 2, none⟩ (.slice Av rs.length cv)).setCell ⟨L, 3, none⟩ (.int .i64 (g : Int))) B D M d F) := Lib.hid (hDk3.ch hcs (fun k hk hs => by rw [show k = L from hs] at hk; exact hoff hk))
  have HL4 : Hid (LgAt E ((w3.setCell ⟨L, 2, none⟩ (.slice Av rs.length cv)).setCell ⟨L, 3, none⟩ (.int .i64 (g : Int))) B L D M F nm rs g (.slice Av rs.length cv)) := Lib.hid ⟨heap_set_row (heap_set_row hrow3 _) _, by have := HLT.out; have := HBW.out; omega, hoff, (hrw.base (Nat.le_trans HBW.out HB2.out.size)).ch hcs (fun k hk hs => by rw [show k = L from hs]; exact HLT.out.2) (fun k hk ht => by
    rcases ht with (ht | ht) | ht
    · rw [ht]; exact HLT.out.2
    · have := HFT.out k ht; have := HB2.out.size; omega
    · have := HEB.out k ht; have := HB2.out.size; omega)⟩
  have HB4 : Hid (Below w.heap.size w ((w3.setCell ⟨L, 2, none⟩ (.slice Av rs.length cv)).setCell ⟨L, 3, none⟩ (.int .i64 (g : Int)))) := Lib.hid ((HB2.out.trans (hb3.mono HB2.out.size)).trans (hcs.below (fun k hk => by rw [show k = L from hk]; exact HLT.out.1) (by have := HB2.out.size; have := hb3.size; omega)))
  have HFR : Hid (w.heap.size ≤ L ∧ ∀ k, (Value.slice Av rs.length cv).ownBlock = some k → w.heap.size ≤ k) := Lib.hid ⟨HLT.out.1, fun k hk => Nat.le_trans HB2.out.size (hrw.lt hk).1⟩
  have c3 : ((w3.setCell ⟨L, 2, none⟩ (.slice Av rs.length cv)).setCell ⟨L, 3, none⟩ (.int .i64 (g : Int))).cell? ⟨L, 3, none⟩ = some (.int .i64 (g : Int)) := HL4.out.cell 3
  clear hrw hb3 hrow3 hrs hg her hcs hDk3 hoff HBS2 HROW H2 HB2
  by_cases hgl : g = bs.length
  · have e1 : ((g : Int) == (bs.length : Int)) = true := by rw [hgl]; simp
    have e2 : decide (g = bs.length) = true := by simpa using hgl
    have HE2 : Hid (openD d (fsOf F) nm = (.inl 0, d, fsOf F)) := Lib.hid (by rw [HE.out, if_pos hgl])
    clear hgl
    go_wp2_with (fail)
    clear c3 z0 z1 z2 z3
    generalize (w3.setCell ⟨L, 2, none⟩ (.slice Av rs.length cv)).setCell ⟨L, 3, none⟩ (.int .i64 (g : Int)) = w4 at *
    go_ret2
    rw [HE2.out, HSC.out]
    exact ⟨F, HD4.out, rfl, DkCh.of_below HB4.out, L, _, rfl, HL4.out, HFR.out.1, HFR.out.2⟩
  · have e1 : ((g : Int) == (bs.length : Int)) = false := by rw [beq_eq_false_iff_ne]; omega
    have e2 : decide (g = bs.length) = false := by simpa using hgl
    have HE2 : Hid (openD d (fsOf F) nm = openT nm (opTrunc d (fsOf F) nm (g : Int))) := Lib.hid (by rw [HE.out, if_neg hgl])
    clear hgl
    go_wp2_with (fail)
    clear c3 z0 z1 z2 z3
    generalize (w3.setCell ⟨L, 2, none⟩ (.slice Av rs.length cv)).setCell ⟨L, 3, none⟩ (.int .i64 (g : Int)) = w4 at *
    refine (walTakeBack HL4.out HD4.out OK.out).mono ?_
    rintro e w5 ⟨F5, he, h5, hc5, hf5⟩
    have hok5 := trunc_ok OK.out (by have := HO.out; omega) nm (g : Int)
    have hop5 := trunc_opsW d (fsOf F) nm (g : Int)
    generalize opTrunc d (fsOf F) nm (g : Int) = r at *
    have HL5 := Lib.hid (HL4.out.dkch hc5)
    have HC5 := Lib.hid ((DkCh.of_below HB4.out).trans hc5)
    clear hc5 HL4 HD4
    obtain ⟨y | op, d5, fs5⟩ := r
    · obtain rfl : fsOf F5 = fs5 := hf5
      obtain rfl : e = .returned (.tuple #[]) := he
      have HD5 := Lib.hid (show DkAt w5 B D M d5 F5 from h5)
      have OK5 := Lib.hid (show FsOk d5 (fsOf F5) from hok5)
      have HE3 : Hid (openD d (fsOf F) nm = opSync d5 (fsOf F5) nm) := HE2
      clear h5 hok5 hop5 HE2
      go_wp2_with (fail)
      refine (mSync HD5.out OK5.out nm).mono ?_
      rintro e w6 ⟨F6, he, h6, hc6, hf6⟩
      generalize opSync d5 (fsOf F5) nm = r at *
      have HL6 := Lib.hid (HL5.out.dkch hc6)
      have HC6 := Lib.hid (HC5.out.trans hc6)
      clear hc6 HL5 HC5
      obtain ⟨x | op, d6, fs6⟩ := r
      · obtain rfl : fsOf F6 = fs6 := hf6
        obtain rfl : e = .returned (.int .i64 x) := he
        have HD6 := Lib.hid (show DkAt w6 B D M d6 F6 from h6)
        clear h6
        by_cases hx : x = 0
        · subst hx
          go_wp2_with (fail)
          go_ret2
          rw [HE3.out, HSC.out]
          exact ⟨F6, HD6.out, rfl, HC6.out, L, _, rfl, HL6.out, HFR.out.1, HFR.out.2⟩
        · have e3 : (x != 0) = true := by simpa using hx
          have HX := Lib.hid hx
          clear hx
          go_wp2_with (fail)
          go_ret2
          rw [HE3.out]
          refine ⟨F6, HD6.out, rfl, HC6.out, ?_⟩
          show if x = 0 then _ else _
          rw [if_neg HX.out]
          rfl
      · obtain rfl : fsOf F6 = fs6 := hf6
        obtain rfl : e = .panicked [{ v := crashI op, recovered := false }] := he
        rw [HE3.out]
        exact ⟨rfl, F6, h6, rfl, HC6.out, rfl⟩
    · obtain rfl : fsOf F5 = fs5 := hf5
      obtain rfl : e = .panicked [{ v := crashI op, recovered := false }] := he
      rw [HE2.out]
      exact ⟨rfl, F5, h5, rfl, HC5.out, rfl⟩
end
end Go.Proofs.Ythblbmbefhlbjaa

/- Layer 14: Add on a disk that does as it is told, as plain functions. -/
namespace Go.Proofs.Ythblbmbefhlbjaa
open Go.RowKit Go.MapKept

theorem trunc_opsP (d : Dk) (fs : Fs) (a : ByteArray) (n : Int) : (opTrunc d fs a n).2.1.ops ≤ d.ops + 1 := by
  have := callD_ops (d := d) (fs := fs) 1 n 0 a a []
  simpa [callD, liftO] using this
theorem sync_opsP (d : Dk) (fs : Fs) (a : ByteArray) : (opSync d fs a).2.1.ops ≤ d.ops + 1 := by
  have := callD_ops (d := d) (fs := fs) 2 0 0 a a []
  simpa [callD, liftO] using this
theorem app_opsP (d : Dk) (fs : Fs) (a : ByteArray) (l : List UInt8) : (appO d fs a l).2.1.ops ≤ d.ops + 1 := by
  have := callD_ops (d := d) (fs := fs) 0 0 0 a a l
  simpa [callD] using this
theorem app_okP {d : Dk} {fs : Fs} (h : FsOk d fs) (ho : d.ops + 1 ≤ 1152921504606846976) (a : ByteArray) (l : List UInt8) : FsOk (appO d fs a l).2.1 (appO d fs a l).2.2 := by
  have := callD_ok h ho 0 0 0 (by decide) (by decide) a a l
  simpa [callD] using this
theorem undo_ok {x : Int} {r : Out} {k : Int} (h : FsOk r.2.1 r.2.2) (ho : r.2.1.ops ≤ k) : FsOk (undo_ x r).2.1 (undo_ x r).2.2 ∧ (undo_ x r).2.1.ops ≤ k := by
  obtain ⟨y | op, d, fs⟩ := r
  · exact ⟨h, ho⟩
  · exact ⟨h, ho⟩
theorem addD_ok {d : Dk} {fs : Fs} (ok : FsOk d fs) (ho : d.ops + 8 ≤ 1152921504606846976) (nm : ByteArray) (g : Nat) (b : List UInt8) : FsOk (addD d fs nm g b).2.1 (addD d fs nm g b).2.2 ∧ (addD d fs nm g b).2.1.ops ≤ d.ops + 3 := by
  unfold addD
  split
  · have h2 := app_okP ok (by omega) nm (record b)
    have o2 := app_opsP d fs nm (record b)
    generalize appO d fs nm (record b) = r at h2 o2
    obtain ⟨⟨n, y | op⟩, d3, fs3⟩ := r
    · have o2' : d3.ops ≤ d.ops + 1 := o2
      show FsOk (if n < ((record b).length : Int) then undo_ 4 (opTrunc d3 fs3 nm (g : Int)) else addS nm g (opSync d3 fs3 nm)).2.1 (if n < ((record b).length : Int) then undo_ 4 (opTrunc d3 fs3 nm (g : Int)) else addS nm g (opSync d3 fs3 nm)).2.2 ∧ (if n < ((record b).length : Int) then undo_ 4 (opTrunc d3 fs3 nm (g : Int)) else addS nm g (opSync d3 fs3 nm)).2.1.ops ≤ d.ops + 3
      split
      · exact undo_ok (trunc_ok h2 (by show d3.ops + 1 ≤ _; omega) nm _) (by have := trunc_opsP d3 fs3 nm (g : Int); omega)
      · have h3 := sync_ok h2 (by show d3.ops + 1 ≤ _; omega) nm
        have o3 := sync_opsP d3 fs3 nm
        generalize opSync d3 fs3 nm = r at h3 o3
        obtain ⟨x2 | op, d4, fs4⟩ := r
        · have o3' : d4.ops ≤ d3.ops + 1 := o3
          show FsOk (if x2 = 0 then ((.inl 0, d4, fs4) : Out) else undo_ 5 (opTrunc d4 fs4 nm (g : Int))).2.1 (if x2 = 0 then ((.inl 0, d4, fs4) : Out) else undo_ 5 (opTrunc d4 fs4 nm (g : Int))).2.2 ∧ (if x2 = 0 then ((.inl 0, d4, fs4) : Out) else undo_ 5 (opTrunc d4 fs4 nm (g : Int))).2.1.ops ≤ d.ops + 3
          split
          · exact ⟨h3, by show d4.ops ≤ _; omega⟩
          · exact undo_ok (trunc_ok h3 (by show d4.ops + 1 ≤ _; omega) nm _) (by have := trunc_opsP d4 fs4 nm (g : Int); omega)
        · exact ⟨h3, by have o3' : d4.ops ≤ d3.ops + 1 := o3; show d4.ops ≤ _; omega⟩
    · exact ⟨h2, by have o2' : d3.ops ≤ d.ops + 1 := o2; show d3.ops ≤ _; omega⟩
  · exact ⟨ok, by show d.ops ≤ _; omega⟩
theorem openD_ok {d : Dk} {fs : Fs} (ok : FsOk d fs) (ho : d.ops + 8 ≤ 1152921504606846976) (nm : ByteArray) : FsOk (openD d fs nm).2.1 (openD d fs nm).2.2 ∧ (openD d fs nm).2.1.ops ≤ d.ops + 2 := by
  unfold openD
  split
  · exact ⟨ok, by show d.ops ≤ _; omega⟩
  · have h2 := trunc_ok ok (by omega) nm ((scan (bsOf fs nm)).2.1 : Int)
    have o2 := trunc_opsP d fs nm ((scan (bsOf fs nm)).2.1 : Int)
    generalize opTrunc d fs nm ((scan (bsOf fs nm)).2.1 : Int) = r at h2 o2
    obtain ⟨x | op, d3, fs3⟩ := r
    · have o2' : d3.ops ≤ d.ops + 1 := o2
      exact ⟨sync_ok h2 (by show d3.ops + 1 ≤ _; omega) nm, by show (opSync d3 fs3 nm).2.1.ops ≤ _; have := sync_opsP d3 fs3 nm; omega⟩
    · exact ⟨h2, by have o2' : d3.ops ≤ d.ops + 1 := o2; show d3.ops ≤ _; omega⟩

/-- a disk that does as it is told, with one log -/
structure WPlain (d : Dk) (fs : Fs) (nm : ByteArray) (rs : List (List UInt8)) : Prop where
  ha : d.armedIn = 0
  hf : d.failIn = 0
  hw : WalFs fs nm rs
  hu : d.used = ((recs rs).length : Int)
theorem app_plain {d : Dk} {fs : Fs} {nm : ByteArray} (l : List UInt8) (hn : nameD nm = true) (ha : d.armedIn = 0) :
    appO d fs nm l = (((appN d l.length : Int), .inl (appE d l.length)), { d.begin with used := d.used + (appN d l.length : Int) }, layF fs nm (l.take (appN d l.length))) := by
  unfold appO
  rw [if_neg (by rw [hn]; decide), if_neg (by omega)]
theorem layF_get {fs : Fs} {nm : ByteArray} {rs : List (List UInt8)} (h : WalFs fs nm rs) (b : List UInt8) : fget (layF fs nm b) nm = some ⟨recs rs ++ b, (recs rs).length⟩ := by
  unfold layF
  rw [fget_put_same]
  rcases h.2 with ⟨h1, rfl⟩ | h1
  · rw [h1]; rfl
  · rw [h1]
theorem trunc_plain {d : Dk} {fs : Fs} {nm : ByteArray} {f : Fl} {n : Nat} (h : fget fs nm = some f) (hn : n ≤ f.bs.length) (ha : d.armedIn = 0) :
    opTrunc d fs nm (n : Int) = (.inl 0, { d.begin with used := d.used - ((f.bs.length : Int) - (n : Int)) }, fput fs nm (trFl n f)) := by
  unfold opTrunc
  rw [h]
  simp only
  rw [if_neg (by omega)]
  unfold opChange
  rw [if_neg (by omega)]
  simp
theorem sync_plain {d : Dk} {fs : Fs} {nm : ByteArray} {f : Fl} (h : fget fs nm = some f) (ha : d.armedIn = 0) (hf : d.failIn = 0) :
    opSync d fs nm = (.inl 0, d.syncs.begin, fput fs nm ⟨f.bs, f.bs.length⟩) := by
  unfold opSync
  rw [h]
  simp only
  unfold opChange
  rw [if_neg (by omega)]
  have : (d.failIn == 1) = false := by rw [hf]; rfl
  rw [this]
  rfl
theorem addS_zero (nm : ByteArray) (g : Nat) (s : Dk × Fs) : addS nm g (.inl 0, s) = (.inl 0, s) := by simp [addS]
theorem addD_plain {d : Dk} {fs : Fs} {nm : ByteArray} {rs : List (List UInt8)} (h : WPlain d fs nm rs) (hn : nameD nm = true) (b : List UInt8) (hb : okLen b.length = true) :
    (addD d fs nm (recs rs).length b).2.1.room = d.room ∧
    ((((recs rs).length : Int) + ((record b).length : Int) ≤ d.room ∧ (addD d fs nm (recs rs).length b).1 = .inl 0 ∧ WPlain (addD d fs nm (recs rs).length b).2.1 (addD d fs nm (recs rs).length b).2.2 nm (rs ++ [b])) ∨
     (d.room < ((recs rs).length : Int) + ((record b).length : Int) ∧ (addD d fs nm (recs rs).length b).1 = .inl 4 ∧ WPlain (addD d fs nm (recs rs).length b).2.1 (addD d fs nm (recs rs).length b).2.2 nm rs)) := by
  have hk := addD_keeps d b hn h.hw
  have e0 : addD d fs nm (recs rs).length b = addA nm (recs rs).length (record b).length (appO d fs nm (record b)) := if_pos hb
  rw [app_plain _ hn h.ha] at e0
  have hg := layF_get h.hw ((record b).take (appN d (record b).length))
  have hu := h.hu
  have hnN : appN d (record b).length = min (record b).length (d.room - d.used).toNat := rfl
  obtain ⟨N, hN⟩ : ∃ N, N = appN d (record b).length := ⟨_, rfl⟩
  rw [← hN] at e0 hg hnN
  obtain ⟨m, hm⟩ : ∃ m, m = (record b).length := ⟨_, rfl⟩
  have hm8 : 8 ≤ m := by rw [hm, record_length]; omega
  rw [← hm] at e0 hnN ⊢
  have hlen : (recs rs ++ (record b).take N).length = (recs rs).length + N := by rw [List.length_append, List.length_take]; omega
  obtain ⟨d1, hd1⟩ : ∃ d1 : Dk, d1 = { d.begin with used := d.used + (N : Int) } := ⟨_, rfl⟩
  have a1 : d1.armedIn = 0 := by rw [hd1]; exact begin_rest h.ha
  have f1 : d1.failIn = 0 := by rw [hd1]; exact h.hf
  have r1 : d1.room = d.room := by rw [hd1]; rfl
  have u1 : d1.used = d.used + (N : Int) := by rw [hd1]
  rw [← hd1] at e0
  clear hd1
  by_cases hlt : N < m
  · have e1 : addD d fs nm (recs rs).length b = undo_ 4 (opTrunc d1 (layF fs nm ((record b).take N)) nm ((recs rs).length : Int)) := by
      rw [e0]; exact if_pos (show (N : Int) < (m : Int) by omega)
    rw [trunc_plain hg (by simp) a1] at e1
    simp only [hlen] at e1
    rw [e1] at hk
    rw [e1]
    refine ⟨r1, .inr ⟨by omega, rfl, ⟨begin_rest (d := d1) a1, f1, hk, ?_⟩⟩⟩
    show d1.used - ((((recs rs).length + N : Nat) : Int) - ((recs rs).length : Int)) = _
    omega
  · have hNm : N = m := by omega
    have e1 : addD d fs nm (recs rs).length b = addS nm (recs rs).length (opSync d1 (layF fs nm ((record b).take N)) nm) := by
      rw [e0]; exact if_neg (show ¬ (N : Int) < (m : Int) by omega)
    rw [sync_plain hg a1 f1] at e1
    have e2 : addD d fs nm (recs rs).length b = (.inl 0, (d1.syncs.begin, fput (layF fs nm ((record b).take N)) nm ⟨recs rs ++ (record b).take N, (recs rs ++ (record b).take N).length⟩)) := by
      rw [e1]; exact addS_zero _ _ _
    rw [e2] at hk
    rw [e2]
    refine ⟨r1, .inl ⟨by omega, rfl, ⟨begin_rest (d := d1.syncs) a1, syncs_rest (d := d1) f1, hk.2, ?_⟩⟩⟩
    show d1.used = _
    rw [recs_snoc, List.length_append, ← hm]
    omega
end Go.Proofs.Ythblbmbefhlbjaa

/- Layer 14: the document's example, walked. -/
namespace Go.Proofs.Ythblbmbefhlbjaa
open Go.RowKit Go.MapKept

abbrev nmL : ByteArray := ⟨#[108, 111, 103]⟩
theorem nameL : nameD nmL = true := by decide +kernel
theorem newW_ok (r : Int) (h : 0 ≤ r ∧ r ≤ 1073741824) : FsOk ⟨r, 0, 0, 0, 0, 0⟩ (fsOf []) :=
  ⟨⟨h, by show (0 : Int) ≤ 0 ∧ (0 : Int) ≤ 1073741824; decide, by show (0 : Int) ≤ 0 ∧ (0 : Int) ≤ 1152921504606846976; decide, by show (0 : Int) ≤ 0 ∧ (0 : Int) ≤ 9223372036854775807; decide, by show (0 : Int) ≤ 0 ∧ (0 : Int) ≤ 9223372036854775807; decide, by show (-9223372036854775808 : Int) ≤ 0 ∧ (0 : Int) ≤ 9223372036854775807; decide⟩, rfl, (fun e he => by cases he), by simp [fsOf]⟩
theorem newW_plain (r : Int) (nm : ByteArray) : WPlain ⟨r, 0, 0, 0, 0, 0⟩ (fsOf []) nm [] := ⟨rfl, rfl, ⟨(fun x hx => by cases hx), .inl ⟨rfl, rfl⟩⟩, rfl⟩
theorem walOpen_new {E : Nat → Prop} {w : World} {B D M : Nat} {r : Int} (hr : 0 ≤ r ∧ r ≤ 1073741824) (h : DkAt w B D M ⟨r, 0, 0, 0, 0, 0⟩ []) (nm : ByteArray) (hs : nm.size ≤ 140737488355328) (hn : nameD nm = true) (hBw : B ≤ w.heap.size) (hE : ∀ k, E k → k < w.heap.size) :
    Calls Try.prog 17 #[pD D, .string nm] w fun e w' => ∃ L v, e = .returned (.tuple #[pL L, .int .i64 0]) ∧ LgAt E w' B L D M [] nm [] 0 v ∧ DkAt w' B D M ⟨r, 0, 0, 0, 0, 0⟩ [] ∧ DkCh D M [] [] w w' ∧ w.heap.size ≤ L ∧ (∀ k, v.ownBlock = some k → w.heap.size ≤ k) := by
  refine (walOpen h (newW_ok r hr) (by show (0 : Int) + 8 ≤ _; decide) nm hs hn hBw hE).mono ?_
  rintro e w' ⟨F', h1, h2, h3, h4⟩
  have e1 : openD ⟨r, 0, 0, 0, 0, 0⟩ (fsOf []) nm = (.inl 0, ⟨r, 0, 0, 0, 0, 0⟩, fsOf []) := (openD_whole _ (newW_plain r nm).hw).1
  rw [e1] at h1 h2 h4
  obtain rfl : F' = [] := by
    cases F' with
    | nil => rfl
    | cons a b => simp [fsOf] at h2
  obtain ⟨L, v, he, h5, h6, h7⟩ := h4
  exact ⟨L, v, he, h5, h1, h3, h6, h7⟩
/-- an Add on a disk that does as it is told -/
def addX (room : Int) (rs : List (List UInt8)) (l : List UInt8) : Int × List (List UInt8) :=
  if okLen l.length = false then (9, rs) else if ((recs rs).length : Int) + ((record l).length : Int) ≤ room then (0, rs ++ [l]) else (4, rs)
def AddP (E : Nat → Prop) (B L D M : Nat) (F : List Ent) (nm : ByteArray) (rs : List (List UInt8)) (v : Value) (d : Dk) (w : World) (l : List UInt8) (e : Ending) (w' : World) : Prop :=
  ∃ F' v' d', e = .returned (.int .i64 (addX d.room rs l).1) ∧ DkAt w' B D M d' F' ∧ LgAt E w' B L D M F' nm (addX d.room rs l).2 (recs (addX d.room rs l).2).length v' ∧ WlCh L D M F F' v v' w w' ∧ FsOk d' (fsOf F') ∧ WPlain d' (fsOf F') nm (addX d.room rs l).2 ∧ d'.ops ≤ d.ops + 3 ∧ d'.room = d.room
theorem walAddP {E : Nat → Prop} {w : World} {B L D M : Nat} {d : Dk} {F : List Ent} {nm : ByteArray} {rs : List (List UInt8)} {v : Value} (h : LgAt E w B L D M F nm rs (recs rs).length v) (hd : DkAt w B D M d F) (ok : FsOk d (fsOf F)) (hp : WPlain d (fsOf F) nm rs) (ho : d.ops + 8 ≤ 1152921504606846976) (hs : nm.size ≤ 140737488355328) (hnm : nameD nm = true)
    (A : Option Addr) (n c : Nat) (l : List UInt8) (hl : Bs w A n c l) (hoff : 0 < n → ∀ b, A = some b → ¬ DFoot D M F b.block) (hn : rs.length ≤ 1099511627770) (hBw : B ≤ w.heap.size) (hE : ∀ k, E k → k < w.heap.size) :
    Calls Try.prog 13 #[pL L, .slice A n c] w (AddP E B L D M F nm rs v d w l) := by
  have hnl := hl.len
  subst hnl
  have hu := ok.ok.used
  have hpu := hp.hu
  refine (walAdd h hd ok ho hs A c l hl hoff (by omega) hn hBw hE).mono ?_
  rintro e w' ⟨F', v', he, h1, h2, h3, h4⟩
  obtain ⟨hok, hop⟩ := addD_ok ok ho nm (recs rs).length l
  by_cases hk : okLen l.length = true
  · obtain ⟨hr, hx⟩ := addD_plain hp hnm l hk
    have hkf : ¬ okLen l.length = false := by rw [hk]; decide
    rcases hx with ⟨hle, hx, hw⟩ | ⟨hgt, hx, hw⟩
    · have ea : addX d.room rs l = (0, rs ++ [l]) := by unfold addX; rw [if_neg hkf, if_pos hle]
      rw [hx] at he h3
      rw [if_pos rfl, if_pos rfl] at h3
      refine ⟨F', v', _, by rw [ea]; exact he, h1, ?_, h4, by rw [h2]; exact hok, by rw [h2, ea]; exact hw, hop, hr⟩
      rw [ea]
      show LgAt E w' B L D M F' nm (rs ++ [l]) (recs (rs ++ [l])).length v'
      rw [recs_snoc, List.length_append]
      exact h3
    · have ea : addX d.room rs l = (4, rs) := by unfold addX; rw [if_neg hkf, if_neg (by omega)]
      rw [hx] at he h3
      rw [if_neg (by intro e; injection e with e; exact absurd e (by decide)), if_neg (by intro e; injection e with e; exact absurd e (by decide))] at h3
      exact ⟨F', v', _, by rw [ea]; exact he, h1, by rw [ea]; exact h3, h4, by rw [h2]; exact hok, by rw [h2, ea]; exact hw, hop, hr⟩
  · have hkf : okLen l.length = false := by simpa using hk
    have ea : addX d.room rs l = (9, rs) := by unfold addX; rw [if_pos hkf]
    have ed : addD d (fsOf F) nm (recs rs).length l = (.inl 9, d, fsOf F) := if_neg hk
    rw [ed] at he h1 h2 h3 hok
    rw [if_neg (by intro e; injection e with e; exact absurd e (by decide)), if_neg (by intro e; injection e with e; exact absurd e (by decide))] at h3
    exact ⟨F', v', d, by rw [ea]; exact he, h1, by rw [ea]; exact h3, h4, by rw [h2]; exact ok, by rw [h2, ea]; exact hp, by omega, rfl⟩

set_option maxRecDepth 100000 in
set_option maxHeartbeats 8000000 in
theorem alive14 (w : World) : Calls Try.prog 9 #[] w (True_ w) := by
  have hcv := fun w C n c => Lib.run_convert_bytes_const (P := Try.prog) w 27 5 C n c Try.underlying27 Try.underlying5
  go_enter Try.func9, Try.ntmps9
  go_wp2_with (fail)
  refine (dkNew 20 (by decide) w).mono ?_
  rintro e w1 ⟨D, M, rfl, h1, hb1⟩
  have H1 := Lib.hid h1
  have HB1 := Lib.hid hb1
  clear h1 hb1
  go_wp2_with (fail)
  refine (walOpen_new (E := fun _ => False) (by decide) H1.out nmL (by decide) nameL HB1.out.size (fun _ h => h.elim)).mono ?_
  rintro e w2 ⟨L, v, rfl, hl2, h2, hc2, _, _⟩
  have HB2 := Lib.hid (HB1.out.trans (hc2.below H1.out HB1.out.size))
  have HL2 := Lib.hid hl2
  have H2 := Lib.hid h2
  clear hl2 h2 hc2 H1 HB1
  have hb3 : Below w2.heap.size w2 (w2.alloc (.cells #[.int .u8 49, .int .u8 50, .int .u8 51, .int .u8 52, .int .u8 53] 5 (5, 6))) := (Below.refl _ _).alloc (Nat.le_refl _) _
  have HL3 := Lib.hid (HL2.out.below hb3)
  have H3 := Lib.hid (H2.out.below hb3)
  have HB3 := Lib.hid (HB2.out.trans (hb3.mono HB2.out.size))
  have HBS3 : Hid (Bs (w2.alloc (.cells #[.int .u8 49, .int .u8 50, .int .u8 51, .int .u8 52, .int .u8 53] 5 (5, 6))) (some ⟨w2.heap.size, 0, none⟩) 5 5 [49, 50, 51, 52, 53]) := Lib.hid (Bs.litText w2 [49, 50, 51, 52, 53] 5 _ _ _ _ rfl rfl rfl (by simp [maxLen]))
  have HOF3 : Hid (∀ k, DFoot D M [] k → k < w2.heap.size) := Lib.hid (fun k hk => (H2.out.foot_lt hk).2)
  clear hb3
  go_wp2_with (fail)
  generalize w2.alloc (.cells #[.int .u8 49, .int .u8 50, .int .u8 51, .int .u8 52, .int .u8 53] 5 (5, 6)) = w3 at *
  refine (walAddP HL3.out H3.out (newW_ok 20 (by decide)) (newW_plain 20 nmL) (by show (0 : Int) + 8 ≤ _; decide) (by decide) nameL (some ⟨w2.heap.size, 0, none⟩) 5 5 [49, 50, 51, 52, 53] HBS3.out (fun _ b hb hk => by injection hb with hb; subst hb; have := HOF3.out _ hk; simp only at this; omega) (by decide) HB3.out.size (fun _ h => h.elim)).mono ?_
  rintro e w4 ⟨F4, v4, d4, rfl, h4, hl4, hc4, hok4, hp4, hop4, hr4⟩
  have ea : addX 20 [] [49, 50, 51, 52, 53] = (0, [[49, 50, 51, 52, 53]]) := by decide +kernel
  rw [show (⟨20, 0, 0, 0, 0, 0⟩ : Dk).room = 20 from rfl, ea] at hl4 hp4 ⊢
  rw [show (⟨20, 0, 0, 0, 0, 0⟩ : Dk).room = 20 from rfl] at hr4
  have HB4 := Lib.hid (HB3.out.trans (hc4.below HL3.out H3.out HB3.out.size))
  have H4 := Lib.hid h4
  have HL4 := Lib.hid hl4
  have HP4 := Lib.hid hp4
  have HOK4 := Lib.hid hok4
  have HOP4 : Hid (d4.ops ≤ 3) := Lib.hid (by have : (⟨20, 0, 0, 0, 0, 0⟩ : Dk).ops = 0 := rfl; omega)
  have HR4 := Lib.hid hr4
  clear h4 hl4 hc4 hok4 hp4 hop4 hr4 ea HL3 H3 HB3 HBS3 HOF3 HL2 H2 HB2
  have hb5 : Below w4.heap.size w4 (w4.alloc (.cells #[.int .u8 54, .int .u8 55, .int .u8 56, .int .u8 57, .int .u8 48] 5 (5, 6))) := (Below.refl _ _).alloc (Nat.le_refl _) _
  have HL5 := Lib.hid (HL4.out.below hb5)
  have H5 := Lib.hid (H4.out.below hb5)
  have HB5 := Lib.hid (HB4.out.trans (hb5.mono HB4.out.size))
  have HBS5 : Hid (Bs (w4.alloc (.cells #[.int .u8 54, .int .u8 55, .int .u8 56, .int .u8 57, .int .u8 48] 5 (5, 6))) (some ⟨w4.heap.size, 0, none⟩) 5 5 [54, 55, 56, 57, 48]) := Lib.hid (Bs.litText w4 [54, 55, 56, 57, 48] 5 _ _ _ _ rfl rfl rfl (by simp [maxLen]))
  have HOF5 : Hid (∀ k, DFoot D M F4 k → k < w4.heap.size) := Lib.hid (fun k hk => (H4.out.foot_lt hk).2)
  clear hb5
  go_wp2_with (fail)
  generalize w4.alloc (.cells #[.int .u8 54, .int .u8 55, .int .u8 56, .int .u8 57, .int .u8 48] 5 (5, 6)) = w5 at *
  refine (walAddP HL5.out H5.out HOK4.out HP4.out (by have := HOP4.out; omega) (by decide) nameL (some ⟨w4.heap.size, 0, none⟩) 5 5 [54, 55, 56, 57, 48] HBS5.out (fun _ b hb hk => by injection hb with hb; subst hb; have := HOF5.out _ hk; simp only at this; omega) (by decide) HB5.out.size (fun _ h => h.elim)).mono ?_
  rintro e w6 ⟨F6, v6, d6, rfl, h6, hl6, hc6, hok6, hp6, hop6, hr6⟩
  have ea : addX 20 [[49, 50, 51, 52, 53]] [54, 55, 56, 57, 48] = (4, [[49, 50, 51, 52, 53]]) := by decide +kernel
  rw [HR4.out, ea] at hl6 hp6 ⊢
  have HB6 := Lib.hid (HB5.out.trans (hc6.below HL5.out H5.out HB5.out.size))
  have HU : Hid (d6.used = 13) := Lib.hid (by rw [hp6.hu]; decide +kernel)
  have HG : Hid ((recs [[49, 50, 51, 52, 53]]).length = 13) := Lib.hid (by decide +kernel)
  have H6 := Lib.hid h6
  have HL6 := Lib.hid hl6
  clear h6 hl6 hc6 hok6 hp6 hop6 hr6 ea HL5 H5 HB5 HBS5 HOF5 HL4 H4 HB4 hcv
  go_wp2_with (fail)
  refine (dkUsed H6.out).mono ?_
  rintro e w7 ⟨rfl, rfl⟩
  rw [HU.out]
  go_wp2_with (fail)
  refine (walLen HL6.out).mono ?_
  rintro e w7 ⟨rfl, rfl⟩
  go_wp2_with (fail)
  refine (walGood HL6.out).mono ?_
  rintro e w7 ⟨rfl, rfl⟩
  rw [HG.out]
  go_wp2_with (fail)
  go_ret
  exact ⟨rfl, HB6.out⟩
end Go.Proofs.Ythblbmbefhlbjaa
/- Layer 13: the document's Scan; its rows lie in memory of the call's own. -/
namespace Go.Proofs.Ythblbmbefhlbjaa
open Go.RowKit

def RetSF13 (l : List UInt8) (w : World) (e : Ending) (w' : World) : Prop := ∃ A c, e = .returned (.slice A l.length c) ∧ Bs w' A l.length c l ∧ Below w.heap.size w w' ∧ ∀ a, A = some a → w.heap.size ≤ a.block
set_option maxRecDepth 100000 in
set_option maxHeartbeats 2000000 in
theorem refPut13F (A : Option Addr) (n c : Nat) (l : List UInt8) (w : World) (hB : Bs w A n c l) (hn : n ≤ 1000000000) :
    Calls Try.prog 55 #[.slice A n c] w (RetSF13 (record l) w) := by
  have HB := Lib.hid hB
  have HL : l.length = n := hB.len
  have hx : n < 4294967296 := by omega
  have hw32 : IntKind.u32.wrap (n : Int) = (n : Int) := by rw [IntKind.wrap_u32]; omega
  have hs := Crc.sum_lt (s := 0) (be4 n ++ l) (by omega)
  have HLH := Lib.hid HL
  clear hB HL
  go_enter Try.func55, Try.ntmps55
  go_wp2_with (fail)
  refine (refFour n w hx).mono ?_
  rintro e w' ⟨p, q, r, s, hbe, rfl, rfl⟩
  have HBE := Lib.hid hbe
  have HB1 : Hid (Below w.heap.size w (w.alloc (.cells #[.int .u8 (p.toNat : Int), .int .u8 (q.toNat : Int), .int .u8 (r.toNat : Int), .int .u8 (s.toNat : Int)] 5))) := Lib.hid ((Below.refl _ _).alloc (Nat.le_refl _) _)
  have HF1 := Lib.hid (Bs.lit w [p, q, r, s] 5 #[.int .u8 (p.toNat : Int), .int .u8 (q.toNat : Int), .int .u8 (r.toNat : Int), .int .u8 (s.toNat : Int)] w.heap.size rfl rfl rfl (by simp [maxLen]))
  rw [show ([p, q, r, s] : List UInt8).length = 4 from rfl] at HF1
  clear hbe
  have HBL := Lib.hid (HB.out.below HB1.out)
  obtain ⟨g0, hg0⟩ : ∃ g0, w.heap.size = g0 := ⟨_, rfl⟩
  rw [hg0] at HF1 HB1 ⊢
  have HG0 := Lib.hid hg0
  have HZ1 : Hid (g0 ≤ (w.alloc (.cells #[.int .u8 (p.toNat : Int), .int .u8 (q.toNat : Int), .int .u8 (r.toNat : Int), .int .u8 (s.toNat : Int)] 5)).heap.size) := Lib.hid (by have := HB1.out.size; rw [hg0] at this; exact this)
  clear hg0
  generalize (w.alloc (.cells #[.int .u8 (p.toNat : Int), .int .u8 (q.toNat : Int), .int .u8 (r.toNat : Int), .int .u8 (s.toNat : Int)] 5)) = w1 at *
  have tok1 : True := trivial
  have tok2 : True := trivial
  go_wp2_with (first
    | (at_builtin; have _t := tok1; go_loud ((refine wpList_app rfl (.tmp 9) (.tmp 10) 27 rfl w1.heap.size 5 Try.underlying27 byteInfo _ [] rfl (Own.lit 5 w1 [] (Nat.le_refl _) (by simp [maxLen])) _ 4 4 [p, q, r, s] rfl (HF1.out.alloc _) (by simp) (by simp) ?_; intro v2 w2 hown2 hb2 hg2; have b2 := (((Below.refl _ w1).alloc (Nat.le_refl _) _)).trans hb2; clear tok1 hb2 hg2 _t)))
    | (at_builtin; have _t := tok2; go_loud ((refine wpList_app rfl (.tmp 11) (.tmp 12) 27 rfl w1.heap.size 5 Try.underlying27 byteInfo _ ([] ++ [p, q, r, s]) rfl hown2 _ n c l rfl (HBL.out.below b2) (by simp; omega) b2.size ?_; intro v3 w3 hown3 hb3 hg3; have b3 := b2.trans hb3; clear tok2 hb3 hg3 _t))))
  have hE : ([] ++ [p, q, r, s] ++ l : List UInt8) = be4 n ++ l := by rw [HBE.out]; rfl
  rw [hE] at hown3
  obtain ⟨A3, c3, rfl, hB3, _⟩ := hown3.bs
  have hEL : (be4 n ++ l).length = n + 4 := by simp [be4, HLH.out]; try omega
  rw [hEL] at hB3 ⊢
  have HB3 := Lib.hid (HB1.out.trans (b3.mono HZ1.out))
  have HF3 := Lib.hid (HF1.out.below b3)
  have HZ3 := Lib.hid b3.size
  have HBL3 := Lib.hid (HBL.out.below b3)
  have HX3 := Lib.hid hB3
  have HSL := Lib.hid hEL
  clear hB3 hown3 b3 b2 hown2 hE hEL
  refine (refSum A3 (n + 4) c3 (be4 n ++ l) w3 HX3.out).mono ?_
  rintro e w' ⟨rfl, rfl⟩
  have HREC : Hid (record l = [] ++ [p, q, r, s] ++ be4 (Crc.sum 0 (be4 n ++ l)) ++ l) := Lib.hid (by unfold record; rw [HLH.out, HBE.out]; rfl)
  generalize Crc.sum 0 (be4 n ++ l) = x at *
  have tok3 : True := trivial
  have tok4 : True := trivial
  have tok5 : True := trivial
  go_wp2_with (at_builtin; have _t := tok3; go_loud ((refine wpList_app rfl (.tmp 15) (.tmp 16) 27 rfl w3.heap.size 5 Try.underlying27 byteInfo _ [] rfl (Own.lit 5 w3 [] (Nat.le_refl _) (by simp [maxLen])) _ 4 4 [p, q, r, s] rfl (HF3.out.alloc _) (by simp) (by simp) ?_; intro v4 w4 hown4 hb4 hg4; have b4 := (((Below.refl _ w3).alloc (Nat.le_refl _) _)).trans hb4; clear tok3 hb4 hg4 _t)))
  refine (refFour x w4 hs).mono ?_
  rintro e w' ⟨p2, q2, r2, s2, hbe2, rfl, rfl⟩
  have HBE2 := Lib.hid hbe2
  have HO5 := Lib.hid (hown4.alloc (.cells #[.int .u8 (p2.toNat : Int), .int .u8 (q2.toNat : Int), .int .u8 (r2.toNat : Int), .int .u8 (s2.toNat : Int)] 5))
  have HB4 := Lib.hid b4
  have hz4 := b4.size
  clear hbe2 hown4 b4
  go_wp2_with (first
    | (at_builtin; have _t := tok4; go_loud ((refine wpList_app rfl (.tmp 17) (.tmp 19) 27 rfl w3.heap.size 5 Try.underlying27 byteInfo _ ([] ++ [p, q, r, s]) rfl HO5.out _ 4 4 [p2, q2, r2, s2] rfl (Bs.lit w4 [p2, q2, r2, s2] _ _ _ rfl rfl rfl (by simp [maxLen])) (by simp) (by simp; omega) ?_; intro v5 w5 hown5 hb5 hg5; have b5 := (HB4.out.alloc HB4.out.size _).trans hb5; clear tok4 hb5 hg5 _t)))
    | (at_builtin; have _t := tok5; go_loud ((refine wpList_app rfl (.tmp 20) (.tmp 21) 27 rfl w3.heap.size 5 Try.underlying27 byteInfo _ ([] ++ [p, q, r, s] ++ [p2, q2, r2, s2]) rfl hown5 _ n c l rfl (HBL3.out.below b5) (by simp; omega) b5.size ?_; intro v6 w6 hown6 hb6 hg6; have b6 := b5.trans hb6; clear tok5 hb6 hg6 _t))))
  go_ret
  have e : [] ++ [p, q, r, s] ++ [p2, q2, r2, s2] ++ l = record l := by rw [HREC.out, HBE2.out]
  rw [e] at hown6
  obtain ⟨A7, c7, rfl, hB7, hf7⟩ := hown6.bs
  have h0 := HB3.out.trans (b6.mono (Nat.le_trans HZ1.out HZ3.out))
  exact ⟨A7, c7, rfl, hB7, by rw [HG0.out]; exact h0, fun a ha => by have h1 := hf7 a ha; have h2 := HZ1.out; have h3 := HZ3.out; have h4 := HG0.out; omega⟩

set_option maxHeartbeats 4000000 in
set_option maxRecDepth 100000 in
theorem refScann (A : Option Addr) (n c : Nat) (l : List UInt8) (w : World) (hB : Bs w A n c l) (hN : n ≤ 2000000000) :
    Calls Try.prog 73 #[.slice A n c] w (ScanPostn l w) := by
  have hlen := Lib.hid hB.len
  have hmax := hB.nmax
  have hle := hB.le
  have hcm := hB.max
  have HB := Lib.hid hB
  clear hB
  go_enter Try.func73, Try.ntmps73
  go_wp2_with (fail)
  go_loopw [5, 6, 7, 8, 9] (fun v i _ _ _ wr => ∃ (p : Nat) (acc : List (List UInt8)), i = .int .i64 p ∧ Rw w.heap.size (fun k => k < w.heap.size) wr v acc ∧ ScanAt l p acc ∧ Below w.heap.size w wr) (fun _ i _ _ _ _ => n - (intOf i).toNat)
  case atStart => exact ⟨0, [], rfl, Rw.nil _ _ _, ScanAt.start l, Below.refl _ _⟩
  case round =>
    obtain ⟨wo, rfl⟩ : ∃ wo : World, wo = wr := ⟨_, rfl⟩
    obtain ⟨p, acc, rfl, hr, ha, hb⟩ := hrel
    obtain ⟨v, hv⟩ : ∃ v, v = u5 := ⟨_, rfl⟩
    subst hv
    have HR := Lib.hid hr
    have HA := Lib.hid ha
    have HBB := Lib.hid hb
    have hpn : p ≤ n := by have := ha.1; have := hlen.out; omega
    clear hr ha hb
    by_cases hlt : p < n
    · obtain ⟨b, o, rfl, hbl, _⟩ := HB.out.at_ (by omega)
      have e1 : (p : Int) < (n : Int) := by omega
      have e9 : ¬ c = p := by omega
      have hpi : (p : Int) ≤ (n : Int) := by omega
      have hpc : p ≤ c := by omega
      have hd := (HB.out.drop (i := p) (by omega)).below HBB.out
      rw [if_neg e9, Option.map_some, Addr.add_lit] at hd
      have HD := Lib.hid hd
      have HLT := Lib.hid hlt
      obtain ⟨Av, cv, hv⟩ := HR.out.form
      subst hv
      clear hd hlt hbl
      go_wp2_with (fail)
      refine (refGet13 _ (n - p) (c - p) (l.drop p) wo HD.out (by omega)).mono ?_
      rintro e w1 ⟨A1, c1, rfl, hB1, hfr, hb1⟩
      have HX := Lib.hid hB1
      have HFR := Lib.hid hfr
      have HR1 := Lib.hid (HR.out.below hb1)
      have HB1 : Hid (Below w.heap.size w w1) := Lib.hid (HBB.out.trans (hb1.mono HBB.out.size))
      have HZ1 := Lib.hid hb1.size
      clear hB1 hfr hb1
      by_cases he : getErr (l.drop p) = 0
      · have HA1 := Lib.hid (HA.out.more he)
        have hgl := getErr_len he
        have hdl := HD.out.len
        have hkp : getLen (l.drop p) ≤ n - p := by omega
        have hk9 : 9 ≤ getLen (l.drop p) := hgl.1
        have hacc : acc.length ≤ n := by have := HA.out.2.1; omega
        rw [he]
        clear he hgl hdl
        generalize getGet (l.drop p) = x at *
        generalize getLen (l.drop p) = k at *
        have HLT1 : Hid (0 < x.length → ∀ b, A1 = some b → ¬ (Value.slice Av acc.length cv).ownBlock = some b.block ∧ ¬ b.block < w.heap.size) := Lib.hid (fun _ b hb => by
          have h1 := HFR.out b hb
          obtain ⟨vs, hv⟩ := HR.out
          have h2 := HBB.out.size; exact ⟨fun e => by have := (World.ownsRow.lt hv.2.1 _ e).2; omega, by omega⟩)
        have HA2 := Lib.hid ((Below.refl w1.heap.size w1).alloc (Nat.le_refl _) (.cells #[.slice A1 x.length c1] 27))
        have HR2 := Lib.hid (HR1.out.below HA2.out)
        have HROW := Lib.hid (heap_alloc_new w1 (.cells #[.slice A1 x.length c1] 27))
        have HXA := Lib.hid (HX.out.below HA2.out)
        have HBZ : Hid (w.heap.size ≤ (w1.alloc (.cells #[.slice A1 x.length c1] 27)).heap.size) := Lib.hid (Nat.le_trans HB1.out.size HA2.out.size)
        obtain ⟨Z, hZ⟩ : ∃ Z, acc ++ [x] = Z := ⟨_, rfl⟩
        rw [hZ] at HA1
        have HZ := Lib.hid hZ
        clear hZ
        have tok1 : Hid True := Lib.hid trivial
        go_wp2_with (at_builtin; have _t := tok1; go_loud ((refine wpList_rw rfl (.tmp 27) (.tmp 29) rfl w.heap.size (fun k => k < w.heap.size) (.slice Av acc.length cv) acc x A1 c1 rfl HR2.out HXA.out HLT1.out (by have := HBZ.out; omega) w1.heap.size rfl HROW.out (by omega) HBZ.out ?_; intro v2 w2 hw2 hgr2 hfr2; rw [HZ.out] at hw2; obtain ⟨A2, c2, rfl⟩ := hw2.form; have HR3 := Lib.hid hw2; have HCH : Hid (Below w.heap.size w w2) := Lib.hid ((HB1.out.trans (HA2.out.mono HB1.out.size)).trans ((Ch.of_grown (S := fun k => (Value.slice Av acc.length cv).ownBlock = some k) hgr2 (fun k hk => hk)).below (fun k hk => (by obtain ⟨vs, hv⟩ := HR2.out; exact (World.ownsRow.lt hv.2.1 k hk).1)) HBZ.out)); clear tok1 hw2 hgr2 hfr2 _t)))
        exact ⟨⟨p + k, Z, by go_num, HR3.out, HA1.out, HCH.out⟩, by have := HLT.out; simp [intOf]; omega⟩
      · have hst := HA.out.stop (by rw [hlen.out]; exact HLT.out) he
        have hne : (getErr (l.drop p) != 0) = true := by rw [bne_iff_ne]; exact he
        have hge := get_err (l := l.drop p) rfl he
        have HST := Lib.hid hst
        rw [hge.1, hge.2]
        clear hst he hge
        generalize getErr (l.drop p) = er at *
        go_wp2_with (fail)
        go_ret3
        refine ⟨.slice Av acc.length cv, ?_, ?_, HB1.out⟩
        · rw [HST.out]; rfl
        · rw [HST.out]; exact HR1.out
    · obtain rfl : p = n := by omega
      have hst := HA.out.all hlen.out.symm
      obtain ⟨Av, cv, hv⟩ := HR.out.form
      subst hv
      have HST := Lib.hid hst
      clear hst hlt
      go_wp2_with (fail)
      go_ret3
      refine ⟨.slice Av acc.length cv, ?_, ?_, HBB.out⟩
      · rw [HST.out]; rfl
      · rw [HST.out]; exact HR.out

end Go.Proofs.Ythblbmbefhlbjaa
