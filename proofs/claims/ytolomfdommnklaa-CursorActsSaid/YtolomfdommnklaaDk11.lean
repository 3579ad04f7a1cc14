/- Layer 2: Synced and Rename, walked. -/
import Derived.Test.YtolomfdommnklaaDk8
namespace Go.Proofs.Ytolomfdommnklaa
open Go.RowKit Go.MapKept

theorem wpList_wantK {P : Program} {w : World} {ops : Array Oper} {rest : List Oper} {o : Oper} {a : Act} {Q : Exit → Act → World → Prop} (hw : Region.wanted o (yielded ops a.tmps) = true) (h : ∀ K : Act → World → Prop, (∀ a' w', wpList P ops Q rest a' w' → K a' w') → Oper.wp P o a w K Q) : wpList P ops Q (o :: rest) a w :=
  wpList_step fun K hK => by rw [if_pos hw]; exact h K hK
section
variable {P : Program} {k : TypeId} {κ : Type} [DecidableEq κ] {kv : κ → Value} {w : World} {ops : Array Oper} {rest : List Oper} {o : Oper} {a : Act} {Q : Exit → Act → World → Prop}
theorem wpList_lookupG (hw : Region.wanted o (yielded ops a.tmps) = true) (K : KeyK P k κ kv) (m x : Operand) (T e : TypeId) (ok : Bool) (hop : o.op = Op.lookup T m x ok) (ht : P.underlying T = some (.map k e)) (M : Nat) (L : List (κ × Value)) (hm : a.eval m = .map (some M)) (h : MapIs kv w M L) (key : κ) (hx : a.eval x = kv key) (z : Value) (hz : (zeroValue e).run P w = .ok z w)
    (hK : wpList P ops Q rest (a.put o.dst (if ok then .tuple #[(aget L key).getD z, .bool (aget L key).isSome] else (aget L key).getD z)) w) : wpList P ops Q (o :: rest) a w := by
  refine wpList_wantK hw fun K' hK' => ?_
  have hrun := run_lookupL K T e ht w M L h key z hz ok
  unfold Oper.wp
  simp only [execOp, hop, hm, hx, Sem.run_bind, hrun, Result.andThen_ok, Sem.run_pure]
  exact hK' _ _ hK
theorem step_deleteL {K' : Act → World → Prop} {E : Prop} (hg : o.guard = none) (K : KeyK P k κ kv) (m x : Operand) (T e : TypeId) (hop : o.op = Op.call { callee := Callee.builtin Builtin.delete, args := #[m, x], argTypes := #[T, k] }) (ht : P.underlying T = some (.map k e)) (M : Nat) (L : List (κ × Value)) (hm : a.eval m = .map (some M)) (h : MapIs kv w M L) (key : κ) (hx : a.eval x = kv key)
    (hK : ∀ w', MapIs kv w' M (adel L key) → Ch (fun j => j = M) w w' → w'.heap.size = w.heap.size → K' (a.put o.dst (.tuple #[])) w') : if Region.wanted o (yielded ops a.tmps) = true then Oper.wp P o a w K' Q else E := by
  have hw : Region.wanted o (yielded ops a.tmps) = true := by simp [Region.wanted, hg]
  rw [if_pos hw]
  obtain ⟨w', hrun, h1, h2, h3⟩ := run_deleteL K T e o.type ht w M L h key
  unfold Oper.wp
  simp only [execOp, hop, resolve, invoke, builtin, Sem.run_bind, Sem.run_pure, Result.andThen_ok, List.map_toArray, List.map_cons, List.map_nil, hm, hx, hrun]
  exact hK w' h1 h2 h3
end
section
variable {w w' : World} {B D M : Nat} {d : Dk} {F : List Ent}
def syncedOf (fs : Fs) (n : ByteArray) : Int := match fget fs n with | some f => (f.safe : Int) | none => 0
/-- a file under another name: what is left -/
theorem DkAt.ren {P Q : List Ent} {nm to : ByteArray} {g : Nat} {v : Value} {f : Fl} (h : DkAt w B D M d (P ++ ⟨nm, g, v, f⟩ :: Q)) (hto : ∀ e ∈ P ++ ⟨nm, g, v, f⟩ :: Q, e.nm ≠ to) (hm : MapIs (.string) w' M (adel (aset (mapL (P ++ ⟨nm, g, v, f⟩ :: Q)) to (pf g)) nm)) (hch : Ch (fun k => k = M) w w') :
    DkAt w' B D M d (P ++ Q ++ [⟨to, g, v, f⟩]) ∧ DkCh D M (P ++ ⟨nm, g, v, f⟩ :: Q) (P ++ Q ++ [⟨to, g, v, f⟩]) w w' := by
  have hn := h.names
  have hP : ∀ x ∈ P, x.nm ≠ nm := fun x hx e => by
    rw [List.map_append, List.map_cons, List.nodup_append] at hn
    exact hn.2.2 x.nm (List.mem_map.2 ⟨x, hx, rfl⟩) nm (by simp) e
  have hml : adel (aset (mapL (P ++ ⟨nm, g, v, f⟩ :: Q)) to (pf g)) nm = mapL (P ++ Q ++ [⟨to, g, v, f⟩]) := by
    rw [aset_new to _ hto]
    have e1 : mapL (P ++ ⟨nm, g, v, f⟩ :: Q) ++ [(to, pf g)] = mapL (P ++ ⟨nm, g, v, f⟩ :: (Q ++ [⟨to, g, v, f⟩])) := by simp [mapL]
    rw [e1, adel_at (e := ⟨nm, g, v, f⟩) hP]
    simp [mapL]
  rw [hml] at hm
  have hap := h.apart
  rw [List.pairwise_append] at hap
  refine ⟨⟨h.hD, h.hM, hch.row h.row h.neDM.symm, hm, fun x hx => ?_, ?_, ?_⟩, ⟨(Ch.refl _ w).trans hch (fun k _ hk => .inr (.inl hk)), fun k hk => ?_⟩⟩
  · rcases List.mem_append.1 hx with hx | hx
    · have h2 := h.files x ((List.Sublist.append_left (List.sublist_cons_self _ Q) P).subset hx)
      exact h2.ch hch (h2.neM h.map).1 (fun k hk hs => (h2.neM h.map).2 (by rw [hk, hs]))
    · obtain rfl := List.mem_singleton.1 hx
      have h2 := h.files ⟨nm, g, v, f⟩ (by simp)
      have h3 := h2.ch hch (h2.neM h.map).1 (fun k hk hs => (h2.neM h.map).2 (by rw [hk, hs]))
      exact ⟨h3.base, h3.row, h3.own⟩
  · rw [List.pairwise_append]
    refine ⟨h.apart.sublist (List.Sublist.append_left (List.sublist_cons_self _ Q) P), List.pairwise_singleton _ _, fun x hx y hy => ?_⟩
    obtain rfl := List.mem_singleton.1 hy
    rcases List.mem_append.1 hx with hx | hx
    · have := hap.2.2 x hx ⟨nm, g, v, f⟩ (by simp)
      exact ⟨this.1, this.2⟩
    · have := ((List.pairwise_cons.1 hap.2.1).1 x hx).symm
      exact ⟨this.1, this.2⟩
  · rw [List.map_append, List.nodup_append]
    refine ⟨hn.sublist ((List.Sublist.append_left (List.sublist_cons_self _ Q) P).map _), by simp, fun a ha b hb => ?_⟩
    obtain ⟨x, hx, rfl⟩ := List.mem_map.1 ha
    simp only [List.map_cons, List.map_nil, List.mem_singleton] at hb
    subst hb
    exact hto x ((List.Sublist.append_left (List.sublist_cons_self _ Q) P).subset hx)
  · obtain ⟨x, hx, hk⟩ := hk
    rcases List.mem_append.1 hx with hx | hx
    · exact .inl ⟨x, (List.Sublist.append_left (List.sublist_cons_self _ Q) P).subset hx, hk⟩
    · obtain rfl := List.mem_singleton.1 hx
      exact .inl ⟨⟨nm, g, v, f⟩, by simp, hk⟩
end
end Go.Proofs.Ytolomfdommnklaa
