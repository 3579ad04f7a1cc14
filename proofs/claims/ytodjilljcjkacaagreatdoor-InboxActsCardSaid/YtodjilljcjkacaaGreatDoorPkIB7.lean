/- Laid together: Dk16, ScanMath, CutsMath, Rw, Tail. -/
import Derived.Test.YtodjilljcjkacaaGreatDoorPkIB6
import Derived.StillTail
import Derived.BigQuiet

namespace Go.Proofs.YtodjilljcjkacaaGreatDoor
open Lib (hid)
section
open Go.RowKit Go.MapKept
def appO (d:Dk) (fs:Fs) (a:ByteArray) (l:List UInt8):OutN :=
  if nameD a=false then ((0,.inl 16),d,fs)
  else if d.armedIn=1 then ((0,.inr (d.ops+1)),{ d.begin with used:=d.used+(appK d l.length:Int) },layF fs a (l.take (appK d l.length)))
  else (((appN d l.length:Int),.inl (appE d l.length)),{ d.begin with used:=d.used+(appN d l.length:Int) },layF fs a (l.take (appN d l.length)))
def liftO (r:Out):OutN:=((0,r.1),r.2.1,r.2.2)
def callD (d:Dk) (fs:Fs) (kd n k:Int) (a b:ByteArray) (l:List UInt8):OutN :=
  if kd=0 then appO d fs a l
  else if kd=1 then liftO (opTrunc d fs a n)
  else if kd=2 then liftO (opSync d fs a)
  else if kd=3 then liftO (opRename d fs a b)
  else if kd=4 then liftO (opRemove d fs a)
  else if kd=5 then liftO (opSetRoom d fs n)
  else if kd=6 then liftO (opFail d fs n)
  else if kd=7 then liftO (opArm d fs n k)
  else if kd=8 then liftO (opPower d fs k)
  else ((0,.inl 0),d,fs)
section
variable {w:World} {B D M:Nat} {d:Dk} {F:List Ent}
end
/-! what stays right -/
theorem fget_mem:∀ {fs:Fs} {n:ByteArray} {f:Fl},fget fs n=some f→(n,f) ∈ fs
  | (a,v) :: r,n,f,h=>by
    unfold fget at h
    split at h
    · rename_i e;injection h with h;subst h e;simp
    · exact List.mem_cons_of_mem _ (fget_mem h)
theorem fput_names_some:∀ {fs:Fs} {n:ByteArray} {f:Fl} (v:Fl),fget fs n=some f→(fput fs n v).map (·.1)=fs.map (·.1)
  | (a,u) :: r,n,f,v,h=>by
    unfold fget at h
    unfold fput
    split
    · rename_i e;simp [e]
    · rename_i e
      rw [if_neg e] at h
      simp [fput_names_some v h]
theorem fput_new:∀ {fs:Fs} {n:ByteArray} (v:Fl),fget fs n=none→fput fs n v=fs++[(n,v)]
  | [],n,v,h=>rfl
  | (a,u) :: r,n,v,h=>by
    unfold fget at h
    unfold fput
    split
    · rename_i e;rw [if_pos e] at h;cases h
    · rename_i e
      rw [if_neg e] at h
      rw [fput_new v h];rfl
theorem fget_none_names:∀ {fs:Fs} {n:ByteArray},fget fs n=none→n ∉ fs.map (·.1)
  | [],n,h=>by simp
  | (a,u) :: r,n,h=>by
    unfold fget at h
    split at h
    · cases h
    · rename_i e
      rw [List.map_cons,List.mem_cons]
      rintro (h2|h2)
      · exact e h2
      · exact fget_none_names h h2
theorem mem_fput:∀ {fs:Fs} {n:ByteArray} {v:Fl} {x:ByteArray × Fl},x ∈ fput fs n v→x=(n,v)∨x ∈ fs
  | [],n,v,x,h=>by simp [fput] at h;exact .inl h
  | (a,u) :: r,n,v,x,h=>by
    unfold fput at h
    split at h
    · rcases List.mem_cons.1 h with h|h
      · exact .inl h
      · exact .inr (List.mem_cons_of_mem _ h)
    · rcases List.mem_cons.1 h with h|h
      · exact .inr (by rw [h];simp)
      · rcases mem_fput h with h|h
        · exact .inl h
        · exact .inr (List.mem_cons_of_mem _ h)
theorem ftotal_fput:∀ {fs:Fs} {n:ByteArray} {f:Fl} (v:Fl),fget fs n=some f→ftotal (fput fs n v)+f.bs.length=ftotal fs+v.bs.length
  | (a,u) :: r,n,f,v,h=>by
    unfold fget at h
    unfold fput
    split
    · rename_i e
      rw [if_pos e] at h
      injection h with h
      subst h
      rw [ftotal_cons,ftotal_cons];simp only;omega
    · rename_i e
      rw [if_neg e] at h
      have:=ftotal_fput v h
      rw [ftotal_cons,ftotal_cons];omega
theorem fdel_sub:∀ (fs:Fs) (n:ByteArray),(fdel fs n).Sublist fs
  | [],n=>List.Sublist.refl _
  | (a,u) :: r,n=>by
    unfold fdel
    split
    · exact List.sublist_cons_self _ _
    · exact (fdel_sub r n).cons_cons _
theorem ftotal_fdel:∀ {fs:Fs} {n:ByteArray} {f:Fl},fget fs n=some f→ftotal (fdel fs n)+f.bs.length=ftotal fs
  | (a,u) :: r,n,f,h=>by
    unfold fget at h
    unfold fdel
    split
    · rename_i e
      rw [if_pos e] at h
      injection h with h
      subst h
      rw [ftotal_cons];simp only;omega
    · rename_i e
      rw [if_neg e] at h
      have:=ftotal_fdel h
      rw [ftotal_cons,ftotal_cons];omega
theorem fdel_names_not:∀ {fs:Fs} {n:ByteArray},(fs.map (·.1)).Nodup→n ∉ (fdel fs n).map (·.1)
  | [],n,_=>by simp [fdel]
  | (a,u) :: r,n,h=>by
    rw [List.map_cons,List.nodup_cons] at h
    unfold fdel
    split
    · rename_i e;subst e;exact h.1
    · rename_i e
      rw [List.map_cons,List.mem_cons]
      rintro (h2|h2)
      · exact e h2
      · exact fdel_names_not h.2 h2
theorem fget_fdel_ne:∀ {fs:Fs} {n m:ByteArray},n≠m→fget (fdel fs n) m=fget fs m
  | [],n,m,_=>rfl
  | (a,u) :: r,n,m,h=>by
    unfold fdel
    split
    · rename_i e
      conv=>rhs;unfold fget
      rw [if_neg (fun e2=>h (by rw [e,e2]))]
    · unfold fget
      split
      · rfl
      · exact fget_fdel_ne h
theorem ftotal_flen {fs:Fs} (n:ByteArray):ftotal (fdel fs n)+flen fs n=ftotal fs:=by
  unfold flen
  cases h:fget fs n with
  | some f=>exact ftotal_fdel h
  | none =>
    simp only
    induction fs with
    | nil=>rfl
    | cons a r ih =>
      obtain ⟨a,u⟩:=a
      unfold fget at h
      unfold fdel
      split
      · rename_i e;rw [if_pos e] at h;cases h
      · rename_i e
        rw [if_neg e] at h
        have:=ih h
        rw [ftotal_cons,ftotal_cons];omega
theorem Dk.Ok.begin' {d:Dk} (ok:d.Ok) (h:d.ops+1≤1152921504606846976):d.begin.Ok:=by
  have h1:=ok.armedIn
  have h2:=ok.ops
  refine ⟨ok.room,ok.used,⟨by show 0≤d.ops+1;omega,h⟩,ok.failIn,?_,ok.armKeep⟩
  unfold Dk.begin
  simp only
  split <;> omega
theorem Dk.Ok.used' {d:Dk} (ok:d.Ok) {u:Int} (h:0≤u∧u≤1073741824):({ d with used:=u }:Dk).Ok:=⟨ok.room,h,ok.ops,ok.failIn,ok.armedIn,ok.armKeep⟩
theorem FsOk.change {d d1 d2:Dk} {fs done:Fs} {x:Int} (h1:FsOk d1 done) (h2:FsOk d2 fs):FsOk (opChange d fs x d1 d2 done).2.1 (opChange d fs x d1 d2 done).2.2:=by
  unfold opChange
  split
  · split
    · exact h1
    · exact h2
  · exact h1
theorem FsOk.nums {d d':Dk} {fs:Fs} (h:FsOk d fs) (ok:d'.Ok) (hu:d'.used=d.used):FsOk d' fs:=⟨ok,by rw [hu];exact h.tot,h.safe,h.names⟩
theorem FsOk.put {d d':Dk} {fs:Fs} {n:ByteArray} {f v:Fl} (h:FsOk d fs) (hg:fget fs n=some f) (hs:v.safe≤v.bs.length) (ok:d'.Ok) (hu:d'.used=d.used-f.bs.length+v.bs.length):FsOk d' (fput fs n v):=by
  have h1:=ftotal_fput v hg
  have h2:=h.tot
  refine ⟨ok,by rw [hu];omega,fun e he=>?_,by rw [fput_names_some v hg];exact h.names⟩
  rcases mem_fput he with rfl|he
  · exact hs
  · exact h.safe e he
section
variable {d:Dk} {fs:Fs}
theorem trunc_ok (h:FsOk d fs) (ho:d.ops+1≤1152921504606846976) (a:ByteArray) (n:Int):FsOk (opTrunc d fs a n).2.1 (opTrunc d fs a n).2.2:=by
  unfold opTrunc
  cases hg:fget fs a with
  | none=>exact h
  | some f =>
    simp only
    split
    · exact h
    · rename_i hn
      have hl:=h.len hg
      have hu:=h.ok.used
      have hsf:=h.safe _ (fget_mem hg)
      simp only at hsf
      refine FsOk.change (FsOk.put (f:=f) h hg ?_ ((h.ok.begin' ho).used' ⟨by omega,by omega⟩) ?_) (h.nums (h.ok.begin' ho) rfl)
      · simp only [trFl,List.length_take];omega
      · simp only [trFl,List.length_take];omega
theorem sync_ok (h:FsOk d fs) (ho:d.ops+1≤1152921504606846976) (a:ByteArray):FsOk (opSync d fs a).2.1 (opSync d fs a).2.2:=by
  unfold opSync
  cases hg:fget fs a with
  | none=>exact h
  | some f =>
    have hsf:=h.safe _ (fget_mem hg)
    simp only at hsf
    have hk:d.syncs.begin.Ok:=h.ok.syncs.begin' ho
    refine FsOk.change (FsOk.put (f:=f) h hg ?_ hk ?_) (h.nums hk rfl)
    · unfold syncFl;split
      · exact hsf
      · exact Nat.le_refl _
    · show d.used=_
      unfold syncFl;split <;> simp <;> omega
theorem remove_ok (h:FsOk d fs) (ho:d.ops+1≤1152921504606846976) (a:ByteArray):FsOk (opRemove d fs a).2.1 (opRemove d fs a).2.2:=by
  unfold opRemove
  cases hg:fget fs a with
  | none=>exact h
  | some f =>
    have hl:=h.len hg
    have hu:=h.ok.used
    have h1:=ftotal_fdel hg
    have h2:=h.tot
    refine FsOk.change ⟨(h.ok.begin' ho).used' ⟨by omega,by omega⟩,?_,fun e he=>h.safe e ((fdel_sub fs a).subset he),h.names.sublist ((fdel_sub fs a).map _)⟩ (h.nums (h.ok.begin' ho) rfl)
    show d.used-_=_
    omega
theorem rename_ok (h:FsOk d fs) (ho:d.ops+1≤1152921504606846976) (a b:ByteArray):FsOk (opRename d fs a b).2.1 (opRename d fs a b).2.2:=by
  unfold opRename
  cases hg:fget fs a with
  | none=>exact h
  | some f =>
    simp only
    split
    · exact h
    · split
      · exact FsOk.change (h.nums (h.ok.begin' ho) rfl) (h.nums (h.ok.begin' ho) rfl)
      · rename_i hne
        have hg2:fget (fdel fs b) a=some f:=by rw [fget_fdel_ne (fun e=>hne e.symm)];exact hg
        have h1:=ftotal_fdel hg2
        have h2:=ftotal_flen (fs:=fs) b
        have h3:=h.tot
        have hu:=h.ok.used
        have hsf:=h.safe _ (fget_mem hg)
        simp only at hsf
        refine FsOk.change ⟨(h.ok.begin' ho).used' ⟨by omega,by omega⟩,?_,fun e he=>?_,?_⟩ (h.nums (h.ok.begin' ho) rfl)
        · show d.used-_=_
          rw [ftotal_app,ftotal_cons]
          simp only [ftotal,List.map_nil,List.sum_nil] at *
          omega
        · rcases List.mem_append.1 he with he|he
          · exact h.safe e ((fdel_sub fs b).subset ((fdel_sub _ a).subset he))
          · rw [List.mem_singleton.1 he];exact hsf
        · have hn1:((fdel fs b).map (·.1)).Nodup:=h.names.sublist ((fdel_sub fs b).map _)
          have hn2:((fdel (fdel fs b) a).map (·.1)).Nodup:=hn1.sublist ((fdel_sub _ a).map _)
          rw [List.map_append,List.nodup_append]
          refine ⟨hn2,by simp,fun x hx y hy e=>?_⟩
          simp at hy
          subst hy e
          have:=fdel_names_not (n:=x) h.names
          exact this (((fdel_sub (fdel fs x) a).map _).subset hx)
theorem power_ok (h:FsOk d fs) (k:Int):FsOk (opPower d fs k).2.1 (opPower d fs k).2.2:=by
  unfold opPower
  have hle:ftotal (powFs k fs)≤ftotal fs:=by
    have hs:=h.safe
    clear h
    induction fs with
    | nil=>exact Nat.le_refl _
    | cons a r ih =>
      have h1:=ih (fun e he=>hs e (List.mem_cons_of_mem _ he))
      have h2:=hs a (by simp)
      unfold powFs at h1 ⊢
      rw [List.map_cons,ftotal_cons,ftotal_cons]
      have h5:(powFl k a.2).bs.length≤a.2.bs.length:=by simp only [powFl,List.length_take];omega
      simp only at h5 ⊢
      omega
  have h3:=h.tot
  have h4:=h.ok.used
  refine ⟨⟨h.ok.room,⟨by simp only;omega,by simp only;omega⟩,h.ok.ops,⟨by simp,by simp⟩,⟨by simp,by simp⟩,h.ok.armKeep⟩,rfl,fun e he=>?_,?_⟩
  · obtain ⟨x,hx,rfl⟩:=List.mem_map.1 he
    have h2:=h.safe x hx
    have:=powN_le (keep:=k) h2
    simp only [powFl,List.length_take]
    omega
  · unfold powFs
    rw [List.map_map]
    exact h.names
theorem lay_ok (h:FsOk d fs) (ho:d.ops+1≤1152921504606846976) (a:ByteArray) (l:List UInt8) (N:Nat) (hN:N≤l.length) (hr:d.used+(N:Int)≤1073741824):FsOk { d.begin with used:=d.used+(N:Int) } (layF fs a (l.take N)):=by
  have hu:=h.ok.used
  have ht:=h.tot
  have hk:({ d.begin with used:=d.used+(N:Int) }:Dk).Ok:=(h.ok.begin' ho).used' ⟨by omega,hr⟩
  unfold layF
  cases hg:fget fs a with
  | some f =>
    have hsf:=h.safe _ (fget_mem hg)
    simp only at hsf
    refine FsOk.put h hg (by simp;omega) hk ?_
    simp
    omega
  | none =>
    rw [fput_new _ hg]
    refine ⟨hk,?_,fun e he=>?_,?_⟩
    · rw [ftotal_app,ftotal_cons]
      simp only [ftotal,List.map_nil,List.sum_nil,List.length_take] at *
      omega
    · rcases List.mem_append.1 he with he|he
      · exact h.safe e he
      · rw [List.mem_singleton.1 he];exact Nat.zero_le _
    · rw [List.map_append,List.nodup_append]
      refine ⟨h.names,by simp,fun x hx y hy e=>?_⟩
      simp at hy
      subst hy e
      exact fget_none_names hg hx
theorem appN_room (h:FsOk d fs) (m:Nat):d.used+(appN d m:Int)≤1073741824:=by
  have h1:=h.ok.used
  have h2:=h.ok.room
  unfold appN
  omega
theorem callD_ok (h:FsOk d fs) (ho:d.ops+1≤1152921504606846976) (kd n k:Int) (hn:-9223372036854775808≤n∧n≤9223372036854775807) (hk:-9223372036854775808≤k∧k≤9223372036854775807) (a b:ByteArray) (l:List UInt8) :
    FsOk (callD d fs kd n k a b l).2.1 (callD d fs kd n k a b l).2.2:=by
  unfold callD
  split
  · unfold appO
    split
    · exact h
    · split
      · exact lay_ok h ho a l _ (by unfold appK appN;omega) (by have:=appN_room h l.length;unfold appK;omega)
      · exact lay_ok h ho a l _ (by unfold appN;omega) (appN_room h l.length)
  split
  · exact trunc_ok h ho a n
  split
  · exact sync_ok h ho a
  split
  · exact rename_ok h ho a b
  split
  · exact remove_ok h ho a
  split
  · unfold liftO opSetRoom
    split
    · rename_i hh;exact h.nums ⟨hh,h.ok.used,h.ok.ops,h.ok.failIn,h.ok.armedIn,h.ok.armKeep⟩ rfl
    · exact h
  split
  · unfold liftO opFail
    split
    · exact h
    · exact h.nums ⟨h.ok.room,h.ok.used,h.ok.ops,⟨by simp only;omega,hn.2⟩,h.ok.armedIn,h.ok.armKeep⟩ rfl
  split
  · unfold liftO opArm
    split
    · exact h
    · exact h.nums ⟨h.ok.room,h.ok.used,h.ok.ops,h.ok.failIn,⟨by simp only;omega,hn.2⟩,hk⟩ rfl
  split
  · exact power_ok h k
  · exact h
theorem opChange_ops {x:Int} {d1 d2:Dk} {done:Fs} {u:Int} (h1:d1.ops≤u) (h2:d2.ops≤u):(opChange d fs x d1 d2 done).2.1.ops≤u:=by
  unfold opChange
  split
  · split <;> assumption
  · assumption
theorem callD_ops (kd n k:Int) (a b:ByteArray) (l:List UInt8):(callD d fs kd n k a b l).2.1.ops≤d.ops+1:=by
  have e1:d.begin.ops=d.ops+1:=rfl
  unfold callD
  split
  · unfold appO
    split
    · simp only;omega
    · split <;> exact Int.le_refl _
  split
  · unfold liftO opTrunc
    cases fget fs a with
    | none=>simp only;omega
    | some f =>
      simp only
      split
      · simp only;omega
      · exact opChange_ops (Int.le_refl _) (Int.le_refl _)
  split
  · unfold liftO opSync
    cases fget fs a with
    | none=>simp only;omega
    | some f=>exact opChange_ops (Int.le_refl _) (Int.le_refl _)
  split
  · unfold liftO opRename
    cases fget fs a with
    | none=>simp only;omega
    | some f =>
      simp only
      split
      · simp only;omega
      · split <;> exact opChange_ops (Int.le_refl _) (Int.le_refl _)
  split
  · unfold liftO opRemove
    cases fget fs a with
    | none=>simp only;omega
    | some f=>exact opChange_ops (Int.le_refl _) (Int.le_refl _)
  split
  · unfold liftO opSetRoom;split <;> simp only <;> omega
  split
  · unfold liftO opFail;split <;> simp only <;> omega
  split
  · unfold liftO opArm;split <;> simp only <;> omega
  split
  · unfold liftO opPower;simp only;omega
  · simp only;omega
end
end
section
open Go.RowKit
theorem getErr_len {l:List UInt8} (h:getErr l=0):9≤getLen l∧getLen l≤l.length∧getLen l=8+(getGet l).length∧okLen (getGet l).length=true:=by
  unfold getLen getGet
  rw [if_pos h,if_pos h]
  unfold getErr at h
  by_cases h8:l.length<8
  · rw [if_pos h8] at h;omega
  rw [if_neg h8] at h
  by_cases ho:okLen (beNum (l.take 4))=false
  · rw [if_pos ho] at h;omega
  rw [if_neg ho] at h
  have ho:okLen (beNum (l.take 4))=true:=by
    cases hh:okLen (beNum (l.take 4)) with
    | true=>rfl
    | false=>exact absurd hh ho
  have hx:=okLen_yes ho
  by_cases hk:l.length-8<beNum (l.take 4)
  · rw [if_pos hk] at h;omega
  have e:((l.drop 8).take (beNum (l.take 4))).length=beNum (l.take 4):=by rw [List.length_take,List.length_drop];omega
  rw [e]
  exact ⟨by omega,by omega,rfl,ho⟩
def scanF:Nat→List UInt8→List (List UInt8) × Nat × Int
  | 0,_=>([],0,0)
  | f+1,l=>if l.length=0 then ([],0,0) else if getErr l=0 then (getGet l :: (scanF f (l.drop (getLen l))).1,getLen l+(scanF f (l.drop (getLen l))).2.1,(scanF f (l.drop (getLen l))).2.2) else ([],0,getErr l)
theorem scanF_more:∀ (f g:Nat) (l:List UInt8),l.length≤f→l.length≤g→scanF f l=scanF g l
  | 0,0,_,_,_=>rfl
  | 0,g+1,l,h,_=>by
    have h0:l.length=0:=by omega
    simp [scanF,h0]
  | f+1,0,l,_,h=>by
    have h0:l.length=0:=by omega
    simp [scanF,h0]
  | f+1,g+1,l,h1,h2=>by
    unfold scanF
    by_cases h0:l.length=0
    · rw [if_pos h0,if_pos h0]
    rw [if_neg h0,if_neg h0]
    by_cases he:getErr l=0
    · have hl:=getErr_len he
      rw [if_pos he,if_pos he,scanF_more f g (l.drop (getLen l)) (by rw [List.length_drop];omega) (by rw [List.length_drop];omega)]
    · rw [if_neg he,if_neg he]
def scan (l:List UInt8):List (List UInt8) × Nat × Int:=scanF l.length l
theorem scan_nil:scan []=([],0,0):=rfl
theorem scan_err {l:List UInt8} (h0:0<l.length) (h:getErr l≠0):scan l=([],0,getErr l):=by
  unfold scan
  obtain ⟨n,hn⟩:∃ n,l.length=n+1:=⟨l.length-1,by omega⟩
  rw [hn]
  unfold scanF
  rw [if_neg (by omega),if_neg h]
theorem scan_ok {l:List UInt8} (h:getErr l=0):scan l=(getGet l :: (scan (l.drop (getLen l))).1,getLen l+(scan (l.drop (getLen l))).2.1,(scan (l.drop (getLen l))).2.2):=by
  have hl:=getErr_len h
  unfold scan
  obtain ⟨n,hn⟩:∃ n,l.length=n+1:=⟨l.length-1,by omega⟩
  have e:=scanF_more n (l.drop (getLen l)).length (l.drop (getLen l)) (by rw [List.length_drop];omega) (Nat.le_refl _)
  rw [hn]
  conv=>lhs;unfold scanF
  rw [if_neg (by omega),if_pos h,e]
theorem scanF_len:∀ (f:Nat) (l:List UInt8),(scanF f l).2.1≤l.length
  | 0,l=>Nat.zero_le _
  | f+1,l=>by
    unfold scanF
    by_cases h0:l.length=0
    · rw [if_pos h0];exact Nat.zero_le _
    rw [if_neg h0]
    by_cases he:getErr l=0
    · have hl:=getErr_len he
      have ih:=scanF_len f (l.drop (getLen l))
      rw [List.length_drop] at ih
      rw [if_pos he]
      show getLen l+_≤_
      omega
    · rw [if_neg he];exact Nat.zero_le _
theorem scan_len (l:List UInt8):(scan l).2.1≤l.length:=scanF_len _ _
def ScanAt (l:List UInt8) (p:Nat) (acc:List (List UInt8)):Prop :=
  p≤l.length∧9*acc.length≤p∧(scan l).1=acc++(scan (l.drop p)).1∧(scan l).2.1=p+(scan (l.drop p)).2.1∧(scan l).2.2=(scan (l.drop p)).2.2∧(∀ x ∈ acc,okLen x.length=true)
theorem ScanAt.start (l:List UInt8):ScanAt l 0 []:=⟨Nat.zero_le _,Nat.le_refl _,by simp,by simp,by simp,by simp⟩
theorem ScanAt.more {l:List UInt8} {p:Nat} {acc:List (List UInt8)} (h:ScanAt l p acc) (he:getErr (l.drop p)=0):ScanAt l (p+getLen (l.drop p)) (acc++[getGet (l.drop p)]):=by
  obtain ⟨h1,h2,h3,h4,h5,h6⟩:=h
  have hl:=getErr_len he
  have hs:=scan_ok he
  rw [List.length_drop] at hl
  rw [List.drop_drop] at hs
  refine ⟨by omega,by rw [List.length_append,List.length_singleton];omega,?_,?_,?_,fun x hx=>?_⟩
  · rw [h3,hs];simp
  · rw [h4,hs];simp;omega
  · rw [h5,hs]
  · rcases List.mem_append.1 hx with hx|hx
    · exact h6 x hx
    · simp at hx;rw [hx];exact hl.2.2.2
theorem ScanAt.stop {l:List UInt8} {p:Nat} {acc:List (List UInt8)} (h:ScanAt l p acc) (hp:p<l.length) (he:getErr (l.drop p)≠0):scan l=(acc,p,getErr (l.drop p)):=by
  obtain ⟨h1,h2,h3,h4,h5,_⟩:=h
  have hs:=scan_err (l:=l.drop p) (by rw [List.length_drop];omega) he
  rw [hs] at h3 h4 h5
  refine Prod.ext (by simpa using h3) (Prod.ext (by simpa using h4) h5)
theorem ScanAt.all {l:List UInt8} {p:Nat} {acc:List (List UInt8)} (h:ScanAt l p acc) (hp:p=l.length):scan l=(acc,p,0):=by
  obtain ⟨h1,h2,h3,h4,h5,_⟩:=h
  rw [hp,List.drop_length,scan_nil] at h3 h4 h5
  exact Prod.ext (by simpa using h3) (Prod.ext (by simpa [hp] using h4) h5)
end
section
open Go.RowKit
def cutI:List (List UInt8)→Nat→Nat × Nat
  | [],_=>(0,0)
  | b :: r,k=>if k<8+b.length then (0,0) else ((cutI r (k-(8+b.length))).1+1,8+b.length+(cutI r (k-(8+b.length))).2)
def recs (own:List (List UInt8)):List UInt8:=(own.map record).flatten
theorem recs_cons (b:List UInt8) (r:List (List UInt8)):recs (b :: r)=record b++recs r:=by simp [recs]
theorem recs_snoc (L:List (List UInt8)) (b:List UInt8):recs (L++[b])=recs L++record b:=by simp [recs]
theorem get_short {b:List UInt8} (hok:okLen b.length=true) (k:Nat) (hk:k<8+b.length):getErr ((record b).take k)=7:=by
  unfold getErr
  have hl:((record b).take k).length=k:=by rw [List.length_take,record_length];omega
  by_cases h8:k<8
  · rw [if_pos (by omega)]
  have e4:((record b).take k).take 4=be4 b.length:=by
    rw [List.take_take,show min 4 k=4 from by omega]
    unfold record
    rw [List.append_assoc,List.take_append_of_le_length (by simp [be4]),List.take_of_length_le (by simp [be4])]
  have hb:=okLen_yes hok
  rw [if_neg (by omega),e4,beNum_be4 (by omega),if_neg (by rw [hok];decide),if_pos (by omega)]
theorem cut_scan:∀ (own:List (List UInt8)) (k:Nat),(∀ x ∈ own,okLen x.length=true)→k≤(recs own).length →
    scan ((recs own).take k)=(own.take (cutI own k).1,(cutI own k).2,if (cutI own k).2=k then 0 else 7)
  | [],k,_,hk=>by
    have h0:k=0:=by simpa [recs] using hk
    subst h0
    rfl
  | b :: r,k,hok,hk=>by
    have hb:=hok b (by simp)
    rw [recs_cons] at hk ⊢
    by_cases hlt:k<8+b.length
    · have hc:cutI (b :: r) k=(0,0):=by simp [cutI,hlt]
      rw [hc,List.take_append_of_le_length (by rw [record_length];omega)]
      by_cases h0:k=0
      · subst h0
        simp [scan_nil]
      · have he:=get_short hb k hlt
        have hl:((record b).take k).length=k:=by rw [List.length_take,record_length];omega
        rw [scan_err (by omega) (by omega),he,if_neg (by omega)]
        rfl
    · obtain ⟨j,hj⟩:∃ j,k=8+b.length+j:=⟨k-(8+b.length),by omega⟩
      subst hj
      have hc:cutI (b :: r) (8+b.length+j)=((cutI r j).1+1,8+b.length+(cutI r j).2):=by
        simp only [cutI,if_neg hlt,show 8+b.length+j-(8+b.length)=j from by omega]
      have ht:(record b++recs r).take (8+b.length+j)=record b++(recs r).take j:=by
        rw [List.take_append,List.take_of_length_le (by rw [record_length];omega),record_length,show 8+b.length+j-(8+b.length)=j from by omega]
      obtain ⟨g1,g2,g3⟩:=get_record b ((recs r).take j) hb
      have hs:=scan_ok g1
      have hd:(record b++(recs r).take j).drop (8+b.length)=(recs r).take j:=List.drop_left' (by rw [record_length])
      have ih:=cut_scan r j (fun x hx=>hok x (List.mem_cons_of_mem _ hx)) (by rw [List.length_append,record_length] at hk;omega)
      rw [g2,g3,hd,ih] at hs
      rw [ht,hs,hc]
      refine Prod.ext (by simp) (Prod.ext rfl ?_)
      show (if (cutI r j).2=j then (0:Int) else 7)=if 8+b.length+(cutI r j).2=8+b.length+j then 0 else 7
      by_cases h:(cutI r j).2=j
      · rw [if_pos h,if_pos (by omega)]
      · rw [if_neg h,if_neg (by omega)]
end
section
open Go.RowKit
def RwV (B:Nat) (T:Nat→Prop) (w:World) (v:Value) (L:List (List UInt8)) (vs:List Value):Prop :=
  vs.length=L.length∧w.ownsRow B 40 1 v L.length vs∧(∀ u ∈ vs,u.oneCell'=true)∧(∀ k,v.ownBlock=some k→¬ T k) ∧
    ∀ (i:Nat) (u:Value) (x:List UInt8),vs[i]?=some u→L[i]?=some x→∃ A c,u=.slice A x.length c∧Bs w A x.length c x∧(0<x.length→∀ b,A=some b→¬ v.ownBlock=some b.block∧¬ T b.block)
def Rw (B:Nat) (T:Nat→Prop) (w:World) (v:Value) (L:List (List UInt8)):Prop:=∃ vs,RwV B T w v L vs
section
variable {B:Nat} {T T' S:Nat→Prop} {w w':World} {v v':Value} {L:List (List UInt8)} {vs:List Value}
theorem Rw.nil (B:Nat) (T:Nat→Prop) (w:World):Rw B T w (.slice none 0 0) []:=⟨[],rfl,World.ownsRow_nil w B 40 1,(fun u h=>by cases h),(fun k h=>by cases h),(fun i u x h=>by cases h)⟩
theorem RwV.form (h:RwV B T w v L vs):∃ A c,v=.slice A L.length c:=own_form h.2.1
theorem Rw.form (h:Rw B T w v L):∃ A c,v=.slice A L.length c:=by obtain ⟨vs,h⟩:=h;exact h.form
theorem RwV.ch (h:RwV B T w v L vs) (c:Ch S w w') (hS:∀ k,k<w.heap.size→S k→T k) (hT:∀ k,k<w.heap.size→T' k→T k):RwV B T' w' v L vs:=by
  obtain ⟨hl,ho,h1,h2,hg⟩:=h
  refine ⟨hl,own_ch ho c (fun k hk hs=>h2 k hk (hS k (World.ownsRow.lt ho k hk).2 hs)),h1,fun k hk ht=>h2 k hk (hT k (World.ownsRow.lt ho k hk).2 ht),fun i u x a b=>?_⟩
  obtain ⟨A,ci,e,hb,hne⟩:=hg i u x a b
  have hlt:0<x.length→∀ b,A=some b→b.block<w.heap.size:=fun h0 b hA=>by
    obtain ⟨b',o',e',hlt,_⟩:=hb.at_ h0
    rw [e'] at hA
    injection hA with hA
    subst hA
    exact hlt
  exact ⟨A,ci,e,hb.ch c (fun h0 b hA hs=>(hne h0 b hA).2 (hS _ (hlt h0 b hA) hs)),fun h0 b hA=>⟨(hne h0 b hA).1,fun ht=>(hne h0 b hA).2 (hT _ (hlt h0 b hA) ht)⟩⟩
theorem Rw.ch (h:Rw B T w v L) (c:Ch S w w') (hS:∀ k,k<w.heap.size→S k→T k) (hT:∀ k,k<w.heap.size→T' k→T k):Rw B T' w' v L:=by
  obtain ⟨vs,h⟩:=h
  exact ⟨vs,h.ch c hS hT⟩
theorem Rw.below (h:Rw B T w v L) (hb:Below w.heap.size w w'):Rw B T w' v L:=h.ch (Ch.of_below (S:=fun _=>False) hb) (fun _ _ h=>h.elim) (fun _ _ h=>h)
theorem Rw.rd (h:Rw B T w v L):∃ A c,v=.slice A L.length c∧Rd w A L.length c L:=by
  obtain ⟨vs,hl,ho,_,_,hg⟩:=h
  rcases ho.2 with ⟨rfl,h0⟩|⟨g,cap,cur,rfl,h1,h2,h3,h4,h5,h6⟩
  · exact ⟨none,0,by rw [h0],rfl,by omega,by simp [maxLen],fun hn=>by omega⟩
  · refine ⟨_,cap,rfl,rfl,h3,h4,fun _=>⟨g,0,rfl,(Array.getElem?_eq_some_iff.1 h2).1,fun i x hi=>?_⟩⟩
    have hil:i<L.length:=(List.getElem?_eq_some_iff.1 hi).1
    have hgl:i<vs.length:=by rw [hl];exact hil
    obtain ⟨A,c,e,hb,_⟩:=hg i vs[i] x (List.getElem?_eq_getElem hgl) hi
    refine ⟨A,c,?_,hb⟩
    rw [Nat.zero_add,cell_of_row w g i cur _ _ h2]
    have e2:(cur.toList.take (L.length*1))[i]?=vs[i]?:=by rw [h6]
    rw [Nat.mul_one,List.getElem?_take,if_pos hil,List.getElem?_eq_getElem hgl,e] at e2
    simpa using e2
theorem RwV.more {x:List UInt8} {A:Option Addr} {c:Nat} (h:RwV B T w v L vs) (hx:Bs w A x.length c x) (hlt:0<x.length→∀ b,A=some b→¬ v.ownBlock=some b.block∧¬ T b.block) (hTn:¬ T w.heap.size)
    (hown:w'.ownsRow B 40 1 v' (L.length+1) (vs++[.slice A x.length c])) (hgr:w.grownBy w' v.ownBlock) (hfr:v'.ownBlock=v.ownBlock∨v'.ownBlock=some w.heap.size):RwV B T w' v' (L++[x]) (vs++[.slice A x.length c]):=by
  obtain ⟨hl,ho,h1,h2,hg⟩:=h
  have hch:Ch (fun k=>v.ownBlock=some k) w w':=Ch.of_grown hgr (fun k hk=>hk)
  have hnew:∀ b:Addr,b.block<w.heap.size→¬ v.ownBlock=some b.block→¬ v'.ownBlock=some b.block:=fun b hb hne e=>by
    rcases hfr with q|q
    · exact hne (by rw [← q];exact e)
    · rw [q] at e;injection e with e;omega
  have hblk:∀ (A:Option Addr) (c:Nat) (y:List UInt8),Bs w A y.length c y→0<y.length→∀ b,A=some b→b.block<w.heap.size:=fun A c y hb h0 b hA=>by
    obtain ⟨b',o',e',hlt,_⟩:=hb.at_ h0
    rw [e'] at hA
    injection hA with hA
    subst hA
    exact hlt
  refine ⟨by simp [hl],by rw [List.length_append];exact hown,fun u hu=>?_,fun k hk ht=>?_,fun i u z e1 e2=>?_⟩
  · rcases List.mem_append.1 hu with hu|hu
    · exact h1 u hu
    · simp at hu;rw [hu];rfl
  · rcases hfr with q|q
    · exact h2 k (by rw [← q];exact hk) ht
    · rw [q] at hk;injection hk with hk;rw [← hk] at ht;exact hTn ht
  · by_cases hi:i<L.length
    · rw [List.getElem?_append_left (by rw [hl];exact hi)] at e1
      rw [List.getElem?_append_left hi] at e2
      obtain ⟨A',c',e,hb,hne⟩:=hg i u z e1 e2
      exact ⟨A',c',e,hb.ch hch (fun h0 b hA hs=>(hne h0 b hA).1 hs),fun h0 b hA=>⟨hnew b (hblk _ _ _ hb h0 b hA) (hne h0 b hA).1,(hne h0 b hA).2⟩⟩
    · rw [List.getElem?_append_right (by rw [hl];omega),hl] at e1
      rw [List.getElem?_append_right (by omega)] at e2
      have:i-L.length=0:=by
        rcases Nat.lt_or_ge (i-L.length) 1 with h|h
        · omega
        · rw [List.getElem?_eq_none (by simpa using h)] at e2;cases e2
      rw [this] at e1 e2
      simp at e1 e2
      subst e1 e2
      exact ⟨A,c,rfl,hx.ch hch (fun h0 b hA hs=>(hlt h0 b hA).1 hs),fun h0 b hA=>⟨hnew b (hblk _ _ _ hx h0 b hA) (hlt h0 b hA).1,(hlt h0 b hA).2⟩⟩
end
theorem wpList_rw {ops:Array Oper} {rest:List Oper} {o:Oper} {a:Act} {Q:Exit→Act→World→Prop} {w:World} (hgd:o.guard=none) (s y:Operand)
    (ho:o.op=.call { callee:=.builtin .append,args:=#[s,y],argTypes:=#[41,41] }) (B:Nat) (T:Nat→Prop) (v:Value) (L:List (List UInt8)) (x:List UInt8) (A:Option Addr) (c:Nat) (hs:a.eval s=v) (hw:Rw B T w v L) (hx:Bs w A x.length c x)
    (hlt:0<x.length→∀ b,A=some b→¬ v.ownBlock=some b.block∧¬ T b.block) (hTn:¬ T w.heap.size)
    (g:Nat) (hy:a.eval y=.slice (some ⟨g,0,none⟩) 1 1) (hg:w.heap[g]?=some (.cells #[.slice A x.length c] 40)) (hn:L.length+1≤1099511627776) (hB:B≤w.heap.size)
    (h:∀ v' w',Rw B T w' v' (L++[x])→w.grownBy w' v.ownBlock→(v'.ownBlock=v.ownBlock∨v'.ownBlock=some w.heap.size)→wpList Tryz.prog ops Q rest (a.put o.dst v') w'):wpList Tryz.prog ops Q (o :: rest) a w:=by
  obtain ⟨vs,hw⟩:=hw
  refine wpList_appAt hgd s y 41 ho B 40 (.slice none 0 0) 24 Tryz.underlying41 rowsInfo rfl (by decide) v L.length vs hs hw.2.1 ⟨g,0,none⟩ 1 1 [.slice A x.length c] hy rfl (fun j u hu=>?_) (fun u hu=>?_) hn hB (fun v' w' q1 q2 q3=>h v' w' ⟨_,hw.more hx hlt hTn q1 q2 q3⟩ q2 q3)
  · have hj:j=0:=by
      rcases Nat.lt_or_ge j 1 with h|h
      · omega
      · rw [List.getElem?_eq_none (by simpa using h)] at hu;cases hu
    subst hj
    rw [Addr.add_lit,Nat.zero_add,cell_of_row w g 0 _ _ _ hg]
    exact hu
  · simp at hu;subst hu;rfl
end
section
open Go.RowKit
structure Here (w:World) where
  u:World
  h:u=w
instance (w:World):Nonempty (Here w):=⟨⟨w,rfl⟩⟩
theorem still_of_quiet {P:Program} {o:Oper} {a:Act} {W:World} {K:Act→Prop} (h:o.quiet P a (fun w'=>∃ m:Here W,w'=m.u) K):o.still P a W K:=by
  obtain ⟨v,h1,h2⟩:=h
  have h3:=h1 W ⟨⟨W,rfl⟩,rfl⟩
  unfold Oper.quietAt at h3
  unfold Oper.still
  generalize (execOp a.eval o).run P W=r at *
  cases r with
  | ok n w' =>
    cases n with
    | value u=>obtain ⟨rfl,rfl⟩:=h3;exact ⟨rfl,h2⟩
    | skip=>obtain ⟨rfl,rfl⟩:=h3;exact ⟨rfl,h2⟩
    | enter f args =>
      obtain ⟨rfl,hc⟩:=h3
      exact ⟨rfl,v,hc.mono (fun e w'' hh=>⟨hh.1,by obtain ⟨m,rfl⟩:=hh.2;exact m.h⟩),h2⟩
    | _=>cases h3
  | halt x w'=>cases h3
theorem wpStill_of_quiet {P:Program} {ops:Array Oper} {W:World} {Q:Act→Prop}:∀ (l:List Oper) (a:Act),wpQuiet P ops (fun w'=>∃ m:Here W,w'=m.u) Q l a→wpStill P ops W Q l a
  | [],_,h=>h
  | o :: rest,a,h=>by
    unfold wpQuiet at h
    unfold wpStill
    split
    · rename_i hw
      rw [if_pos hw] at h
      exact Oper.still_mono (fun a1 ha=>wpStill_of_quiet rest a1 ha) (still_of_quiet h)
    · rename_i hw
      rw [if_neg hw] at h
      exact wpStill_of_quiet rest _ h
theorem region_tail {P:Program} {id:Nat} {Q:Exit→Act→World→Prop} {a:Act} {w:World} {l:List Oper} (n:Nat) (hm:P.follows .mixedOrders=true) (hB:Region.lexTailB .any l.toArray n=true)
    (h:wpQuiet P l.toArray (fun w'=>∃ m:Here w.drew,w'=m.u) (fun a'=>wpList P l.toArray Q (l.drop n) a' w.drew) (l.take n) a):(Code.region id l.toArray true).wp P Q a w :=
  wp_region_still_tail n hm hB (wpStill_of_quiet _ _ h)
theorem Here.cell {w:World} {a:Addr} {v:Value} (h:w.cell? a=some v) (n:Here w.drew):n.u.cell? a=some v:=by
  rw [n.h];exact h
end
end Go.Proofs.YtodjilljcjkacaaGreatDoor
