/- Put together: Map. -/
import Derived.Maps.RangeWalk
import Derived.Maps.OwnSet
import Derived.DeepKeys4
import Derived.Below
import Derived.Test.YtogffkimgmlilaaGreatPfbAl
set_option maxRecDepth 100000
set_option maxHeartbeats 8000000
set_option linter.all false
namespace Go.Proofs.YtogffkimgmlilaaGreat
section
open Go Go.ChangeMaps Go.MapKept Go.Maps Go.RowKit
theorem tK1 {α:Type} {n:Nat} {a:α} {l:List α}:(a :: l).take (n+1)=a :: l.take n:=rfl
theorem tK0 {α:Type} {l:List α}:l.take 0=[]:=rfl
theorem dP1 {α:Type} {n:Nat} {a:α} {l:List α}:(a :: l).drop (n+1)=l.drop n:=rfl
theorem dP0 {α:Type} {l:List α}:l.drop 0=l:=rfl
theorem sT2 {α:Type} {l:List α} {i:Nat} {a:α}:l.toArray.setIfInBounds i a=(l.set i a).toArray:=List.setIfInBounds_toArray l i a
theorem sT1 {α:Type} {a b:α} {l:List α} {n:Nat}:(a :: l).set (n+1) b=a :: l.set n b:=rfl
theorem sT0 {α:Type} {a b:α} {l:List α}:(a :: l).set 0 b=b :: l:=rfl
theorem upB {w w' w2:World} (h:Below w.heap.size w w') (k:Below w'.heap.size w' w2):Below w.heap.size w w2:=h.trans (k.mono h.size)
theorem J2 {p0 p1:Prop} (h0:p0) (h1:p1):p0∧p1:=⟨h0,h1⟩
theorem J3 {p0 p1 p2:Prop} (h0:p0) (h1:p1) (h2:p2):p0∧p1∧p2:=⟨h0,h1,h2⟩
theorem J4 {p0 p1 p2 p3:Prop} (h0:p0) (h1:p1) (h2:p2) (h3:p3):p0∧p1∧p2∧p3:=⟨h0,h1,h2,h3⟩
theorem J5 {p0 p1 p2 p3 p4:Prop} (h0:p0) (h1:p1) (h2:p2) (h3:p3) (h4:p4):p0∧p1∧p2∧p3∧p4:=⟨h0,h1,h2,h3,h4⟩
theorem J6 {p0 p1 p2 p3 p4 p5:Prop} (h0:p0) (h1:p1) (h2:p2) (h3:p3) (h4:p4) (h5:p5):p0∧p1∧p2∧p3∧p4∧p5:=⟨h0,h1,h2,h3,h4,h5⟩
section
variable {α β:Type} [DecidableEq α]
def getE (E:List (α×β)) (x:α):Option β:=(E.find? fun p=>decide (p.1=x)).map (·.2)
def delE (E:List (α×β)) (x:α):List (α×β):=E.filter fun p=>decide (p.1≠x)
def putE (E:List (α×β)) (x:α) (v:β):List (α×β):=(x,v) :: delE E x
def KeysNodup (E:List (α×β)):Prop:=(E.map (·.1)).Nodup
omit [DecidableEq α] in
theorem KeysNodup.perm {E E':List (α×β)} (h:KeysNodup E) (p:E.Perm E'):KeysNodup E':=(p.map _).nodup_iff.1 h
theorem zKy {E:List (α×β)} {x:α} (h:∀ p∈E,p.1≠x):getE E x=none:=by
 unfold getE;rw [jDa.2 (fun p hp=>by simpa using h p hp)];rfl
theorem zDk {E:List (α×β)} {x:α}:getE E x=none↔∀ p∈E,p.1≠x:=by
 refine ⟨fun h p hp e=>?_,zKy⟩;unfold getE at h;rw [Option.map_eq_none_iff,jDa] at h;exact absurd e (by simpa using h p hp)
omit [DecidableEq α] in
theorem pairs_inj {E:List (α×β)} (hn:KeysNodup E) {p q:α×β} (hp:p∈E) (hq:q∈E) (h:p.1=q.1):p=q:=by
 unfold KeysNodup at hn;induction E with
 | nil=>simp at hp
 | cons a r ih=>
  simp only [jAv,jAu,jAk,not_exists,not_and] at hn;rcases jA1.1 hp with rfl | hp'
  ·rcases jA1.1 hq with rfl | hq'
   ·rfl
   ·exact absurd h.symm (hn.1 q hq')
  ·rcases jA1.1 hq with rfl | hq'
   ·exact absurd h (hn.1 p hp')
   ·exact ih hn.2 hp' hq'
theorem zFs {E:List (α×β)} (hn:KeysNodup E) {x:α} {v:β} (h:(x,v)∈E):getE E x=some v:=by
 unfold getE;cases hf:E.find? fun p=>decide (p.1=x) with
 | none=>
  rw [jDa] at hf;exact absurd (hf _ h) (by simp)
 | some q=>
  have h1:=jC6 hf;have h2:=jE6 hf;simp only [jA4] at h2;rw [pairs_inj hn h1 h h2];rfl
theorem zJw {E:List (α×β)} {x:α} {v:β} (h:getE E x=some v):(x,v)∈E:=by
 unfold getE at h;cases hf:E.find? fun p=>decide (p.1=x) with
 | none=>rw [hf] at h;cases h
 | some q=>
  rw [hf] at h;have h1:=jC6 hf;have h2:=jE6 hf;simp only [jA4] at h2;simp only [jDz,jCh] at h;rw [←h2,←h];exact h1
theorem getE_iff {E:List (α×β)} (hn:KeysNodup E) {x:α} {v:β}:getE E x=some v↔(x,v)∈E:=⟨zJw,zFs hn⟩
theorem zFt {E E':List (α×β)} (hn:KeysNodup E) (hp:E.Perm E') (x:α):getE E x=getE E' x:=by
 cases h:getE E' x with
 | none=>rw [zDk] at h ⊢;exact fun p hp'=>h p (hp.mem_iff.1 hp')
 | some v=>exact zFs hn (hp.mem_iff.2 (zJw h))
theorem zEp {E:List (α×β)} {x:α} (h:∀ p∈E,p.1≠x):delE E x=E:=jCw.2 fun p hp=>by simpa using h p hp
theorem delE_perm {E:List (α×β)} (hn:KeysNodup E) {p:α×β} (hp:p∈E):E.Perm (p :: delE E p.1):=by
 unfold KeysNodup at hn;induction E with
 | nil=>simp at hp
 | cons a r ih=>
  simp only [jAv,jAu,jAk,not_exists,not_and] at hn;rcases jA1.1 hp with rfl | hp'
  ·have : delE (p :: r) p.1 = r := by
     unfold delE;rw [jB7 (by simp)];exact jCw.2 fun q hq=>by simpa using hn.1 q hq
   rw [this]
  ·have hne:a.1≠p.1:=fun e=>hn.1 p hp' e.symm;have:delE (a :: r) p.1=a :: delE r p.1:=by
    unfold delE;rw [jB2 (by simpa using hne)]
   rw [this];exact ((ih hn.2 hp').cons a).trans (List.Perm.swap _ _ _)
theorem zCo {E:List (α×β)} (hn:KeysNodup E) (x:α):KeysNodup (delE E x):=by
 unfold KeysNodup delE;exact (List.filter_sublist.map _).nodup hn
theorem zDc {E:List (α×β)} (hn:KeysNodup E) (x:α) (v:β):KeysNodup (putE E x v):=by
 unfold KeysNodup putE;simp only [jAv,jAu];refine ⟨?_,zCo hn x⟩;simp [delE]
structure KV (P:Program) (k e t:TypeId) (eK:α→Value) (ok:α→Prop):Prop where
 keyed:Keyed P k
 ty:P.underlying t=some (.map k e)
 key:∀ x,ok x→∃ l,keyOf P k (eK x)=some l
 inj:∀ {x y},eK x=eK y→x=y
def HoldsMap (eK:α→Value) (eV:β→Value) (ok:α→Prop) (w:World) (b:Nat) (E:List (α×β)):Prop:=
 ∃ es clock,w.heap[b]? = some (.map es clock)∧Stamped es clock∧KeysNodup E∧(∀ p∈E,ok p.1)∧(es.toList.map fun x=>(x.key,x.val)).Perm (E.map fun p=>(eK p.1,eV p.2))
variable {P:Program} {k e t:TypeId} {eK:α→Value} {eV:β→Value} {ok:α→Prop} {w:World} {b:Nat} {E:List (α×β)}
omit [DecidableEq α] in
theorem HoldsMap.lt (h:HoldsMap eK eV ok w b E):b < w.heap.size:=by
 obtain ⟨es,clock,hb,_⟩:=h;exact (jBg.1 hb).1
omit [DecidableEq α] in
theorem HoldsMap.nodup (h:HoldsMap eK eV ok w b E):KeysNodup E:=h.elim fun _ h=>h.elim fun _ h=>h.2.2.1
omit [DecidableEq α] in
theorem HoldsMap.perm (h:HoldsMap eK eV ok w b E) {E':List (α×β)} (hp:E.Perm E'):HoldsMap eK eV ok w b E':=by
 obtain ⟨es,clock,hb,hs,hn,ho,hm⟩:=h;exact ⟨es,clock,hb,hs,hn.perm hp,fun p h=>ho p (hp.mem_iff.2 h),hm.trans (hp.map _)⟩
omit [DecidableEq α] in
theorem HoldsMap.kept {w':World} {row:Option Nat} (h:HoldsMap eK eV ok w b E) (hg:w.grownBy w' row) (hne:some b≠row):HoldsMap eK eV ok w' b E:=by
 have hlt:=h.lt;obtain ⟨es,clock,hb,r⟩:=h;exact ⟨es,clock,(hg.block b hlt hne).trans hb,r⟩
omit [DecidableEq α] in
theorem HoldsMap.ext {w':World} {n:Nat} (h:HoldsMap eK eV ok w b E) (hg:Below n w w') (hn:n=w.heap.size):HoldsMap eK eV ok w' b E:=by
 have hlt:=h.lt;obtain ⟨es,clock,hb,r⟩:=h;exact ⟨es,clock,(hg.block b (hn▸hlt)).trans hb,r⟩
omit [DecidableEq α] in
theorem HoldsMap.ee {w':World} (h:HoldsMap eK eV ok w b E) (hg:Below w.heap.size w w'):HoldsMap eK eV ok w' b E:=h.ext hg rfl
omit [DecidableEq α] in
theorem HoldsMap.alloc (h:HoldsMap eK eV ok w b E) (o:Obj):HoldsMap eK eV ok (w.alloc o) b E:=h.kept (World.grownBy_alloc w o none) (by simp)
omit [DecidableEq α] in
theorem HoldsMap.made (w:World):HoldsMap eK eV ok (w.alloc (.map #[] 0)) w.heap.size ([]:List (α×β)):=
 ⟨#[],0,(MapKept.heap_alloc w _).1,stamped_empty 0,by simp [KeysNodup],by simp,by simp⟩
omit [DecidableEq α] in
theorem HoldsMap.set_ne (h:HoldsMap eK eV ok w b E) (a:Addr) (v:Value) (hne:a.block≠b):HoldsMap eK eV ok (w.setCell a v) b E:=by
 obtain ⟨es,clock,hb,r⟩:=h;refine ⟨es,clock,?_,r⟩;simp only [World.setCell,jCn];rw [jA0 hne,hb]
omit [DecidableEq α] in
theorem zL8 {es : Array MapEntry} (hp : (es.toList.map fun x => (x.key, x.val)).Perm (E.map fun p => (eK p.1, eV p.2))) :
    ∀ x∈es.toList,∃ p∈E,x.key=eK p.1∧x.val=eV p.2:=fun x hx=>by
 have h1:=hp.mem_iff.1 (jAk.2 ⟨x,hx,rfl⟩);obtain ⟨p,hp1,hp2⟩:=jAk.1 h1;simp only [jB6] at hp2;exact ⟨p,hp1,hp2.1.symm,hp2.2.symm⟩
omit [DecidableEq α] in
theorem zGj (V : KV P k e t eK ok) {es : Array MapEntry} (ho : ∀ p ∈ E, ok p.1) (hp : (es.toList.map fun x => (x.key, x.val)).Perm (E.map fun p => (eK p.1, eV p.2))) :
    ∀ x∈es.toList,∃ l,keyOf P k x.key=some l:=fun x hx=>by
 obtain ⟨p,h1,h2,_⟩:=zL8 hp x hx;obtain ⟨l,hl⟩:=V.key p.1 (ho p h1);exact ⟨l,by rw [h2];exact hl⟩
omit [DecidableEq α] in
theorem zJn {es:Array MapEntry} (hp:(es.toList.map fun x=>(x.key,x.val)).Perm (E.map fun p=>(eK p.1,eV p.2))) {x:α} (h:∀ y∈es.toList,y.key≠eK x):∀ p∈E,p.1≠x:=fun p hp' e=>by
 have h1:=hp.mem_iff.2 (jAk.2 ⟨p,hp',rfl⟩);obtain ⟨y,hy,he⟩:=jAk.1 h1;simp only [jB6] at he;exact h y hy (by rw [he.1,e])
theorem zIr {γ:Type}:∀ (l:List γ) (j:Nat) (h:j < l.length),l.Perm (l[j] :: l.eraseIdx j)
 | a :: r,0,_=>jF4 _
 | a :: r,j+1,h=>((zIr r j (by simpa using h)).cons a).trans (List.Perm.swap _ _ _)
theorem zHs (V:KV P k e t eK ok) {es:Array MapEntry} (hn:KeysNodup E) (hp:(es.toList.map fun x=>(x.key,x.val)).Perm (E.map fun p=>(eK p.1,eV p.2))) {x:α} {j:Nat} {e0:MapEntry} (h2:es.toList[j]? = some e0) (h3:e0.key=eK x):∃ v,(x,v)∈E∧e0.val=eV v∧getE E x=some v∧((es.toList.map fun x=>(x.key,x.val)).eraseIdx j).Perm ((delE E x).map fun p=>(eK p.1,eV p.2)):=by
 have hm0:e0∈es.toList:=List.mem_of_getElem? h2;obtain ⟨p,hp1,hp2,hp3⟩:=zL8 hp e0 hm0;obtain ⟨y,v⟩:=p;obtain rfl:y=x:=V.inj (by rw [←hp2,h3]);refine ⟨v,hp1,hp3,zFs hn hp1,?_⟩;have a1:=(delE_perm hn hp1).map fun p:α×β=>(eK p.1,eV p.2);have a2:(es.toList.map fun x=>(x.key,x.val)).Perm ((e0.key,e0.val) :: (es.toList.map fun x=>(x.key,x.val)).eraseIdx j):=by
  have hj:j < (es.toList.map fun x=>(x.key,x.val)).length:=by simpa using (jAj.1 h2).1
  have hg:(es.toList.map fun x=>(x.key,x.val))[j]=(e0.key,e0.val):=by
   have:=(jAj.1 h2).2;simp only [List.getElem_map,this]
  rw [←hg];exact zIr _ _ hj
 have a3:=a2.symm.trans (hp.trans a1);rw [jAv,hp2,hp3] at a3;exact a3.cons_inv
theorem HoldsMap.look (V:KV P k e t eK ok) (h:HoldsMap eK eV ok w b E) {z:Value} (hz:(zeroValue e).run P w=.ok z w) {x:α} (hx:ok x):(Instr.lookup t (.map (some b)) (eK x) true).run P w=.ok (match getE E x with | some v=>.tuple #[eV v,.bool true] | none=>.tuple #[z,.bool false]) w:=by
 obtain ⟨es,clock,hb,hs,hn,ho,hp⟩:=h;obtain ⟨l,hl⟩:=V.key x hx;rcases V.keyed.find w hl es.toList (zGj V ho hp) with ⟨h1,h2⟩ | ⟨j,e0,h1,h2,h3⟩
 ·rw [zKy (zJn hp h2)];simp [Instr.lookup,run_underlying V.ty,MapKept.run_getObj_map hb,V.keyed.check w _ hl,h1,hz,Result.andThen]
 ·obtain ⟨v,_,hv,hg,_⟩:=zHs V hn hp h2 h3;rw [hg];simp [Instr.lookup,run_underlying V.ty,MapKept.run_getObj_map hb,V.keyed.check w _ hl,h1,Result.andThen,hv]
theorem HoldsMap.put (V:KV P k e t eK ok) (h:HoldsMap eK eV ok w b E) {x:α} (hx:ok x) (v:β):∃ w',(Instr.mapUpdate t (.map (some b)) (eK x) (eV v)).run P w=.ok () w'∧HoldsMap eK eV ok w' b (putE E x v)∧w.grownBy w' (some b)∧w'.heap.size=w.heap.size:=by
 obtain ⟨es,clock,hb,hs,hn,ho,hp⟩:=h;obtain ⟨l,hl⟩:=V.key x hx;have hgr:∀ o',w.grownBy (setBlock w b o') (some b):=fun o'=>⟨rfl,rfl,rfl,by simp [setBlock],fun i _ hi=>heap_setBlock_other hb _ (fun e=>hi (by rw [e]))⟩;have hok:∀ p∈putE E x v,ok p.1:=fun p hp'=>by
  rcases jA1.1 hp' with rfl | h'
  ·exact hx
  ·exact ho p (jAq.1 h').1
 rcases V.keyed.find w hl es.toList (zGj V ho hp) with ⟨h1,h2⟩ | ⟨j,e0,h1,h2,h3⟩
 ·refine ⟨setBlock w b (.map (es.push ⟨eK x,eV v,clock⟩) (clock+1)),?_,⟨_,_,heap_setBlock_same hb _,stamped_push hs h2,zDc hn x v,hok,?_⟩,hgr _,by simp [setBlock]⟩
  ·simp [Instr.mapUpdate,run_underlying V.ty,MapKept.run_getObj_map hb,V.keyed.check w false hl,h1,MapKept.run_setObj_map _ hb,Result.andThen,setBlock]
  ·unfold putE;rw [zEp (zJn hp h2),Array.toList_push,jBn,jAv];exact (List.perm_append_comm.trans ((hp.cons _)))
 ·have hj:es[j]? = some e0:=by simpa using h2
  have hjl:j < es.toList.length:=(jAj.1 h2).1;have hlist:(es.modify j (fun e'=>{ e' with key:=eK x,val:=eV v })).toList=es.toList.set j { e0 with key:=eK x,val:=eV v }:=by rw [Array.toList_modify,modify_eq_set _ _ _ _ h2]
  refine ⟨setBlock w b (.map (es.modify j (fun e'=>{ e' with key:=eK x,val:=eV v })) clock),?_,⟨_,_,heap_setBlock_same hb _,stamped_modify hs _ _ (fun _ _=>rfl) (fun e' _ he'=>by rw [hj] at he';cases he';exact h3.symm),zDc hn x v,hok,?_⟩,hgr _,by simp [setBlock]⟩
  ·simp [Instr.mapUpdate,run_underlying V.ty,MapKept.run_getObj_map hb,V.keyed.check w false hl,h1,hj,h3,V.keyed.stays w hl,MapKept.run_setObj_map _ hb,Result.andThen,setBlock]
  ·obtain ⟨v0,_,_,_,hpe⟩:=zHs V hn hp h2 h3;rw [hlist,List.map_set];unfold putE;rw [jAv];exact (set_perm _ _ (by simpa using hjl) _).trans (hpe.cons _)
theorem HoldsMap.del {ty:TypeId} (V:KV P k e t eK ok) (h:HoldsMap eK eV ok w b E) {x:α} (hx:ok x):∃ w',(Builtin.delete_ #[t,k] ty #[.map (some b),eK x]).run P w=.ok (.tuple #[]) w'∧HoldsMap eK eV ok w' b (delE E x)∧w.grownBy w' (some b)∧w'.heap.size=w.heap.size:=by
 obtain ⟨es,clock,hb,hs,hn,ho,hp⟩:=h;obtain ⟨l,hl⟩:=V.key x hx;have hgr:∀ o',w.grownBy (setBlock w b o') (some b):=fun o'=>⟨rfl,rfl,rfl,by simp [setBlock],fun i _ hi=>heap_setBlock_other hb _ (fun e=>hi (by rw [e]))⟩;have hok:∀ p∈delE E x,ok p.1:=fun p hp'=>ho p (jAq.1 hp').1;rcases V.keyed.find w hl es.toList (zGj V ho hp) with ⟨h1,h2⟩ | ⟨j,e0,h1,h2,h3⟩
 ·refine ⟨setBlock w b (.map es clock),?_,⟨_,_,heap_setBlock_same hb _,hs,zCo hn x,hok,?_⟩,hgr _,by simp [setBlock]⟩
  ·simp [Builtin.delete_,run_underlying V.ty,MapKept.run_getObj_map hb,V.keyed.check w _ hl,h1,MapKept.run_setObj_map _ hb,Result.andThen,setBlock]
  ·rw [zEp (zJn hp h2)];exact hp
 ·have hjl:j < es.toList.length:=(jAj.1 h2).1;have hjs:j < es.size:=by simpa using hjl
  have hsub:(es.eraseIdxIfInBounds j).toList=es.toList.eraseIdx j:=by
   unfold Array.eraseIdxIfInBounds;rw [dif_pos hjs];simp
  obtain ⟨v0,_,_,_,hpe⟩:=zHs V hn hp h2 h3;refine ⟨setBlock w b (.map (es.eraseIdxIfInBounds j) clock),?_,⟨_,_,heap_setBlock_same hb _,stamped_erase hs j,zCo hn x,hok,?_⟩,hgr _,by simp [setBlock]⟩
  ·simp [Builtin.delete_,run_underlying V.ty,MapKept.run_getObj_map hb,V.keyed.check w _ hl,h1,MapKept.run_setObj_map _ hb,Result.andThen,setBlock]
  ·rw [hsub,map_eraseIdx];exact hpe
omit [DecidableEq α] in
theorem HoldsMap.len {ty:TypeId} (V:KV P k e t eK ok) (h:HoldsMap eK eV ok w b E):(Builtin.len_ #[t] ty #[.map (some b)]).run P w=.ok (.int .i64 E.length) w:=by
 obtain ⟨es,clock,hb,hs,hn,ho,hp⟩:=h;have hl:es.size=E.length:=by simpa using hp.length_eq
 rw [←hl];simp [Builtin.len_,run_underlying V.ty,MapKept.run_getObj_map hb,Result.andThen];rfl
/-! ### 'for k, v := range m' under way: R is still to come -/
def Ranging (eK:α→Value) (eV:β→Value) (ok:α→Prop) (w:World) (b r:Nat) (E R:List (α×β)):Prop:=
 ∃ es clock since seen c0,w.heap[b]? = some (.map es clock)∧Stamped es clock∧KeysNodup E∧(∀ p∈E,ok p.1)∧(es.toList.map fun x=>(x.key,x.val)).Perm (E.map fun p=>(eK p.1,eV p.2)) ∧
  w.heap[r]? = some (.mapIter (some b) since seen c0)∧(∀ x∈es.toList,x.born < since)∧((leftOf es seen).toList.map fun x=>(x.key,x.val)).Perm (R.map fun p=>(eK p.1,eV p.2))∧(∀ p∈R,p∈E)∧since≤c0∧since≤clock
omit [DecidableEq α] in
theorem Ranging.holds {r:Nat} {R:List (α×β)} (h:Ranging eK eV ok w b r E R):HoldsMap eK eV ok w b E:=by
 obtain ⟨es,clock,_,_,_,hb,hs,hn,ho,hp,_⟩:=h;exact ⟨es,clock,hb,hs,hn,ho,hp⟩
omit [DecidableEq α] in
theorem Ranging.lt {r:Nat} {R:List (α×β)} (h:Ranging eK eV ok w b r E R):r < w.heap.size:=by
 obtain ⟨es,clock,_,_,_,_,_,_,_,_,hr,_⟩:=h;exact (jBg.1 hr).1
omit [DecidableEq α] in
theorem Ranging.sub {r:Nat} {R:List (α×β)} (h:Ranging eK eV ok w b r E R):∀ p∈R,p∈E:=by
 obtain ⟨_,_,_,_,_,_,_,_,_,_,_,_,_,hs,_⟩:=h;exact hs
omit [DecidableEq α] in
theorem Ranging.ne {r:Nat} {R:List (α×β)} (h:Ranging eK eV ok w b r E R):r≠b:=by
 obtain ⟨es,clock,_,_,_,hb,_,_,_,_,hr,_⟩:=h;intro e1;rw [e1,hb] at hr;cases hr
omit [DecidableEq α] in
theorem Ranging.kept {r:Nat} {R:List (α×β)} {w':World} {row:Option Nat} (h:Ranging eK eV ok w b r E R) (hg:w.grownBy w' row) (h1:some b≠row) (h2:some r≠row):Ranging eK eV ok w' b r E R:=by
 have l1:=h.holds.lt;have l2:=h.lt;obtain ⟨es,clock,since,seen,c0,hb,hs,hn,ho,hp,hr,rest⟩:=h;exact ⟨es,clock,since,seen,c0,(hg.block b l1 h1).trans hb,hs,hn,ho,hp,(hg.block r l2 h2).trans hr,rest⟩
omit [DecidableEq α] in
theorem Ranging.ext {r:Nat} {R:List (α×β)} {w':World} {n:Nat} (h:Ranging eK eV ok w b r E R) (hg:Below n w w') (hn:n=w.heap.size):Ranging eK eV ok w' b r E R:=
 h.kept (row:=none) ⟨hg.os,hg.tape,hg.output,hg.size,fun i hi _=>hg.block i (hn▸hi)⟩ (by simp) (by simp)
omit [DecidableEq α] in
theorem Ranging.ee {r:Nat} {R:List (α×β)} {w':World} (h:Ranging eK eV ok w b r E R) (hg:Below w.heap.size w w'):Ranging eK eV ok w' b r E R:=h.ext hg rfl
omit [DecidableEq α] in
theorem HoldsMap.range (V:KV P k e t eK ok) (h:HoldsMap eK eV ok w b E):∃ w',(Instr.range t (.map (some b))).run P w=.ok (.pointer (some ⟨w.heap.size,0,none⟩)) w'∧Ranging eK eV ok w' b w.heap.size E E∧Below w.heap.size w w'∧w'.heap.size=w.heap.size+1:=by
 have hlt:=h.lt;obtain ⟨es,clock,hb,hs,hn,ho,hp⟩:=h;refine ⟨_,run_range_map w t k e b es clock V.ty hb,⟨es,clock,clock,#[],clock,((MapKept.heap_alloc w _).2 b hlt).trans hb,hs,hn,ho,hp,(MapKept.heap_alloc w _).1,hs.1,?_,fun _ h=>h,jA9 _,jA9 _⟩,⟨rfl,rfl,rfl,by simp,fun i hi=>(MapKept.heap_alloc w _).2 i hi⟩,by simp⟩;have:leftOf es #[]=es:=by unfold leftOf;exact Array.filter_eq_self.2 (fun x _=>by simp)
 rw [this];exact hp
omit [DecidableEq α] in
theorem Ranging.next {r:Nat} {R:List (α×β)} (h:Ranging eK eV ok w b r E R) (ty:TypeId):(R=[]∧(Instr.next (.pointer (some ⟨r,0,none⟩)) false ty).run P w=.ok (.tuple #[.bool false]) w)∨∃ p R' w',R.Perm (p :: R')∧(Instr.next (.pointer (some ⟨r,0,none⟩)) false ty).run P w=.ok (.tuple #[.bool true,eK p.1,eV p.2]) w'∧Ranging eK eV ok w' b r E R'∧w.grownBy w' (some r)∧w'.heap.size=w.heap.size∧(Instr.entry (.pointer (some ⟨r,0,none⟩))).run P w'=.ok (.tuple #[eK p.1,eV p.2]) w':=by
 have hne:=h.ne;obtain ⟨es,clock,since,seen,c0,hb,hs,hn,ho,hp,hr,hold,hleft,hsub,hsc,hsk⟩:=h;rcases run_next_at (P:=P) w ty r b since c0 seen es clock hr hb hold hsc with ⟨h0,hrun⟩ | ⟨x,hx,w1,hal,hrun⟩
 ·refine Or.inl ⟨?_,hrun⟩;have:=hleft.length_eq;rw [jCl,jEe,h0,jCl] at this;exact jCe this.symm
 ·obtain ⟨hem,hes⟩:=mem_left hx;have hst:=(stamped_iff es clock).1 hs;have hm:=hleft.mem_iff.1 (jAk.2 ⟨x,hx,rfl⟩);obtain ⟨p,hpR,hpe⟩:=jAk.1 hm;simp only [jB6] at hpe;obtain ⟨R1,R2,rfl⟩:=jDb hpR;have hr1:w1.heap[r]? = some (.mapIter (some b) since seen c0):=by rcases hal with rfl | rfl <;> exact hr
  have hb1:w1.heap[b]? = some (.map es clock):=by rcases hal with rfl | rfl <;> exact hb
  have hset:=heap_set (o':=.mapIter (some b) since (seen.push x.born) clock) hr1;have hb':(setBlock w1 r (.mapIter (some b) since (seen.push x.born) clock)).heap[b]? = some (.map es clock):=(hset.2 b (fun e1=>hne e1.symm)).trans hb1;have hbn:(es.toList.map (·.born)).Nodup:=hst.2.1;have hl2:(leftOf es seen).toList.Perm (x :: (leftOf es (seen.push x.born)).toList):=by
   have e1:(leftOf es seen).toList=es.toList.filter (fun y => !seen.contains y.born):=by unfold leftOf;rw [Array.toList_filter]
   have e2:(leftOf es (seen.push x.born)).toList=es.toList.filter (fun y => !seen.contains y.born && !(y.born == x.born)):=by
    unfold leftOf;rw [Array.toList_filter];congr 1;funext y;rw [contains_push];simp
   rw [e1,e2];have hgen:∀ l:List MapEntry,(l.map (·.born)).Nodup→x∈l→(l.filter (fun y => !seen.contains y.born)).Perm (x :: l.filter (fun y => !seen.contains y.born && !(y.born == x.born))):=by
    intro l;induction l with
    | nil=>intro _ h;simp at h
    | cons a r ih=>
     intro hnn hin;simp only [jAv,jAu,jAk,not_exists,not_and] at hnn;rcases jA1.1 hin with rfl | hin'
     ·rw [jB2 (by simpa using hes),jB7 (by simp)];rw [show r.filter (fun y => !seen.contains y.born && !(y.born == x.born))=r.filter (fun y => !seen.contains y.born) from ?_];refine List.filter_congr fun y hy=>?_;have:y.born≠x.born:=hnn.1 y hy;simp [this]
     ·have hax:a.born≠x.born:=fun e1=>hnn.1 x hin' e1.symm;cases hc:seen.contains a.born
      ·rw [jB2 (by simpa using hc),jB2 (by simp [hax];simpa using hc)];exact ((ih hnn.2 hin').cons a).trans (List.Perm.swap _ _ _)
      ·rw [jB7 (by simpa using hc),jB7 (by simp;simpa using fun h=>absurd hc (by simpa using h))];exact ih hnn.2 hin'
   exact hgen _ hbn hem
  have hperm:(R1 ++ p :: R2).Perm (p :: (R1 ++ R2)):=jC2;refine Or.inr ⟨p,R1 ++ R2,_,hperm,by rw [hpe.1,hpe.2];exact hrun,⟨es,clock,since,seen.push x.born,clock,hb',hs,hn,ho,hp,hset.1,hold,?_,fun q hq=>hsub q (hperm.mem_iff.2 (jAi _ hq)),hsk,hsk⟩,?_,?_,?_⟩
  ·have a1:=(hl2.map fun x=>(x.key,x.val)).symm.trans (hleft.trans (hperm.map _));simp only [jAv] at a1;rw [←hpe.1,←hpe.2] at a1;exact a1.cons_inv
  ·rcases hal with rfl | rfl <;> exact ⟨rfl,rfl,rfl,by simp [setBlock],fun i _ hi=>hset.2 i (fun e1=>hi (by rw [e1]))⟩
  ·rcases hal with rfl | rfl <;> simp [setBlock]
  ·rw [hpe.1,hpe.2];exact run_entry_at _ r b since seen es clock x hset.1 hb' hem hst.2.1
end
/-! ### at the operations -/
section
variable {α β:Type} [DecidableEq α] {P:Program} {k e t:TypeId} {eK:α→Value} {eV:β→Value} {ok:α→Prop} {b:Nat} {E:List (α×β)} (w:World) {ops:Array Oper} {rest:List Oper} {o:Oper} {a:Act} {Q:Exit→Act→World→Prop}
theorem zBs (hg:o.guard=none) (m x v:Operand) (hop:o.op=Op.mapUpdate t m x v) (V:KV P k e t eK ok) (hm:a.eval m=.map (some b)) (h:HoldsMap eK eV ok w b E) (key:α) (val:β) (hx:a.eval x=eK key) (hv:a.eval v=eV val) (hk:ok key) (hK:∀ w',HoldsMap eK eV ok w' b (putE E key val)→w.grownBy w' (some b)→w'.heap.size=w.heap.size→wpList P ops Q rest (a.put o.dst undef) w'):wpList P ops Q (o :: rest) a w:=by
 refine wpList_plain hg fun K' hK'=>?_;obtain ⟨w',hrun,r1,r2,r3⟩:=h.put V hk val;unfold Oper.wp;simp [execOp,hop,hm,hx,hv,hrun,Result.andThen];exact hK' _ _ (hK w' r1 r2 r3)
theorem zC5 (hg:o.guard=none) (m x:Operand) (hop:o.op=Op.call { callee:=Callee.builtin Builtin.delete,args:=#[m,x],argTypes:=#[t,k] }) (V:KV P k e t eK ok) (hm:a.eval m=.map (some b)) (h:HoldsMap eK eV ok w b E) (key:α) (hx:a.eval x=eK key) (hk:ok key) (hK:∀ w',HoldsMap eK eV ok w' b (delE E key)→w.grownBy w' (some b)→w'.heap.size=w.heap.size→wpList P ops Q rest (a.put o.dst (.tuple #[])) w'):wpList P ops Q (o :: rest) a w:=by
 refine wpList_plain hg fun K' hK'=>?_;obtain ⟨w',hrun,r1,r2,r3⟩:=h.del (ty:=o.type) V hk;unfold Oper.wp;simp [execOp,hop,resolve,invoke,builtin,hm,hx,hrun,Result.andThen];exact hK' _ _ (hK w' r1 r2 r3)
omit [DecidableEq α] in
theorem wpList_mlen (hg:o.guard=none) (m:Operand) (hop:o.op=Op.call { callee:=Callee.builtin Builtin.len,args:=#[m],argTypes:=#[t] }) (V:KV P k e t eK ok) (hm:a.eval m=.map (some b)) (h:HoldsMap eK eV ok w b E) (hK:wpList P ops Q rest (a.put o.dst (.int .i64 E.length)) w):wpList P ops Q (o :: rest) a w:=by
 refine wpList_plain hg fun K' hK'=>?_;unfold Oper.wp;simp [execOp,hop,resolve,invoke,builtin,hm,h.len (ty:=o.type) V,Result.andThen];exact hK' _ _ hK
omit [DecidableEq α] in
theorem zB1 (hg:o.guard=none) (m:Operand) (hop:o.op=Op.range t m) (V:KV P k e t eK ok) (hm:a.eval m=.map (some b)) (h:HoldsMap eK eV ok w b E) (hK:∀ w',Ranging eK eV ok w' b w.heap.size E E→Below w.heap.size w w'→w'.heap.size=w.heap.size+1→wpList P ops Q rest (a.put o.dst (.pointer (some ⟨w.heap.size,0,none⟩))) w'):wpList P ops Q (o :: rest) a w:=by
 refine wpList_plain hg fun K' hK'=>?_;obtain ⟨w',hrun,r1,r2,r3⟩:=h.range V;unfold Oper.wp;simp [execOp,hop,hm,hrun,Result.andThen];exact hK' _ _ (hK w' r1 r2 r3)
omit [DecidableEq α] in
theorem zB8 {r:Nat} {R:List (α×β)} (hg:o.guard=none) (it:Operand) (hop:o.op=Op.next it false) (hit:a.eval it=.pointer (some ⟨r,0,none⟩)) (h:Ranging eK eV ok w b r E R) (hDone:R=[]→wpList P ops Q rest (a.put o.dst (.tuple #[.bool false])) w) (hMore:∀ p R' w',R.Perm (p :: R')→Ranging eK eV ok w' b r E R'→w.grownBy w' (some r)→w'.heap.size=w.heap.size→(Instr.entry (.pointer (some ⟨r,0,none⟩))).run P w'=.ok (.tuple #[eK p.1,eV p.2]) w'→wpList P ops Q rest (a.put o.dst (.tuple #[.bool true,eK p.1,eV p.2])) w'):wpList P ops Q (o :: rest) a w:=by
 refine wpList_plain hg fun K' hK'=>?_;unfold Oper.wp;rcases h.next (P:=P) o.type with ⟨h0,hrun⟩ | ⟨p,R',w',hp,hrun,hrg,hgr,hsz,hen⟩
 ·simp [execOp,hop,hit,hrun,Result.andThen];exact hK' _ _ (hDone h0)
 ·simp [execOp,hop,hit,hrun,Result.andThen];exact hK' _ _ (hMore p R' w' hp hrg hgr hsz hen)
end
end
end Go.Proofs.YtogffkimgmlilaaGreat
