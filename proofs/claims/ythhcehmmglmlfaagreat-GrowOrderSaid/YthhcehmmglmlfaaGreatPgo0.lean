import Derived.Maps.RangeWalk
import Derived.Maps.OwnSet
import Derived.DeepKeys4
import Derived.Below
import Derived.WalkKit
import Derived.Test.YthhcehmmglmlfaaGreatRows
import Derived.KernelRfl
import Derived.StillTail
import Derived.Lib.QuietBelow
import Derived.BigQuiet
import Derived.Handy
import Derived.WalkSpells
import Derived.WalkLawsBesides
import Derived.Laws.Externs
import Derived.Deep.QuietTactic
import Derived.Lib.Hide
import Derived.ProofKit
import Derived.ChangeSame
import Derived.RegionTactic
import Derived.Test.YthhcehmmglmlfaaGreatPgoAl
set_option maxRecDepth 100000
set_option maxHeartbeats 8000000
set_option linter.all false
namespace Go.Proofs.YthhcehmmglmlfaaGreat
open _root_.Go.Proofs.Tryz
section
open Go.RowKit
section
open Go Go.ChangeMaps Go.MapKept Go.Maps
theorem tK1 {α:Type} {n:Nat} {a:α} {l:List α}:(a :: l).take (n+1)=a :: l.take n:=rfl
theorem tK0 {α:Type} {l:List α}:l.take 0=[]:=rfl
theorem dP1 {α:Type} {n:Nat} {a:α} {l:List α}:(a :: l).drop (n+1)=l.drop n:=rfl
theorem dP0 {α:Type} {l:List α}:l.drop 0=l:=rfl
theorem sT2 {α:Type} {l:List α} {i:Nat} {a:α}:l.toArray.setIfInBounds i a=(l.set i a).toArray:=List.setIfInBounds_toArray l i a
theorem sT1 {α:Type} {a b:α} {l:List α} {n:Nat}:(a :: l).set (n+1) b=a :: l.set n b:=rfl
theorem sT0 {α:Type} {a b:α} {l:List α}:(a :: l).set 0 b=b :: l:=rfl
theorem upB {w w' w2:World} (h:Below w.heap.size w w') (k:Below w'.heap.size w' w2):Below w.heap.size w w2:=h.trans (k.mono h.size)
theorem J2 {p0 p1:Prop} (h0:p0) (h1:p1):p0/\p1:=⟨h0,h1⟩
theorem J3 {p0 p1 p2:Prop} (h0:p0) (h1:p1) (h2:p2):p0/\p1/\p2:=⟨h0,h1,h2⟩
theorem J4 {p0 p1 p2 p3:Prop} (h0:p0) (h1:p1) (h2:p2) (h3:p3):p0/\p1/\p2/\p3:=⟨h0,h1,h2,h3⟩
theorem J5 {p0 p1 p2 p3 p4:Prop} (h0:p0) (h1:p1) (h2:p2) (h3:p3) (h4:p4):p0/\p1/\p2/\p3/\p4:=⟨h0,h1,h2,h3,h4⟩
theorem J6 {p0 p1 p2 p3 p4 p5:Prop} (h0:p0) (h1:p1) (h2:p2) (h3:p3) (h4:p4) (h5:p5):p0/\p1/\p2/\p3/\p4/\p5:=⟨h0,h1,h2,h3,h4,h5⟩
theorem J7 {p0 p1 p2 p3 p4 p5 p6:Prop} (h0:p0) (h1:p1) (h2:p2) (h3:p3) (h4:p4) (h5:p5) (h6:p6):p0/\p1/\p2/\p3/\p4/\p5/\p6:=⟨h0,h1,h2,h3,h4,h5,h6⟩
theorem J8 {p0 p1 p2 p3 p4 p5 p6 p7:Prop} (h0:p0) (h1:p1) (h2:p2) (h3:p3) (h4:p4) (h5:p5) (h6:p6) (h7:p7):p0/\p1/\p2/\p3/\p4/\p5/\p6/\p7:=⟨h0,h1,h2,h3,h4,h5,h6,h7⟩
theorem J9 {p0 p1 p2 p3 p4 p5 p6 p7 p8:Prop} (h0:p0) (h1:p1) (h2:p2) (h3:p3) (h4:p4) (h5:p5) (h6:p6) (h7:p7) (h8:p8):p0/\p1/\p2/\p3/\p4/\p5/\p6/\p7/\p8:=⟨h0,h1,h2,h3,h4,h5,h6,h7,h8⟩
section
variable {α β:Type} [DecidableEq α]
def getE (E:List (α×β)) (x:α):Option β:=(E.find? λp=>decide (p.1=x)).map (·.2)
def delE (E:List (α×β)) (x:α):List (α×β):=E.filter λp=>decide (p.1≠x)
def putE (E:List (α×β)) (x:α) (v:β):List (α×β):=(x,v) :: delE E x
def KeysNodup (E:List (α×β)):Prop:=(E.map (·.1)).Nodup
omit [DecidableEq α] in
theorem KeysNodup.perm {E E':List (α×β)} (h:KeysNodup E) (p:E.Perm E'):KeysNodup E':=(p.map _).nodup_iff.1 h
theorem Y5 {E:List (α×β)} {x:α} (h:∀ p∈E,p.1≠x):getE E x=none:=by
 unfold getE;rw [QH.2 (λp hp=>by simpa using h p hp)];rfl
theorem qQ {E:List (α×β)} {x:α}:getE E x=none↔∀ p∈E,p.1≠x:=by
 refine ⟨λh p hp e=>?_,Y5⟩;unfold getE at h;rw [Option.map_eq_none_iff,QH] at h;exact absurd e (by simpa using h p hp)
omit [DecidableEq α] in
theorem pairs_inj {E:List (α×β)} (hn:KeysNodup E) {p q:α×β} (hp:p∈E) (hq:q∈E) (h:p.1=q.1):p=q:=by
 unfold KeysNodup at hn;induction E with
 | nil=>simp at hp
 | cons a r ih=>
  simp only [Jm,Jf,JS,not_exists,not_and] at hn;rcases J1.1 hp with rfl | hp'
  ·rcases J1.1 hq with rfl | hq'
   ·rfl
   ·exact absurd h.symm (hn.1 q hq')
  ·rcases J1.1 hq with rfl | hq'
   ·exact absurd h (hn.1 p hp')
   ·exact ih hn.2 hp' hq'
theorem uV {E:List (α×β)} (hn:KeysNodup E) {x:α} {v:β} (h:(x,v)∈E):getE E x=some v:=by
 unfold getE;cases hf:E.find? λp=>decide (p.1=x) with
 | none=>
  rw [QH] at hf;exact absurd (hf _ h) (by simp)
 | some q=>
  have h1:=Js hf;have h2:=V7 hf;simp only [JA] at h2;rw [pairs_inj hn h1 h h2];rfl
theorem ZN {E:List (α×β)} {x:α} {v:β} (h:getE E x=some v):(x,v)∈E:=by
 unfold getE at h;cases hf:E.find? λp=>decide (p.1=x) with
 | none=>rw [hf] at h;cases h
 | some q=>
  rw [hf] at h;have h1:=Js hf;have h2:=V7 hf;simp only [JA] at h2;simp only [Va,Qi] at h;rw [<-h2,<-h];exact h1
theorem getE_iff {E:List (α×β)} (hn:KeysNodup E) {x:α} {v:β}:getE E x=some v↔(x,v)∈E:=⟨ZN,uV hn⟩
theorem jL {E E':List (α×β)} (hn:KeysNodup E) (hp:E.Perm E') (x:α):getE E x=getE E' x:=by
 cases h:getE E' x with
 | none=>rw [qQ] at h ⊢;exact λp hp'=>h p (hp.mem_iff.1 hp')
 | some v=>exact uV hn (hp.mem_iff.2 (ZN h))
theorem kO {E:List (α×β)} {x:α} (h:∀ p∈E,p.1≠x):delE E x=E:=Qv.2 λp hp=>by simpa using h p hp
theorem delE_perm {E:List (α×β)} (hn:KeysNodup E) {p:α×β} (hp:p∈E):E.Perm (p :: delE E p.1):=by
 unfold KeysNodup at hn;induction E with
 | nil=>simp at hp
 | cons a r ih=>
  simp only [Jm,Jf,JS,not_exists,not_and] at hn;rcases J1.1 hp with rfl | hp'
  ·have : delE (p :: r) p.1 = r := by
     unfold delE;rw [Jv (by simp)];exact Qv.2 λq hq=>by simpa using hn.1 q hq
   rw [this]
  ·have hne:a.1≠p.1:=λe=>hn.1 p hp' e.symm;have:delE (a :: r) p.1=a :: delE r p.1:=by
    unfold delE;rw [Jo (by simpa using hne)]
   rw [this];exact ((ih hn.2 hp').cons a).trans (List.Perm.swap _ _ _)
theorem xj {E:List (α×β)} (hn:KeysNodup E) (x:α):KeysNodup (delE E x):=by
 unfold KeysNodup delE;exact (List.filter_sublist.map _).nodup hn
theorem qG {E:List (α×β)} (hn:KeysNodup E) (x:α) (v:β):KeysNodup (putE E x v):=by
 unfold KeysNodup putE;simp only [Jm,Jf];refine ⟨?_,xj hn x⟩;simp [delE]
structure KV (P:Program) (k e t:TypeId) (eK:α->Value) (ok:α->Prop):Prop where
 keyed:Keyed P k
 ty:P.underlying t=some (.map k e)
 key:∀ x,ok x->∃ l,keyOf P k (eK x)=some l
 inj:∀ {x y},eK x=eK y->x=y
def HoldsMap (eK:α->Value) (eV:β->Value) (ok:α->Prop) (w:World) (b:Nat) (E:List (α×β)):Prop:=
 ∃ es clock,w.heap[b]? = some (.map es clock)/\Stamped es clock/\KeysNodup E/\(∀ p∈E,ok p.1)/\(es.toList.map λx=>(x.key,x.val)).Perm (E.map λp=>(eK p.1,eV p.2))
variable {P:Program} {k e t:TypeId} {eK:α->Value} {eV:β->Value} {ok:α->Prop} {w:World} {b:Nat} {E:List (α×β)}
omit [DecidableEq α] in
theorem HoldsMap.lt (h:HoldsMap eK eV ok w b E):b < w.heap.size:=by
 obtain ⟨es,clock,hb,_⟩:=h;exact (Q8.1 hb).1
omit [DecidableEq α] in
theorem HoldsMap.kept {w':World} {row:Option Nat} (h:HoldsMap eK eV ok w b E) (hg:w.grownBy w' row) (hne:some b≠row):HoldsMap eK eV ok w' b E:=by
 have hlt:=h.lt;obtain ⟨es,clock,hb,r⟩:=h;exact ⟨es,clock,(hg.block b hlt hne).trans hb,r⟩
omit [DecidableEq α] in
theorem HoldsMap.ext {w':World} {n:Nat} (h:HoldsMap eK eV ok w b E) (hg:Below n w w') (hn:n=w.heap.size):HoldsMap eK eV ok w' b E:=by
 have hlt:=h.lt;obtain ⟨es,clock,hb,r⟩:=h;exact ⟨es,clock,(hg.block b (hn▸hlt)).trans hb,r⟩
omit [DecidableEq α] in
theorem HoldsMap.ee {w':World} (h:HoldsMap eK eV ok w b E) (hg:Below w.heap.size w w'):HoldsMap eK eV ok w' b E:=h.ext hg rfl
omit [DecidableEq α] in
theorem HoldsMap.alloc (h:HoldsMap eK eV ok w b E) (o:Obj):HoldsMap eK eV ok (w.alloc o) b E:=h.kept (World.grownBy_alloc w o none) (by simp)
omit [DecidableEq α] in
theorem HoldsMap.made (w:World):HoldsMap eK eV ok (w.alloc (.map #[] 0)) w.heap.size ([]:List (α×β)):=
 ⟨#[],0,(MapKept.heap_alloc w _).1,stamped_empty 0,by simp [KeysNodup],by simp,by simp⟩
omit [DecidableEq α] in
theorem YE {es : Array MapEntry} (hp : (es.toList.map λx => (x.key, x.val)).Perm (E.map λp => (eK p.1, eV p.2))) :
    ∀ x∈es.toList,∃ p∈E,x.key=eK p.1/\x.val=eV p.2:=λx hx=>by
 have h1:=hp.mem_iff.1 (JS.2 ⟨x,hx,rfl⟩);obtain ⟨p,hp1,hp2⟩:=JS.1 h1;simp only [Jt] at hp2;exact ⟨p,hp1,hp2.1.symm,hp2.2.symm⟩
omit [DecidableEq α] in
theorem ji (V : KV P k e t eK ok) {es : Array MapEntry} (ho : ∀ p ∈ E, ok p.1) (hp : (es.toList.map λx => (x.key, x.val)).Perm (E.map λp => (eK p.1, eV p.2))) :
    ∀ x∈es.toList,∃ l,keyOf P k x.key=some l:=λx hx=>by
 obtain ⟨p,h1,h2,_⟩:=YE hp x hx;obtain ⟨l,hl⟩:=V.key p.1 (ho p h1);exact ⟨l,by rw [h2];exact hl⟩
omit [DecidableEq α] in
theorem ZE {es:Array MapEntry} (hp:(es.toList.map λx=>(x.key,x.val)).Perm (E.map λp=>(eK p.1,eV p.2))) {x:α} (h:∀ y∈es.toList,y.key≠eK x):∀ p∈E,p.1≠x:=λp hp' e=>by
 have h1:=hp.mem_iff.2 (JS.2 ⟨p,hp',rfl⟩);obtain ⟨y,hy,he⟩:=JS.1 h1;simp only [Jt] at he;exact h y hy (by rw [he.1,e])
theorem tF {γ:Type}:∀ (l:List γ) (j:Nat) (h:j < l.length),l.Perm (l[j] :: l.eraseIdx j)
 | a :: r,0,_=>UM _
 | a :: r,j+1,h=>((tF r j (by simpa using h)).cons a).trans (List.Perm.swap _ _ _)
theorem uN (V:KV P k e t eK ok) {es:Array MapEntry} (hn:KeysNodup E) (hp:(es.toList.map λx=>(x.key,x.val)).Perm (E.map λp=>(eK p.1,eV p.2))) {x:α} {j:Nat} {e0:MapEntry} (h2:es.toList[j]? = some e0) (h3:e0.key=eK x):∃ v,(x,v)∈E/\e0.val=eV v/\getE E x=some v/\((es.toList.map λx=>(x.key,x.val)).eraseIdx j).Perm ((delE E x).map λp=>(eK p.1,eV p.2)):=by
 have hm0:e0∈es.toList:=List.mem_of_getElem? h2;obtain ⟨p,hp1,hp2,hp3⟩:=YE hp e0 hm0;obtain ⟨y,v⟩:=p;obtain rfl:y=x:=V.inj (by rw [<-hp2,h3]);refine ⟨v,hp1,hp3,uV hn hp1,?_⟩;have a1:=(delE_perm hn hp1).map λp:α×β=>(eK p.1,eV p.2);have a2:(es.toList.map λx=>(x.key,x.val)).Perm ((e0.key,e0.val) :: (es.toList.map λx=>(x.key,x.val)).eraseIdx j):=by
  have hj:j < (es.toList.map λx=>(x.key,x.val)).length:=by simpa using (JR.1 h2).1
  have hg:(es.toList.map λx=>(x.key,x.val))[j]=(e0.key,e0.val):=by
   have:=(JR.1 h2).2;simp only [List.getElem_map,this]
  rw [<-hg];exact tF _ _ hj
 have a3:=a2.symm.trans (hp.trans a1);rw [Jm,hp2,hp3] at a3;exact a3.cons_inv
theorem HoldsMap.look (V:KV P k e t eK ok) (h:HoldsMap eK eV ok w b E) {z:Value} (hz:(zeroValue e).run P w=.ok z w) {x:α} (hx:ok x):(Instr.lookup t (.map (some b)) (eK x) true).run P w=.ok (match getE E x with | some v=>.tuple #[eV v,.bool true] | none=>.tuple #[z,.bool false]) w:=by
 obtain ⟨es,clock,hb,hs,hn,ho,hp⟩:=h;obtain ⟨l,hl⟩:=V.key x hx;rcases V.keyed.find w hl es.toList (ji V ho hp) with ⟨h1,h2⟩ | ⟨j,e0,h1,h2,h3⟩
 ·rw [Y5 (ZE hp h2)];simp [Instr.lookup,run_underlying V.ty,MapKept.run_getObj_map hb,V.keyed.check w _ hl,h1,hz,Result.andThen]
 ·obtain ⟨v,_,hv,hg,_⟩:=uN V hn hp h2 h3;rw [hg];simp [Instr.lookup,run_underlying V.ty,MapKept.run_getObj_map hb,V.keyed.check w _ hl,h1,Result.andThen,hv]
theorem HoldsMap.put (V:KV P k e t eK ok) (h:HoldsMap eK eV ok w b E) {x:α} (hx:ok x) (v:β):∃ w',(Instr.mapUpdate t (.map (some b)) (eK x) (eV v)).run P w=.ok () w'/\HoldsMap eK eV ok w' b (putE E x v)/\w.grownBy w' (some b)/\w'.heap.size=w.heap.size:=by
 obtain ⟨es,clock,hb,hs,hn,ho,hp⟩:=h;obtain ⟨l,hl⟩:=V.key x hx;have hgr:∀ o',w.grownBy (setBlock w b o') (some b):=λo'=>⟨rfl,rfl,rfl,by simp [setBlock],λi _ hi=>heap_setBlock_other hb _ (λe=>hi (by rw [e]))⟩;have hok:∀ p∈putE E x v,ok p.1:=λp hp'=>by
  rcases J1.1 hp' with rfl | h'
  ·exact hx
  ·exact ho p (JZ.1 h').1
 rcases V.keyed.find w hl es.toList (ji V ho hp) with ⟨h1,h2⟩ | ⟨j,e0,h1,h2,h3⟩
 ·refine ⟨setBlock w b (.map (es.push ⟨eK x,eV v,clock⟩) (clock+1)),?_,⟨_,_,heap_setBlock_same hb _,stamped_push hs h2,qG hn x v,hok,?_⟩,hgr _,by simp [setBlock]⟩
  ·simp [Instr.mapUpdate,run_underlying V.ty,MapKept.run_getObj_map hb,V.keyed.check w false hl,h1,MapKept.run_setObj_map _ hb,Result.andThen,setBlock]
  ·unfold putE;rw [kO (ZE hp h2),Array.toList_push,QC,Jm];exact (List.perm_append_comm.trans ((hp.cons _)))
 ·have hj:es[j]? = some e0:=by simpa using h2
  have hjl:j < es.toList.length:=(JR.1 h2).1;have hlist:(es.modify j (λe'=>{ e' with key:=eK x,val:=eV v })).toList=es.toList.set j { e0 with key:=eK x,val:=eV v }:=by rw [Array.toList_modify,modify_eq_set _ _ _ _ h2]
  refine ⟨setBlock w b (.map (es.modify j (λe'=>{ e' with key:=eK x,val:=eV v })) clock),?_,⟨_,_,heap_setBlock_same hb _,stamped_modify hs _ _ (λ_ _=>rfl) (λe' _ he'=>by rw [hj] at he';cases he';exact h3.symm),qG hn x v,hok,?_⟩,hgr _,by simp [setBlock]⟩
  ·simp [Instr.mapUpdate,run_underlying V.ty,MapKept.run_getObj_map hb,V.keyed.check w false hl,h1,hj,h3,V.keyed.stays w hl,MapKept.run_setObj_map _ hb,Result.andThen,setBlock]
  ·obtain ⟨v0,_,_,_,hpe⟩:=uN V hn hp h2 h3;rw [hlist,List.map_set];unfold putE;rw [Jm];exact (set_perm _ _ (by simpa using hjl) _).trans (hpe.cons _)
theorem HoldsMap.del {ty:TypeId} (V:KV P k e t eK ok) (h:HoldsMap eK eV ok w b E) {x:α} (hx:ok x):∃ w',(Builtin.delete_ #[t,k] ty #[.map (some b),eK x]).run P w=.ok (.tuple #[]) w'/\HoldsMap eK eV ok w' b (delE E x)/\w.grownBy w' (some b)/\w'.heap.size=w.heap.size:=by
 obtain ⟨es,clock,hb,hs,hn,ho,hp⟩:=h;obtain ⟨l,hl⟩:=V.key x hx;have hgr:∀ o',w.grownBy (setBlock w b o') (some b):=λo'=>⟨rfl,rfl,rfl,by simp [setBlock],λi _ hi=>heap_setBlock_other hb _ (λe=>hi (by rw [e]))⟩;have hok:∀ p∈delE E x,ok p.1:=λp hp'=>ho p (JZ.1 hp').1;rcases V.keyed.find w hl es.toList (ji V ho hp) with ⟨h1,h2⟩ | ⟨j,e0,h1,h2,h3⟩
 ·refine ⟨setBlock w b (.map es clock),?_,⟨_,_,heap_setBlock_same hb _,hs,xj hn x,hok,?_⟩,hgr _,by simp [setBlock]⟩
  ·simp [Builtin.delete_,run_underlying V.ty,MapKept.run_getObj_map hb,V.keyed.check w _ hl,h1,MapKept.run_setObj_map _ hb,Result.andThen,setBlock]
  ·rw [kO (ZE hp h2)];exact hp
 ·have hjl:j < es.toList.length:=(JR.1 h2).1;have hjs:j < es.size:=by simpa using hjl
  have hsub:(es.eraseIdxIfInBounds j).toList=es.toList.eraseIdx j:=by
   unfold Array.eraseIdxIfInBounds;rw [dif_pos hjs];simp
  obtain ⟨v0,_,_,_,hpe⟩:=uN V hn hp h2 h3;refine ⟨setBlock w b (.map (es.eraseIdxIfInBounds j) clock),?_,⟨_,_,heap_setBlock_same hb _,stamped_erase hs j,xj hn x,hok,?_⟩,hgr _,by simp [setBlock]⟩
  ·simp [Builtin.delete_,run_underlying V.ty,MapKept.run_getObj_map hb,V.keyed.check w _ hl,h1,MapKept.run_setObj_map _ hb,Result.andThen,setBlock]
  ·rw [hsub,map_eraseIdx];exact hpe
omit [DecidableEq α] in
theorem HoldsMap.len {ty:TypeId} (V:KV P k e t eK ok) (h:HoldsMap eK eV ok w b E):(Builtin.len_ #[t] ty #[.map (some b)]).run P w=.ok (.int .i64 E.length) w:=by
 obtain ⟨es,clock,hb,hs,hn,ho,hp⟩:=h;have hl:es.size=E.length:=by simpa using hp.length_eq
 rw [<-hl];simp [Builtin.len_,run_underlying V.ty,MapKept.run_getObj_map hb,Result.andThen];rfl
/-! ### 'for k, v := range m' under way: R is still to come -/
def Ranging (eK:α->Value) (eV:β->Value) (ok:α->Prop) (w:World) (b r:Nat) (E R:List (α×β)):Prop:=
 ∃ es clock since seen c0,w.heap[b]? = some (.map es clock)/\Stamped es clock/\KeysNodup E/\(∀ p∈E,ok p.1)/\(es.toList.map λx=>(x.key,x.val)).Perm (E.map λp=>(eK p.1,eV p.2)) /\
  w.heap[r]? = some (.mapIter (some b) since seen c0)/\(∀ x∈es.toList,x.born < since)/\((leftOf es seen).toList.map λx=>(x.key,x.val)).Perm (R.map λp=>(eK p.1,eV p.2))/\(∀ p∈R,p∈E)/\since<=c0/\since<=clock
omit [DecidableEq α] in
theorem Ranging.holds {r:Nat} {R:List (α×β)} (h:Ranging eK eV ok w b r E R):HoldsMap eK eV ok w b E:=by
 obtain ⟨es,clock,_,_,_,hb,hs,hn,ho,hp,_⟩:=h;exact ⟨es,clock,hb,hs,hn,ho,hp⟩
omit [DecidableEq α] in
theorem Ranging.lt {r:Nat} {R:List (α×β)} (h:Ranging eK eV ok w b r E R):r < w.heap.size:=by
 obtain ⟨es,clock,_,_,_,_,_,_,_,_,hr,_⟩:=h;exact (Q8.1 hr).1
omit [DecidableEq α] in
theorem Ranging.ne {r:Nat} {R:List (α×β)} (h:Ranging eK eV ok w b r E R):r≠b:=by
 obtain ⟨es,clock,_,_,_,hb,_,_,_,_,hr,_⟩:=h;intro e1;rw [e1,hb] at hr;cases hr
omit [DecidableEq α] in
theorem Ranging.kept {r:Nat} {R:List (α×β)} {w':World} {row:Option Nat} (h:Ranging eK eV ok w b r E R) (hg:w.grownBy w' row) (h1:some b≠row) (h2:some r≠row):Ranging eK eV ok w' b r E R:=by
 have l1:=h.holds.lt;have l2:=h.lt;obtain ⟨es,clock,since,seen,c0,hb,hs,hn,ho,hp,hr,rest⟩:=h;exact ⟨es,clock,since,seen,c0,(hg.block b l1 h1).trans hb,hs,hn,ho,hp,(hg.block r l2 h2).trans hr,rest⟩
omit [DecidableEq α] in
theorem Ranging.ext {r:Nat} {R:List (α×β)} {w':World} {n:Nat} (h:Ranging eK eV ok w b r E R) (hg:Below n w w') (hn:n=w.heap.size):Ranging eK eV ok w' b r E R:=
 h.kept (row:=none) ⟨hg.os,hg.tape,hg.output,hg.size,λi hi _=>hg.block i (hn▸hi)⟩ (by simp) (by simp)
omit [DecidableEq α] in
theorem Ranging.ee {r:Nat} {R:List (α×β)} {w':World} (h:Ranging eK eV ok w b r E R) (hg:Below w.heap.size w w'):Ranging eK eV ok w' b r E R:=h.ext hg rfl
omit [DecidableEq α] in
theorem HoldsMap.range (V:KV P k e t eK ok) (h:HoldsMap eK eV ok w b E):∃ w',(Instr.range t (.map (some b))).run P w=.ok (.pointer (some ⟨w.heap.size,0,none⟩)) w'/\Ranging eK eV ok w' b w.heap.size E E/\Below w.heap.size w w'/\w'.heap.size=w.heap.size+1:=by
 have hlt:=h.lt;obtain ⟨es,clock,hb,hs,hn,ho,hp⟩:=h;refine ⟨_,run_range_map w t k e b es clock V.ty hb,⟨es,clock,clock,#[],clock,((MapKept.heap_alloc w _).2 b hlt).trans hb,hs,hn,ho,hp,(MapKept.heap_alloc w _).1,hs.1,?_,λ_ h=>h,JJ _,JJ _⟩,⟨rfl,rfl,rfl,by simp,λi hi=>(MapKept.heap_alloc w _).2 i hi⟩,by simp⟩;have:leftOf es #[]=es:=by unfold leftOf;exact Array.filter_eq_self.2 (λx _=>by simp)
 rw [this];exact hp
omit [DecidableEq α] in
theorem Ranging.next {r:Nat} {R:List (α×β)} (h:Ranging eK eV ok w b r E R) (ty:TypeId):(R=[]/\(Instr.next (.pointer (some ⟨r,0,none⟩)) false ty).run P w=.ok (.tuple #[.bool false]) w)\/∃ p R' w',R.Perm (p :: R')/\(Instr.next (.pointer (some ⟨r,0,none⟩)) false ty).run P w=.ok (.tuple #[.bool true,eK p.1,eV p.2]) w'/\Ranging eK eV ok w' b r E R'/\w.grownBy w' (some r)/\w'.heap.size=w.heap.size/\(Instr.entry (.pointer (some ⟨r,0,none⟩))).run P w'=.ok (.tuple #[eK p.1,eV p.2]) w':=by
 have hne:=h.ne;obtain ⟨es,clock,since,seen,c0,hb,hs,hn,ho,hp,hr,hold,hleft,hsub,hsc,hsk⟩:=h;rcases run_next_at (P:=P) w ty r b since c0 seen es clock hr hb hold hsc with ⟨h0,hrun⟩ | ⟨x,hx,w1,hal,hrun⟩
 ·refine Or.inl ⟨?_,hrun⟩;have:=hleft.length_eq;rw [Qz,Vf,h0,Qz] at this;exact QW this.symm
 ·obtain ⟨hem,hes⟩:=mem_left hx;have hst:=(stamped_iff es clock).1 hs;have hm:=hleft.mem_iff.1 (JS.2 ⟨x,hx,rfl⟩);obtain ⟨p,hpR,hpe⟩:=JS.1 hm;simp only [Jt] at hpe;obtain ⟨R1,R2,rfl⟩:=Qy hpR;have hr1:w1.heap[r]? = some (.mapIter (some b) since seen c0):=by rcases hal with rfl | rfl <;> exact hr
  have hb1:w1.heap[b]? = some (.map es clock):=by rcases hal with rfl | rfl <;> exact hb
  have hset:=heap_set (o':=.mapIter (some b) since (seen.push x.born) clock) hr1;have hb':(setBlock w1 r (.mapIter (some b) since (seen.push x.born) clock)).heap[b]? = some (.map es clock):=(hset.2 b (λe1=>hne e1.symm)).trans hb1;have hbn:(es.toList.map (·.born)).Nodup:=hst.2.1;have hl2:(leftOf es seen).toList.Perm (x :: (leftOf es (seen.push x.born)).toList):=by
   have e1:(leftOf es seen).toList=es.toList.filter (λy => !seen.contains y.born):=by unfold leftOf;rw [Array.toList_filter]
   have e2:(leftOf es (seen.push x.born)).toList=es.toList.filter (λy => !seen.contains y.born && !(y.born == x.born)):=by
    unfold leftOf;rw [Array.toList_filter];congr 1;funext y;rw [contains_push];simp
   rw [e1,e2];have hgen:∀ l:List MapEntry,(l.map (·.born)).Nodup->x∈l->(l.filter (λy => !seen.contains y.born)).Perm (x :: l.filter (λy => !seen.contains y.born && !(y.born == x.born))):=by
    intro l;induction l with
    | nil=>intro _ h;simp at h
    | cons a r ih=>
     intro hnn hin;simp only [Jm,Jf,JS,not_exists,not_and] at hnn;rcases J1.1 hin with rfl | hin'
     ·rw [Jo (by simpa using hes),Jv (by simp)];rw [show r.filter (λy => !seen.contains y.born && !(y.born == x.born))=r.filter (λy => !seen.contains y.born) from ?_];refine List.filter_congr λy hy=>?_;have:y.born≠x.born:=hnn.1 y hy;simp [this]
     ·have hax:a.born≠x.born:=λe1=>hnn.1 x hin' e1.symm;cases hc:seen.contains a.born
      ·rw [Jo (by simpa using hc),Jo (by simp [hax];simpa using hc)];exact ((ih hnn.2 hin').cons a).trans (List.Perm.swap _ _ _)
      ·rw [Jv (by simpa using hc),Jv (by simp;simpa using λh=>absurd hc (by simpa using h))];exact ih hnn.2 hin'
   exact hgen _ hbn hem
  have hperm:(R1 ++ p :: R2).Perm (p :: (R1 ++ R2)):=QM;refine Or.inr ⟨p,R1 ++ R2,_,hperm,by rw [hpe.1,hpe.2];exact hrun,⟨es,clock,since,seen.push x.born,clock,hb',hs,hn,ho,hp,hset.1,hold,?_,λq hq=>hsub q (hperm.mem_iff.2 (JN _ hq)),hsk,hsk⟩,?_,?_,?_⟩
  ·have a1:=(hl2.map λx=>(x.key,x.val)).symm.trans (hleft.trans (hperm.map _));simp only [Jm] at a1;rw [<-hpe.1,<-hpe.2] at a1;exact a1.cons_inv
  ·rcases hal with rfl | rfl <;> exact ⟨rfl,rfl,rfl,by simp [setBlock],λi _ hi=>hset.2 i (λe1=>hi (by rw [e1]))⟩
  ·rcases hal with rfl | rfl <;> simp [setBlock]
  ·rw [hpe.1,hpe.2];exact run_entry_at _ r b since seen es clock x hset.1 hb' hem hst.2.1
end
/-! ### at the operations -/
section
variable {α β:Type} [DecidableEq α] {P:Program} {k e t:TypeId} {eK:α->Value} {eV:β->Value} {ok:α->Prop} {b:Nat} {E:List (α×β)} (w:World) {ops:Array Oper} {rest:List Oper} {o:Oper} {a:Act} {Q:Exit->Act->World->Prop}
theorem yq (hg:o.guard=none) (m x v:Operand) (hop:o.op=Op.mapUpdate t m x v) (V:KV P k e t eK ok) (hm:a.eval m=.map (some b)) (h:HoldsMap eK eV ok w b E) (key:α) (val:β) (hx:a.eval x=eK key) (hv:a.eval v=eV val) (hk:ok key) (hK:∀ w',HoldsMap eK eV ok w' b (putE E key val)->w.grownBy w' (some b)->w'.heap.size=w.heap.size->wpList P ops Q rest (a.put o.dst undef) w'):wpList P ops Q (o :: rest) a w:=by
 refine wpList_plain hg λK' hK'=>?_;obtain ⟨w',hrun,r1,r2,r3⟩:=h.put V hk val;unfold Oper.wp;simp [execOp,hop,hm,hx,hv,hrun,Result.andThen];exact hK' _ _ (hK w' r1 r2 r3)
theorem xG (hg:o.guard=none) (m x:Operand) (hop:o.op=Op.call { callee:=Callee.builtin Builtin.delete,args:=#[m,x],argTypes:=#[t,k] }) (V:KV P k e t eK ok) (hm:a.eval m=.map (some b)) (h:HoldsMap eK eV ok w b E) (key:α) (hx:a.eval x=eK key) (hk:ok key) (hK:∀ w',HoldsMap eK eV ok w' b (delE E key)->w.grownBy w' (some b)->w'.heap.size=w.heap.size->wpList P ops Q rest (a.put o.dst (.tuple #[])) w'):wpList P ops Q (o :: rest) a w:=by
 refine wpList_plain hg λK' hK'=>?_;obtain ⟨w',hrun,r1,r2,r3⟩:=h.del (ty:=o.type) V hk;unfold Oper.wp;simp [execOp,hop,resolve,invoke,builtin,hm,hx,hrun,Result.andThen];exact hK' _ _ (hK w' r1 r2 r3)
omit [DecidableEq α] in
theorem wpList_mlen (hg:o.guard=none) (m:Operand) (hop:o.op=Op.call { callee:=Callee.builtin Builtin.len,args:=#[m],argTypes:=#[t] }) (V:KV P k e t eK ok) (hm:a.eval m=.map (some b)) (h:HoldsMap eK eV ok w b E) (hK:wpList P ops Q rest (a.put o.dst (.int .i64 E.length)) w):wpList P ops Q (o :: rest) a w:=by
 refine wpList_plain hg λK' hK'=>?_;unfold Oper.wp;simp [execOp,hop,resolve,invoke,builtin,hm,h.len (ty:=o.type) V,Result.andThen];exact hK' _ _ hK
omit [DecidableEq α] in
theorem yK (hg:o.guard=none) (m:Operand) (hop:o.op=Op.range t m) (V:KV P k e t eK ok) (hm:a.eval m=.map (some b)) (h:HoldsMap eK eV ok w b E) (hK:∀ w',Ranging eK eV ok w' b w.heap.size E E->Below w.heap.size w w'->w'.heap.size=w.heap.size+1->wpList P ops Q rest (a.put o.dst (.pointer (some ⟨w.heap.size,0,none⟩))) w'):wpList P ops Q (o :: rest) a w:=by
 refine wpList_plain hg λK' hK'=>?_;obtain ⟨w',hrun,r1,r2,r3⟩:=h.range V;unfold Oper.wp;simp [execOp,hop,hm,hrun,Result.andThen];exact hK' _ _ (hK w' r1 r2 r3)
omit [DecidableEq α] in
theorem yN {r:Nat} {R:List (α×β)} (hg:o.guard=none) (it:Operand) (hop:o.op=Op.next it false) (hit:a.eval it=.pointer (some ⟨r,0,none⟩)) (h:Ranging eK eV ok w b r E R) (hDone:R=[]->wpList P ops Q rest (a.put o.dst (.tuple #[.bool false])) w) (hMore:∀ p R' w',R.Perm (p :: R')->Ranging eK eV ok w' b r E R'->w.grownBy w' (some r)->w'.heap.size=w.heap.size->(Instr.entry (.pointer (some ⟨r,0,none⟩))).run P w'=.ok (.tuple #[eK p.1,eV p.2]) w'->wpList P ops Q rest (a.put o.dst (.tuple #[.bool true,eK p.1,eV p.2])) w'):wpList P ops Q (o :: rest) a w:=by
 refine wpList_plain hg λK' hK'=>?_;unfold Oper.wp;rcases h.next (P:=P) o.type with ⟨h0,hrun⟩ | ⟨p,R',w',hp,hrun,hrg,hgr,hsz,hen⟩
 ·simp [execOp,hop,hit,hrun,Result.andThen];exact hK' _ _ (hDone h0)
 ·simp [execOp,hop,hit,hrun,Result.andThen];exact hK' _ _ (hMore p R' w' hp hrg hgr hsz hen)
end
end
def M:Int:=18446744073709551616
def V (h l:Int):Int:=h * 18446744073709551616+l
def fits (n:Int):Bool:=decide (-170141183460469231731687303715884105728<=n) && decide (n<=170141183460469231731687303715884105727)
def cH (n:Int):Int:=if fits n=true then n / 18446744073709551616 else 0
def cL (n:Int):Int:=if fits n=true then n % 18446744073709551616 else 0
def sgn (n:Int):Int:=if n < 0 then -1 else if 0 < n then 1 else 0
def lo (x y:Int):Int:=(x+y) % 18446744073709551616
def cy (x y:Int):Int:=(x+y) / 18446744073709551616
structure Ok (h l:Int):Prop where
 h0 : -9223372036854775808<=h
 h1:h<=9223372036854775807
 l0:0<=l
 l1:l<=18446744073709551615
theorem zg {n:Int}:fits n=true ↔ -170141183460469231731687303715884105728<=n/\n<=170141183460469231731687303715884105727:=by
 simp [fits]
theorem fits_not {n:Int}:fits n=false↔¬ (-170141183460469231731687303715884105728<=n/\n<=170141183460469231731687303715884105727):=by
 simp [fits]
theorem ok_c (n:Int):Ok (cH n) (cL n):=by
 unfold cH cL;split
 ·rename_i h;rw [zg] at h;exact ⟨by omega,by omega,by omega,by omega⟩
 ·exact ⟨by omega,by omega,by omega,by omega⟩
theorem V_c {n:Int} (h:fits n):V (cH n) (cL n)=n:=by
 unfold cH cL V;rw [JH h,JH h];omega
theorem c_not {n:Int} (h:fits n=false):cH n=0/\cL n=0:=by
 unfold cH cL;rw [h];exact ⟨rfl,rfl⟩
theorem cy_01 {x y:Int} (h0:0<=x) (h1:x<=18446744073709551615) (k0:0<=y) (k1:y<=18446744073709551615):0<=cy x y/\cy x y<=1:=by
 unfold cy;omega
theorem w64 (n:Int):wrap64 n=(n+9223372036854775808) % 18446744073709551616 - 9223372036854775808:=by
 simp only [wrap64]
theorem Xu {h1 l1 h2 l2:Int} (k:Ok h1 l1) (q:Ok h2 l2) (c:h1 < 0↔h2 < 0) (d:¬ (wrap64 (wrap64 (h1+h2)+cy l1 l2) < 0↔h2 < 0)):fits (V h1 l1+V h2 l2)=false:=by
 obtain ⟨a1,a2,a3,a4⟩:=k;obtain ⟨b1,b2,b3,b4⟩:=q;rw [fits_not];simp only [w64,cy] at d;unfold V;omega
theorem add_in {h1 l1 h2 l2:Int} (k:Ok h1 l1) (q:Ok h2 l2) (c:(h1 < 0↔h2 < 0)->(wrap64 (wrap64 (h1+h2)+cy l1 l2) < 0↔h2 < 0)):fits (V h1 l1+V h2 l2)=true/\cH (V h1 l1+V h2 l2)=wrap64 (wrap64 (h1+h2)+cy l1 l2)/\cL (V h1 l1+V h2 l2)=lo l1 l2:=by
 obtain ⟨a1,a2,a3,a4⟩:=k;obtain ⟨b1,b2,b3,b4⟩:=q;have e:fits (V h1 l1+V h2 l2)=true:=by
  rw [zg];simp only [w64,cy] at c;unfold V;omega
 refine ⟨e,?_,?_⟩
 ·unfold cH;rw [JH e];rw [zg] at e;simp only [w64,cy] at c ⊢;unfold V at e ⊢;omega
 ·unfold cL;rw [JH e];unfold V lo;omega
theorem sg_i64:IntKind.i64.signed=true:=rfl
theorem sg_u64:IntKind.u64.signed=false:=rfl
theorem bv_not (n:Int):BitVec.ofInt 64 (-1) ^^^ BitVec.ofInt 64 n=BitVec.ofInt 64 (-1 - n):=by
 have h1:BitVec.ofInt 64 (-1)=BitVec.allOnes 64:=by decide
 have h3:BitVec.ofInt 64 (-n) = ~~~BitVec.ofInt 64 n+1#64:=by rw [BitVec.ofInt_neg,BitVec.neg_eq_not_add]
 have h2:∀ x:BitVec 64,BitVec.allOnes 64+(x+1#64)=x:=λx=>by
  rw [BitVec.add_comm x,<-BitVec.add_assoc];have:BitVec.allOnes 64+1#64=0#64:=by decide
  rw [this,BitVec.zero_add]
 rw [Int.sub_eq_add_neg,BitVec.ofInt_add,h3,h1,BitVec.allOnes_xor,h2]
theorem xor_i64 (n:Int) (h0 : -9223372036854775808<=n) (h1:n<=9223372036854775807):bits .xor .i64 (-1) n = -1 - n:=by
 show IntKind.i64.wrap ((BitVec.ofInt 64 (-1) ^^^ BitVec.ofInt 64 n).toNat:Int)=_;rw [bv_not,BitVec.toNat_ofInt,IntKind.wrap_i64];omega
theorem xor_u64 (n:Int) (h0:0<=n) (h1:n<=18446744073709551615):bits .xor .u64 IntKind.u64.max n=18446744073709551615 - n:=by
 show IntKind.u64.wrap ((BitVec.ofInt 64 (IntKind.u64.max) ^^^ BitVec.ofInt 64 n).toNat:Int)=_;have:BitVec.ofInt 64 IntKind.u64.max=BitVec.ofInt 64 (-1):=by decide
 rw [this,bv_not,BitVec.toNat_ofInt,IntKind.wrap_u64];omega
/- The document's own answer reckons modulo 2^128. -/
def mH (n:Int):Int:=wrap64 (n / 18446744073709551616)
def mL (n:Int):Int:=n % 18446744073709551616
theorem ok_m (n:Int):Ok (mH n) (mL n):=by
 unfold mH mL wrap64;exact ⟨by omega,by omega,by omega,by omega⟩
theorem V_m (n:Int):∃ k:Int,V (mH n) (mL n)=n+k * 340282366920938463463374607431768211456:=by
 unfold mH mL wrap64 V;exact ⟨-((n / 18446744073709551616+9223372036854775808) / 18446744073709551616),by omega⟩
theorem m_add (n k:Int):mH (n+k * 340282366920938463463374607431768211456)=mH n/\mL (n+k * 340282366920938463463374607431768211456)=mL n:=by
 unfold mH mL wrap64;omega
theorem m_c {n:Int} (h:fits n):mH n=cH n/\mL n=cL n:=by
 unfold cH cL;rw [JH h,JH h];rw [zg] at h;unfold mH mL wrap64;omega
theorem m_cong {a b:Int} (k:Int) (e:a=b+k * 340282366920938463463374607431768211456):mH a=mH b/\mL a=mL b:=by
 subst e;exact m_add b k
theorem m_sum {h1 l1 h2 l2:Int} (k:Ok h1 l1) (q:Ok h2 l2):mL (V h1 l1+V h2 l2)=lo l1 l2/\mH (V h1 l1+V h2 l2)=wrap64 (wrap64 (h1+h2)+cy l1 l2):=by
 obtain ⟨a1,a2,a3,a4⟩:=k;obtain ⟨b1,b2,b3,b4⟩:=q;unfold mL mH lo cy wrap64 V;omega
theorem Zr (a b:Int) (a0 : -9223372036854775808<=a) (a1:a<=9223372036854775807) (b0 : -9223372036854775808<=b) (b1:b<=9223372036854775807) : -85070591730234615865843651857942052864<=a * b/\a * b<=85070591730234615865843651857942052864:=by
 have h1:(a.natAbs:Int) * b.natAbs<=9223372036854775808 * 9223372036854775808:=by
  have:a.natAbs * b.natAbs<=9223372036854775808 * 9223372036854775808:=UP (by omega) (by omega);have e:(a.natAbs:Int) * b.natAbs=((a.natAbs * b.natAbs:Nat):Int):=(Int.natCast_mul _ _).symm;rw [e];generalize a.natAbs * b.natAbs=p at *
  omega
 have h2:(a * b).natAbs=a.natAbs * b.natAbs:=Int.natAbs_mul a b;have h3:((a * b).natAbs:Int)=(a.natAbs:Int) * b.natAbs:=by rw [h2];exact Int.natCast_mul _ _
 generalize a * b=p at *
 omega
theorem XU (a b:Int) (a0 : -9223372036854775808<=a) (a1:a<=9223372036854775807) (b0 : -9223372036854775808<=b) (b1:b<=9223372036854775807):fits (a * b)=true:=by
 have:=Zr a b a0 a1 b0 b1;rw [zg];omega
theorem mul_words (a b:Int) (a0 : -9223372036854775808<=a) (a1:a<=9223372036854775807) (b0 : -9223372036854775808<=b) (b1:b<=9223372036854775807):cL (a * b)=(IntKind.u64.wrap a * IntKind.u64.wrap b) % 18446744073709551616/\(0<=a->0<=b->cH (a * b)=wrap64 (IntKind.u64.wrap a * IntKind.u64.wrap b / 18446744073709551616))/\(a < 0->0<=b->cH (a * b)=wrap64 (IntKind.u64.wrap (IntKind.u64.wrap a * IntKind.u64.wrap b / 18446744073709551616 - IntKind.u64.wrap b)))/\(0<=a->b < 0->cH (a * b)=wrap64 (IntKind.u64.wrap (IntKind.u64.wrap a * IntKind.u64.wrap b / 18446744073709551616 - IntKind.u64.wrap a)))/\(a < 0->b < 0->cH (a * b)=wrap64 (IntKind.u64.wrap (IntKind.u64.wrap (IntKind.u64.wrap a * IntKind.u64.wrap b / 18446744073709551616 - IntKind.u64.wrap b) - IntKind.u64.wrap a))):=by
 have ef:=XU a b a0 a1 b0 b1;have bd:=Zr a b a0 a1 b0 b1;unfold cL cH;rw [JH ef,JH ef];have ea:a < 0->IntKind.u64.wrap a=a+18446744073709551616:=λh=>by rw [IntKind.wrap_u64];omega
 have ea':0<=a->IntKind.u64.wrap a=a:=λh=>by rw [IntKind.wrap_u64];omega
 have eb:b < 0->IntKind.u64.wrap b=b+18446744073709551616:=λh=>by rw [IntKind.wrap_u64];omega
 have eb':0<=b->IntKind.u64.wrap b=b:=λh=>by rw [IntKind.wrap_u64];omega
 have m1:(a+18446744073709551616) * b=a * b+18446744073709551616 * b:=Vz _ _ _;have m2:a * (b+18446744073709551616)=a * b+a * 18446744073709551616:=Int.mul_add _ _ _;have m3:(a+18446744073709551616) * (b+18446744073709551616)=a * b+a * 18446744073709551616+(18446744073709551616 * b+18446744073709551616 * 18446744073709551616):=by rw [Int.mul_add,Vz,Vz];omega
 refine ⟨?_,λha hb=>?_,λha hb=>?_,λha hb=>?_,λha hb=>?_⟩
 ·rcases VH a 0 with ha | ha <;> rcases VH b 0 with hb | hb
  ·rw [ea ha,eb hb,m3];generalize a * b=p at *;omega
  ·rw [ea ha,eb' hb,m1];generalize a * b=p at *;omega
  ·rw [ea' ha,eb hb,m2];generalize a * b=p at *;omega
  ·rw [ea' ha,eb' hb]
 ·rw [ea' ha,eb' hb];generalize a * b=p at *;unfold wrap64;omega
 ·rw [ea ha,eb' hb,m1,IntKind.wrap_u64];generalize a * b=p at *;unfold wrap64;omega
 ·rw [ea' ha,eb hb,m2,IntKind.wrap_u64];generalize a * b=p at *;unfold wrap64;omega
 ·rw [ea ha,eb hb,m3,IntKind.wrap_u64,IntKind.wrap_u64];generalize a * b=p at *;unfold wrap64;omega
theorem ok_w (x y:Int):Ok (wrap64 x) (IntKind.u64.wrap y):=by
 rw [IntKind.wrap_u64];unfold wrap64;exact ⟨by omega,by omega,by omega,by omega⟩
theorem halves (X Y:Int) (x0:0<=X) (x1:X<=9223372036854775808) (y0:0<=Y) (y1:Y<=9223372036854775808):V (wrap64 (IntKind.u64.wrap (X / 4294967296 * (Y / 4294967296)))) (IntKind.u64.wrap (X % 4294967296 * (Y % 4294967296)))+V (wrap64 (IntKind.u64.wrap (X % 4294967296 * (Y / 4294967296)) / 4294967296)) (IntKind.u64.wrap (IntKind.u64.wrap (X % 4294967296 * (Y / 4294967296)) * 4294967296))+V (wrap64 (IntKind.u64.wrap (X / 4294967296 * (Y % 4294967296)) / 4294967296)) (IntKind.u64.wrap (IntKind.u64.wrap (X / 4294967296 * (Y % 4294967296)) * 4294967296))=X * Y:=by
 have b1:0<=X / 4294967296/\X / 4294967296<=2147483648:=by omega
 have b2:0<=X % 4294967296/\X % 4294967296<=4294967295:=by omega
 have b3:0<=Y / 4294967296/\Y / 4294967296<=2147483648:=by omega
 have b4:0<=Y % 4294967296/\Y % 4294967296<=4294967295:=by omega
 have ex:X=X / 4294967296 * 4294967296+X % 4294967296:=by omega
 have ey:Y=Y / 4294967296 * 4294967296+Y % 4294967296:=by omega
 generalize X / 4294967296=xh at *
 generalize X % 4294967296=xl at *
 generalize Y / 4294967296=yh at *
 generalize Y % 4294967296=yl at *
 have pb:∀ p q P Q:Int,0<=p->p<=P->0<=q->q<=Q->0<=p * q/\p * q<=P * Q:=λp q P Q h1 h2 h3 h4=>
  ⟨JD h1 h3,Int.mul_le_mul h2 h4 h3 (Int.le_trans h1 h2)⟩
 have p1:=pb xh yh _ _ b1.1 b1.2 b3.1 b3.2;have p2:=pb xl yl _ _ b2.1 b2.2 b4.1 b4.2;have p3:=pb xl yh _ _ b2.1 b2.2 b3.1 b3.2;have p4:=pb xh yl _ _ b1.1 b1.2 b4.1 b4.2;have e:X * Y=xh * yh * 18446744073709551616+(xh * yl+xl * yh) * 4294967296+xl * yl:=by rw [ex,ey];grind
 rw [e];generalize xh * yh=A at *
 generalize xl * yl=B at *
 generalize xl * yh=C at *
 generalize xh * yl=D at *
 simp only [IntKind.wrap_u64];unfold wrap64 V;omega
theorem lo_lt {l1 l2:Int} (a:0<=l1) (b:l1<=18446744073709551615) (c:0<=l2) (d:l2<=18446744073709551615):(lo l1 l2 < l1->cy l1 l2=1)/\(l1<=lo l1 l2->cy l1 l2=0):=by
 unfold lo cy;omega
structure Pt where
 x:Int
 y:Int
instance:Coe Pt Value:=⟨λp=>.agg #[.int .i64 p.x,.int .i64 p.y]⟩
theorem Pt.eq_iff {p q:Pt}:p=q↔p.x=q.x/\p.y=q.y:=by
 cases p;cases q;simp
def inG (n:Int):Bool:=decide (0<=n/\n < 16777216)
def vld (p:Pt):Bool:=inG p.x && inG p.y
def cmpN (a b:Int):Int:=sgn (a - b)
def cmpP (p q:Pt):Int:=if p.x=q.x then cmpN p.y q.y else cmpN p.x q.x
def det (a b c:Pt):Int:=(b.x - a.x) * (c.y - a.y) - (b.y - a.y) * (c.x - a.x)
def ori (a b c:Pt):Int:=if vld a=true/\vld b=true/\vld c=true then sgn (det a b c) else 0
theorem zh {p:Pt}:vld p=true↔(0<=p.x/\p.x < 16777216)/\0<=p.y/\p.y < 16777216:=by simp [vld,inG]
instance:DecidableEq Pt:=λp q=>decidable_of_iff (p.x=q.x/\p.y=q.y) Pt.eq_iff.symm
instance:Inhabited Pt:=⟨⟨0,0⟩⟩
@[reducible] def eW (w:Pt×Pt):Value:=.agg #[.int .i64 w.1.x,.int .i64 w.1.y,.int .i64 w.2.x,.int .i64 w.2.y]
def okI (n:Int):Prop:=(Lit.int .i64 n).wf=true
def okP (p:Pt):Prop:=okI p.x/\okI p.y
def okW (w:Pt×Pt):Prop:=okP w.1/\okP w.2
theorem eW_inj {v w:Pt×Pt} (h:eW v=eW w):v=w:=by
 obtain ⟨⟨a,b⟩,⟨c,d⟩⟩:=v;obtain ⟨⟨e,f⟩,⟨g,i⟩⟩:=w
 simpa [eW,and_assoc] using h
theorem laidTry:laidOutB prog=true:=by kernel_rfl
theorem XG {P:Program} {t:TypeId} (ht:P.underlying t=some (.int .i64)) (d:Nat) {n:Int} (h:okI n):P.keyLits (d+1) t [.int .i64 n]=some [.int .i64 n]:=by
 unfold okI at h;simp only [Program.keyLits,ht,h,and_self,VZ]
theorem XF {P : Program} {t : TypeId} {f g : Field} (ht : P.underlying t = some (.struct #[f, g])) (hc : P.cellsOf t = P.cellsOf f.type + P.cellsOf g.type) (hf : f.name ≠ "_") (hg : g.name ≠ "_") (ho : f.offset = 0) (hp : g.offset = P.cellsOf f.type) (d : Nat) {xs ys : List Value} {a b : List Lit} (h1 : xs.length = P.cellsOf f.type) (h2 : ys.length = P.cellsOf g.type) (h3 : P.keyLits d f.type xs = some a) (h4 : P.keyLits d g.type ys = some b) : P.keyLits (d + 1) t (xs ++ ys) = some (a ++ b) := by
 have e1:((xs ++ ys).drop f.offset).take (P.cellsOf f.type)=xs:=by rw [ho,QZ,<-h1];simp
 have e2:((xs ++ ys).drop g.offset).take (P.cellsOf g.type)=ys:=by rw [hp,<-h1,<-h2];simp
 simp only [Program.keyLits,ht];rw [JH ⟨by simp [h1,h2,hc],by simp [hf,hg]⟩];simp [e1,e2,h3,h4]
theorem KS (d:Nat) (p:Pt) (h:okP p):prog.keyLits (d+1+1) 34 [.int .i64 p.x,.int .i64 p.y]=some [.int .i64 p.x,.int .i64 p.y]:=
 XF underlying34 (by kernel_rfl) (by decide) (by decide) rfl (by kernel_rfl) (d+1) (xs:=[.int .i64 p.x]) (ys:=[.int .i64 p.y]) (by kernel_rfl) (by kernel_rfl) (XG underlying3 d h.1) (XG underlying3 d h.2)
theorem KW {t : TypeId} {f g : Field} (ht : prog.underlying t = some (.struct #[f, g])) (hk : prog.keyType t = true) (hc : prog.cellsOf t = 4) (hf : f.name ≠ "_") (hg : g.name ≠ "_") (ho : f.offset = 0) (hp : g.offset = 2) (tf : f.type = 34) (tg : g.type = 34) (w : Pt × Pt) (h : okW w) (hfm : Value.formed prog t (eW w) = true) : ∃ l, keyOf prog t (eW w) = some l := by
 have hP:prog.cellsOf 34=2:=by kernel_rfl
 have hn:2<=prog.types.size:=U0 (by kernel_rfl);obtain ⟨d,hd⟩:∃ d,prog.types.size+1=d+1+1+1:=⟨prog.types.size - 2,by omega⟩;have hl:=XF (P:=prog) ht (by rw [tf,tg,hP,hc]) hf hg ho (by rw [tf,hP,hp]) (d+1+1) (xs:=[.int .i64 w.1.x,.int .i64 w.1.y]) (ys:=[.int .i64 w.2.x,.int .i64 w.2.y]) (by rw [tf,hP];rfl) (by rw [tg,hP];rfl)
  (by rw [tf];exact KS d w.1 h.1) (by rw [tg];exact KS d w.2 h.2)
 unfold keyOf;simp only [ht,hk,hfm,Bool.and_self,VZ,hd];exact ⟨_,congrArg (Option.map _) hl⟩
theorem Zy {t:TypeId} {fs:Array Field} (ht:prog.underlying t=some (.struct fs)) (h1:t < prog.types.size) (h2:prog.keyTypeAt 5 t):Go.Maps.Keyed prog t:=by
 refine Go.Maps.Keyed.of_law (deep_law_laid laidTry (m:=5) (by decide) h1 h2 ?_);rw [ht]
theorem kvM:KV prog 116 45 81 eW okW where
 keyed:=Zy underlying116 (U0 (by kernel_rfl)) (by kernel_rfl)
 ty:=underlying81
 key w h:=KW underlying116 (by kernel_rfl) (by kernel_rfl) (by decide) (by decide) rfl rfl rfl rfl w h (by kernel_rfl)
 inj:=eW_inj
theorem kvR:KV prog 100 45 96 eW okW where
 keyed:=Zy underlying100 (U0 (by kernel_rfl)) (by kernel_rfl)
 ty:=underlying96
 key w h:=KW underlying100 (by kernel_rfl) (by kernel_rfl) (by decide) (by decide) rfl rfl rfl rfl w h (by kernel_rfl)
 inj:=eW_inj
open Go.Sort
instance:Coe Int Value:=⟨Value.int .i64⟩
instance:Coe Nat Value:=⟨λn=>.int .i64 (n:Int)⟩
instance:Coe Unit Value:=⟨λ_=>.int .i64 0⟩
instance:CoeOut World Nat:=⟨λw=>w.heap.size⟩
structure Pt0 where
 b:Nat
abbrev pt0 (b:Nat):Pt0:=⟨b⟩
instance (b:Nat):CoeDep Pt0 ⟨b⟩ Value:=⟨.pointer (some ⟨b,0,none⟩)⟩
structure Hi (p:Prop):Prop where
 o:p
theorem hdd {p:Prop} (h:p):Hi p:=⟨h⟩
open Go.RowKit Go.Sort in
theorem rgB {w:World}:∀ w',Below w w w'->∃ p:Regrown,w'=grow (redrawn w p.d) p.os:=λ_ h=>regrown_of_below h
theorem zi {k:IntKind} {a b:Int} (h:a=b):Ending.returned (.int k a)=.returned (.int k b):=by rw [h]
theorem yO {a b:Bool} (h:a=b):Ending.returned (.bool a)=.returned (.bool b):=by rw [h]
theorem zG {P:Program} {c:Code} {Q:Exit->Act->World->Prop} {a:Act} {W0:World} (h:∀ W,W=W0->c.wp P Q a W):c.wp P Q a W0:=h W0 rfl
theorem bcell {n:Nat} {W w1:World} (hb:Below n W w1) (hn:n=W.heap.size):(∀ b o,b < n->w1.cell? ⟨b,o,none⟩=W.cell? ⟨b,o,none⟩)/\(∀ b o,b < n->w1.frozen? ⟨b,o,none⟩=W.frozen? ⟨b,o,none⟩)/\(∀ b,b < n->b < w1.heap.size)/\(∀ b,b < n->(b=w1.heap.size)=False)/\(∀ b,b < n->(w1.heap.size=b)=False):=
 ⟨λb o h=>hb.cell (p:=⟨b,o,none⟩) h,λb o h=>hb.frozen (p:=⟨b,o,none⟩) h,λb h=>by have:=hn▸hb.size;omega,
  λb h=>by have:=hn▸hb.size;simp;omega,λb h=>by have:=hn▸hb.size;simp;omega⟩
theorem cell?_none_set (w:World) (a:Addr) (v:Value) (h:w.cell? a=none):(w.setCell a v).cell? a=none:=by
 unfold World.cell? at h ⊢;simp only [World.setCell,V8,↓reduceIte];cases hh:w.heap[a.block]? with
 | none=>rfl
 | some x=>
  rw [hh] at h;cases x with
  | cells c e f=>
   simp only [Va];simp only at h;cases hs:a.spot.isSome with
   | true=>simp
   | false=>
    rw [hs] at h;simp only [QA,VT] at h ⊢;have:c.size<=a.off:=Array.getElem?_eq_none_iff.1 h;rw [Array.getElem?_eq_none_iff]
    simpa using this
  | _=>rfl
theorem cell_set (w:World) (a b:Addr) (v:Value):(w.setCell a v).cell? b=if a=b then (if (w.cell? a).isSome=true then some v else none) else w.cell? b:=by
 by_cases h:a=b
 ·subst h;rw [JH rfl];cases hc:w.cell? a with
  | none=>simp [cell?_none_set w a v hc]
  | some u=>rw [World.cell?_setCell_same (h:=hc)];simp
 ·rw [J0 h,World.cell?_setCell_other (h:=h)]
section
variable {P:Program} {ops:Array Oper} {md:Region.Mode} {C:World->Prop}
def Ext (w w':World):Prop:=Below w w w'
def rUpon (P:Program) (w:World) (v:Value):Result Next->Prop
 | .ok (.value u) w'=>w'=w/\u=v
 | .ok .skip w'=>w'=w/\v=undef
 | .ok (.enter f args) w'=>w'=w/\Calls P f args w (λe w''=>e=.returned v/\Ext w w'')
 | _=>False
def rAt (P:Program) (o:Oper) (a:Act) (w:World) (v:Value):Prop:=rUpon P w v ((execOp a.eval o).run P w)
def rOper (P:Program) (o:Oper) (a:Act) (C:World->Prop) (next:Act->Prop):Prop:=∃ v,(∀ w,C w->rAt P o a w v)/\next (a.put o.dst v)
def rWalk (P:Program) (ops:Array Oper) (C:World->Prop) (Q:Act->Prop):List Oper->Act->Prop
 | [],a=>Q a
 | o :: rest,a=>if Region.wanted o (yielded ops a.tmps) then rOper P o a C (rWalk P ops C Q rest) else rWalk P ops C Q rest (a.put o.dst undef)
theorem rWalk_nil {Q:Act->Prop} {a:Act} (h:Q a):rWalk P ops C Q [] a:=h
theorem rWalk_step {Q:Act->Prop} {a:Act} {o:Oper} {rest:List Oper} (h:∀ K:Act->Prop,(∀ a,rWalk P ops C Q rest a->K a)->if Region.wanted o (yielded ops a.tmps) then rOper P o a C K else K (a.put o.dst undef)):rWalk P ops C Q (o :: rest) a:=
 h _ (λ_ h=>h)
def rYields (P:Program) (ops:Array Oper) (C:World->Prop) (o:Oper) (v:Value) (a:Act):Prop:=
 (Region.wanted o (yielded ops a.tmps)=true/\∀ w,C w->rAt P o a w v)\/(Region.wanted o (yielded ops a.tmps)=false/\v=undef)
theorem rYields.same {o:Oper} {v:Value} {a a':Act} (hy:rYields P ops C o v a) (he:execOp a'.eval o=execOp a.eval o) (hw:Region.wanted o (yielded ops a'.tmps)=Region.wanted o (yielded ops a.tmps)):rYields P ops C o v a':=by
 unfold rYields rAt at *;rw [he,hw];exact hy
theorem rYields.of_walk {o:Oper} {rest:List Oper} {Q:Act->Prop} {a:Act} (h:rWalk P ops C Q (o :: rest) a):∃ v,rYields P ops C o v a/\rWalk P ops C Q rest (a.put o.dst v):=by
 simp only [rWalk] at h;cases hw:Region.wanted o (yielded ops a.tmps) with
 | true=>
  rw [hw,JH rfl] at h;obtain ⟨v,h1,h2⟩:=h;exact ⟨v,.inl ⟨hw,h1⟩,h2⟩
 | false=>
  rw [hw,J0 (by simp)] at h;exact ⟨undef,.inr ⟨hw,rfl⟩,h⟩
def rAny (P:Program) (md:Region.Mode) (ops:Array Oper) (C:World->Prop) (n:Nat) (L:Array Bool->Act->Prop):Nat->Array Bool->Act->Prop
 | 0,listed,a=>L listed a
 | f+1,listed,a=>Region.ready md ops listed≠[] /\
  ∀ i∈Region.ready md ops listed,i < n/\∃ o v,ops[i]? = some o/\rYields P ops C o v a/\rAny P md ops C n L f (listed.setIfInBounds i true) (a.put o.dst v)
def TailWaits (md:Region.Mode) (ops:Array Oper) (n:Nat) (listed:Array Bool):Prop:=
 ∀ i,i < n->listed.getD i true=false->∀ t,n<=t->t ∉ Region.ready md ops listed
theorem kC {n i : Nat} {oi : Oper} {v : Value} {L : Array Bool -> Act -> Prop} (hi : ops[i]? = some oi) (hsel : ∀ (j : Nat) (o : Oper) cs b, ops[j]? = some o -> o.op ≠ .select cs b)
    (hin:i < n) (Inv:Array Bool->Prop) (hinv:∀ listed j,Inv listed->j∈Region.ready md ops listed->j < n->Inv (listed.setIfInBounds j true))
    (htail:∀ listed,Inv listed->TailWaits md ops n listed)
    (hdone:∀ listed a,L listed a->∀ j∈Region.ready md ops listed,n<=j) :
    ∀ (f:Nat) (listed:Array Bool) (a:Act),Inv listed ->
     (∀ j oj,ops[j]? = some oj->j≠i->listed.getD j true=false->(∀ e∈oj.after,Region.binds md e=true->e.on≠i)->oi.apart ops oj=true) ->
     i∈Region.ready md ops listed->rYields P ops C oi v a ->
     rAny P md ops C n L f (listed.setIfInBounds i true) (a.put oi.dst v)->rAny P md ops C n L (f+1) listed a:=by
 intro f;induction f with
 | zero=>
  intro listed a inv _ hr hy H;have hun:=(mem_ready.1 hr).1;refine ⟨λh=>(by rw [h] at hr;cases hr),λj hj=>?_⟩;have hjn:j < n:=by
   rcases Qb j n with h | h
   ·exact h
   ·exact absurd hj (htail _ inv i hin hun j h)
  by_cases hji:j=i
  ·subst hji;exact ⟨hjn,oi,v,hi,hy,H⟩
  ·have:=hdone _ _ H j (ready_mono hj hji);omega
 | succ f ih=>
  intro listed a inv hfree hr hy H;have hun:=(mem_ready.1 hr).1;refine ⟨λh=>(by rw [h] at hr;cases hr),λj hj=>?_⟩;have hjn:j < n:=by
   rcases Qb j n with h | h
   ·exact h
   ·exact absurd hj (htail _ inv i hin hun j h)
  by_cases hji:j=i
  ·subst hji;exact ⟨hjn,oi,v,hi,hy,H⟩
  ·obtain ⟨_,oj,u,hoj,hyj,hK⟩:=H.2 j (ready_mono hj hji);obtain ⟨hjun,oj',hoj',hall⟩:=mem_ready.1 hj;have hoo:oj'=oj:=JU (hoj'.symm.trans hoj);subst hoo;have hnot:∀ e∈oj'.after,Region.binds md e=true->e.on≠i:=λe he hb heq=>by
    have h1:=hall e he hb;rw [heq,getD_both hun] at h1;cases h1
   obtain ⟨h1,h2,h3⟩:=Oper.apart_spec (hfree j oj' hoj hji hjun hnot);have hyj':rYields P ops C oj' u a:=hyj.same (execOp_put oj' (λcs b=>hsel j oj' cs b hoj) a oi.dst v h1).symm (wanted_put oj' a oi.dst v h1).symm;have hyi':rYields P ops C oi v (a.put oj'.dst u):=hy.same (execOp_put oi (λcs b=>hsel i oi cs b hi) a oj'.dst u h3) (wanted_put oi a oj'.dst u h3);refine ⟨hjn,oj',u,hoj,hyj',?_⟩;refine ih (listed.setIfInBounds j true) _ (hinv _ _ inv hj hjn) (λk ok hk hki hun' hno=>?_) (ready_mono hr (Ne.symm hji)) hyi' ?_
   ·refine hfree k ok hk hki ?_ hno;by_cases hjk:j=k
    ·subst hjk;exact hjun
    ·rw [getD_set_ne true hjk] at hun';exact hun'
   ·rw [QS _ _ hji,<-Act.put_comm a v u h2];exact hK
def orderB (md:Region.Mode) (ops:Array Oper) (n g:Nat):List Nat->Array Bool->Bool
 | [],listed=>Region.seqB md ops g n listed
 | k :: is,listed=>decide (k < n) && (Region.ready md ops listed).contains k && Region.free md ops listed k && orderB md ops n g is (listed.setIfInBounds k true)
theorem yy {n g : Nat} {Lq : Act -> Prop} (hsel : Region.noSelect ops = true) (Inv : Array Bool -> Prop)
    (hinv:∀ listed j,Inv listed->j∈Region.ready md ops listed->j < n->Inv (listed.setIfInBounds j true)) (htail:∀ listed,Inv listed->TailWaits md ops n listed) :
    ∀ (is:List Nat) (l:List Oper) (listed:Array Bool) (a:Act),is.map (λi=>ops[i]?)=l.map some->Inv listed->orderB md ops n g is listed=true->rWalk P ops C Lq l a ->
     rAny P md ops C n (λlisted' a'=>Region.seqB md ops g n listed'=true/\Lq a') is.length listed a
 | [],[],listed,a,_,_,hB,h=>⟨hB,h⟩
 | [],_ :: _,_,_,hl,_,_,_=>by cases hl
 | _ :: _,[],_,_,hl,_,_,_=>by cases hl
 | k :: is,o :: l,listed,a,hl,inv,hB,h=>by
  simp only [Jm,Vb] at hl;obtain ⟨h0,hl⟩:=hl;simp only [orderB,JB,JA] at hB;obtain ⟨⟨⟨hkn,hr⟩,hf⟩,hB'⟩:=hB;have hr':k∈Region.ready md ops listed:=by simpa using hr
  obtain ⟨v,hy,hK⟩:=rYields.of_walk h;exact kC h0 (Region.noSelect_spec hsel) hkn Inv hinv htail (λlisted' a' hL=>seqB_ready hL.1) is.length listed a inv (Region.free_spec h0 hf) hr' hy
   (yy hsel Inv hinv htail is l _ _ hl (hinv _ _ inv hr' hkn) hB' hK)
theorem heap_new (w:World) (o:Obj):(w.alloc o).heap[w.heap.size]? = some o:=by
 show (w.heap.push o)[w.heap.size]? = some o;simp
theorem alloc_cell (w:World) (o:Obj) (b i:Nat) (h:(b=w.heap.size)=False):(w.alloc o).cell? ⟨b,i,none⟩=w.cell? ⟨b,i,none⟩:=
 World.cell?_alloc_old w o ⟨b,i,none⟩ (by simpa using h)
theorem alloc_frozen (w:World) (o:Obj) (b i:Nat) (h:(b=w.heap.size)=False):(w.alloc o).frozen? ⟨b,i,none⟩=w.frozen? ⟨b,i,none⟩:=by
 have h':b≠w.heap.size:=by simpa using h
 simp only [World.frozen?,World.alloc,UA,J0 h']
def Box (w:World) (b:Nat) (cs:List Value) (T:TypeId):Prop:=w.heap[b]? = some (.cells cs.toArray T (0,0))
theorem Box.f {w:World} {b:Nat} {cs:List Value} {T:TypeId} (h:Box w b cs T):(∀ i,w.cell? ⟨b,i,none⟩=cs[i]?)/\(∀ i,w.frozen? ⟨b,i,none⟩=false)/\((b=w.heap.size)=False)/\((w.heap.size=b)=False):=by
 have hb:b < w.heap.size:=by
  rcases Qb b w.heap.size with h' | h'
  ·exact h'
  ·unfold Box at h;rw [Vj h'] at h;cases h
 refine ⟨λi=>?_,λi=>?_,by simp;omega,by simp;omega⟩
 ·unfold Box at h;simp [World.cell?,h]
 ·unfold Box at h;simp [World.frozen?,h]
theorem Box.lt {w:World} {b:Nat} {cs:List Value} {T:TypeId} (h:Box w b cs T):b < w.heap.size:=by
 rcases Qb b w.heap.size with h' | h'
 ·exact h'
 ·unfold Box at h;rw [Vj h'] at h;cases h
theorem Box.ext {w w':World} {b n:Nat} {cs:List Value} {T:TypeId} (h:Box w b cs T) (hb:Below n w w') (hn:n=w.heap.size):Box w' b cs T:=by
 unfold Box at *;rw [hb.block b (hn▸Box.lt h)];exact h
theorem Box.ee {w w':World} {b:Nat} {cs:List Value} {T:TypeId} (h:Box w b cs T) (hb:Below w w w'):Box w' b cs T:=h.ext hb rfl
theorem Box.grown {w:World} {b:Nat} {cs:List Value} {T:TypeId} (h:Box w b cs T):∀ d os,Box (grow (redrawn w d) os) b cs T:=λd os=>
 h.ext (below_regrown w d os) rfl
theorem Box.cells {w:World} {b:Nat} {cs:List Value} {T:TypeId} (h:Box w b cs T):∀ d os i,(grow (redrawn w d) os).cell? ⟨b,i,none⟩=cs[i]? := λd os=>(h.grown d os).f.1
theorem heap_alloc (w:World) (o:Obj) (b:Nat):(w.alloc o).heap[b]? = if b=w.heap.size then some o else w.heap[b]? := by
 show (w.heap.push o)[b]? = _;rw [UA]
theorem Box.new {w:World} {b:Nat} {cs:List Value} {T:TypeId} (hb:b=w.heap.size):Box (w.alloc (.cells cs.toArray T)) b cs T:=by
 unfold Box;rw [heap_alloc,JH hb]
theorem Box.old {w:World} {b:Nat} {cs:List Value} {T:TypeId} (h:Box w b cs T) (o:Obj):Box (w.alloc o) b cs T:=by
 have:=Box.lt h;unfold Box at *;rw [heap_alloc,J0 (by omega),h]
theorem Box.set {w:World} {b:Nat} {cs:List Value} {T:TypeId} (h:Box w b cs T) (i:Nat) (v:Value):Box (w.setCell ⟨b,i,none⟩ v) b (cs.set i v) T:=by
 unfold Box at *;simp only [World.setCell,V8,↓reduceIte,h,Va];simp
theorem Box.set_ne {w:World} {b:Nat} {cs:List Value} {T:TypeId} (h:Box w b cs T) (a:Addr) (v:Value) (hne:a.block≠b):Box (w.setCell a v) b cs T:=by
 unfold Box at *;simp only [World.setCell,V8];rw [J0 hne,h]
theorem Box.sn {w:World} {b:Nat} {cs:List Value} {T:TypeId} (h:Box w b cs T) (k i:Nat) (v:Value) (hk:k≠b:=by first | assumption | omega):Box (w.setCell ⟨k,i,none⟩ v) b cs T:=h.set_ne ⟨k,i,none⟩ v hk
theorem zI {P:Program} {f:FuncId} {args:Array Value} {R:Ending->World->Prop} {W0:World} (h:∀ W,W=W0->Calls P f args W R):Calls P f args W0 R:=h W0 rfl
theorem Ext.trans {a b c:World} (h:Ext a b) (k:Ext b c):Ext a c:=Below.trans h (Below.mono k h.size)
theorem yA {i:Nat} {o:Oper} {v:Value} {a:Act} {K:Act->World->Prop} {Q:Exit->Act->World->Prop} {w:World} (hi:ops[i]? = some o) (hC:C w) (hy:rYields P ops C o v a) (h:∀ w',Ext w w'->K (a.put o.dst v) w'):wpOp P ops Q i K a w:=by
 have hrefl:Ext w w:=Below.refl _ _;unfold wpOp;simp only [hi];rcases hy with ⟨hw,hv⟩ | ⟨hw,rfl⟩
 ·rw [JH hw];refine .inl ?_;have h3:=hv w hC;unfold rAt at h3;unfold Oper.wp;generalize (execOp a.eval o).run P w=r at *
  cases r with
  | ok n w'=>
   cases n <;> simp only [rUpon] at h3 <;> simp only [Oper.upon]
   case value u=>obtain ⟨e1,e2⟩:=h3;rw [e1,e2];exact h _ hrefl
   case skip=>obtain ⟨e1,e2⟩:=h3;rw [e1,<-e2];exact h _ hrefl
   case enter f args=>
    obtain ⟨e1,hc⟩:=h3;rw [e1];exact hc.mono λe w'' ⟨he,hw''⟩=>by subst he;exact h _ hw''
  | halt x w'=>simp only [rUpon] at h3
 ·rw [hw,J0 (by simp)];exact h _ hrefl
theorem yU {n g : Nat} {Q : Exit -> Act -> World -> Prop} {Lq : Act -> Prop} {l : List Oper} {dst : Option Tmp} {u : Value} {D : World -> Prop} (hsel : Region.noSelect ops = true)
    (hg:l.length=g) (hl:∀ j,l[j]? = ops[n+j]?) (hD:∀ w,D w->C w) (hDe:∀ w w',D w->Ext w w'->D w')
    (J:Nat->Prop) (hap:∀ i o,i < n->¬ J i->ops[i]? = some o->(∀ d,dst=some d->d ∉ o.looksAt ops)/\(∀ d,dst=some d->o.dst≠some d))
    (hQ:∀ a w,D w->Lq a->wpList P ops Q l (a.put dst u) w) :
    ∀ (f:Nat) (listed:Array Bool) (a:Act) (w:World),D w->(∀ i,J i->listed.getD i true=true) ->
     rAny P md ops C n (λlisted' a'=>Region.seqB md ops g n listed'=true/\Lq a') f listed a->wpAny P md ops Q (f+g) listed (a.put dst u) w
 | 0,listed,a,w,hw,_,h=>by
  rw [QJ];subst hg;exact wpAny_of_seq l n listed _ w hl h.1 (hQ a w hw h.2)
 | f+1,listed,a,w,hw,hJ,h=>by
  rw [show f+1+g=(f+g)+1 by omega];refine ⟨λh0=>absurd h0 h.1,λi hi=>?_⟩;obtain ⟨hin,o,v,ho,hy,hK⟩:=h.2 i hi;have hiun:=(mem_ready.1 hi).1;have hnJ:¬ J i:=λhj=>by rw [hJ i hj] at hiun;cases hiun
  obtain ⟨h1,h2⟩:=hap i o hin hnJ ho;have hy':rYields P ops C o v (a.put dst u):=hy.same (execOp_put o (λcs b=>Region.noSelect_spec hsel i o cs b ho) a dst u h1) (wanted_put o a dst u h1);refine yA ho (hD w hw) hy' λw' hw'=>?_;rw [Act.put_comm a u v h2];refine yU hsel hg hl hD hDe J hap hQ f _ _ w' (hDe _ _ hw hw') (λk hk=>?_) hK;by_cases hik:i=k
  ·subst hik;exact absurd hk hnJ
  ·rw [getD_set_ne true hik];exact hJ k hk
def plainB (md:Region.Mode) (ops:Array Oper) (n:Nat):Bool:=
 Region.noSelect ops && decide (n < ops.size) && Region.sinkB md ops n && Region.chainB md ops n && orderB md ops n (ops.size - n) (List.range n) (Array.replicate ops.size false)
theorem headInv0 {n:Nat}:HeadInv md ops n (Array.replicate ops.size false):=
 ⟨by simp,λj oj _ hl=>(by rw [getD_replicate_false] at hl;cases hl),λt _ ht=>getD_in (by simpa using ht) (getD_replicate_false _ _)⟩
theorem wp_region_tail {id:Nat} {Q:Exit->Act->World->Prop} {a:Act} {w:World} {l:List Oper} (n:Nat) (hm:P.follows .mixedOrders) (hB:plainB .any l.toArray n) (hC:∀ w',Below w w w'->C w') (h:rWalk P l.toArray C (λa'=>∀ w',Below w w w'->wpList P l.toArray Q (l.drop n) a' w') (l.take n) a):(Code.region id l.toArray true).wp P Q a w:=by
 simp only [plainB,JB,JA] at hB;obtain ⟨⟨⟨⟨hsel,hn⟩,hs⟩,hc⟩,ho⟩:=hB;have hn':n < l.length:=by simpa using hn
 have hmap:(List.range n).map (λi=>l.toArray[i]?)=(l.take n).map some:=by
  apply VI;intro j;simp only [VJ,QX];by_cases hj:j < n
  ·simp [hj,show j < l.length by omega]
  ·simp [hj]
 have H:=yy (md:=.any) (g:=l.toArray.size - n) hsel (HeadInv .any l.toArray n) (λlisted j inv hj hjn=>inv.set hj hjn) (λlisted inv i hi hun=>tail_waits hs hc hn inv _ i rfl hi hun)
  (List.range n) (l.take n) _ a hmap headInv0 ho h
 refine wp_region_any hm ?_;have:=yU (md:=.any) (Q:=Q) (l:=l.drop n) (dst:=none) (u:=undef) (D:=λw'=>Below w w w') hsel (by simp) (λj=>by simp [Qr])
  hC (λa b ha hb=>Ext.trans (a:=w) ha hb) (λ_=>False) (λi o _ _ _=>⟨λd hd=>(by cases hd),λd hd=>(by cases hd)⟩)
  (λa' w' hw' hl=>hl w' hw') _ _ _ { w with drawn:=w.drawn+1 } ⟨rfl,rfl,rfl,JJ _,λ_ _=>rfl⟩ (λi hi=>hi.elim) H
 rw [Vc,show n+(l.toArray.size - n)=l.toArray.size by omega] at this;exact this
end
abbrev Rt (w:World) (v:Value):Ending->World->Prop:=λe w'=>e=.returned v/\Below w w w'
theorem wrt {P : Program} {id : Nat} {Q : Exit -> Act -> World -> Prop} {a : Act} {w : World} {l : List Oper} (n : Nat) (hm : P.follows .mixedOrders = true) (hB : plainB .any l.toArray n = true)
  (h:rWalk P l.toArray (λw'=>∃ p:Regrown,w'=grow (redrawn w p.d) p.os) (λa'=>∀ w',Below w w w'->wpList P l.toArray Q (l.drop n) a' w') (l.take n) a):(Code.region id l.toArray true).wp P Q a w:=wp_region_tail n hm hB (λ_ h=>regrown_of_below h) h
theorem qX1 {w0 w w':World} {b0:Nat} {c0:List Value} {T0:TypeId} (h0:Box w b0 c0 T0) (hw:Below w0 w0 w) (hb:Below w w w'):Box w' b0 c0 T0/\Below w0 w0 w'/\(((∀ i,w'.cell? ⟨b0,i,none⟩=c0[i]?)/\(∀ i,w'.frozen? ⟨b0,i,none⟩=false)/\((b0=w'.heap.size)=False)/\((w'.heap.size=b0)=False))):=
 ⟨h0.ext hb rfl,hw.trans (hb.mono hw.size),(h0.ext hb rfl).f⟩
theorem qX2 {w0 w w':World} {b0 b1:Nat} {c0 c1:List Value} {T0 T1:TypeId} (h0:Box w b0 c0 T0) (h1:Box w b1 c1 T1) (hw:Below w0 w0 w) (hb:Below w w w'):Box w' b0 c0 T0/\Box w' b1 c1 T1/\Below w0 w0 w'/\(((∀ i,w'.cell? ⟨b0,i,none⟩=c0[i]?)/\(∀ i,w'.frozen? ⟨b0,i,none⟩=false)/\((b0=w'.heap.size)=False)/\((w'.heap.size=b0)=False))/\((∀ i,w'.cell? ⟨b1,i,none⟩=c1[i]?)/\(∀ i,w'.frozen? ⟨b1,i,none⟩=false)/\((b1=w'.heap.size)=False)/\((w'.heap.size=b1)=False))):=
 ⟨h0.ext hb rfl,h1.ext hb rfl,hw.trans (hb.mono hw.size),⟨(h0.ext hb rfl).f,(h1.ext hb rfl).f⟩⟩
theorem qX3 {w0 w w':World} {b0 b1 b2:Nat} {c0 c1 c2:List Value} {T0 T1 T2:TypeId} (h0:Box w b0 c0 T0) (h1:Box w b1 c1 T1) (h2:Box w b2 c2 T2) (hw:Below w0 w0 w) (hb:Below w w w'):Box w' b0 c0 T0/\Box w' b1 c1 T1/\Box w' b2 c2 T2/\Below w0 w0 w'/\(((∀ i,w'.cell? ⟨b0,i,none⟩=c0[i]?)/\(∀ i,w'.frozen? ⟨b0,i,none⟩=false)/\((b0=w'.heap.size)=False)/\((w'.heap.size=b0)=False))/\((∀ i,w'.cell? ⟨b1,i,none⟩=c1[i]?)/\(∀ i,w'.frozen? ⟨b1,i,none⟩=false)/\((b1=w'.heap.size)=False)/\((w'.heap.size=b1)=False))/\((∀ i,w'.cell? ⟨b2,i,none⟩=c2[i]?)/\(∀ i,w'.frozen? ⟨b2,i,none⟩=false)/\((b2=w'.heap.size)=False)/\((w'.heap.size=b2)=False))):=
 ⟨h0.ext hb rfl,h1.ext hb rfl,h2.ext hb rfl,hw.trans (hb.mono hw.size),⟨(h0.ext hb rfl).f,(h1.ext hb rfl).f,(h2.ext hb rfl).f⟩⟩
theorem qX4 {w0 w w':World} {b0 b1 b2 b3:Nat} {c0 c1 c2 c3:List Value} {T0 T1 T2 T3:TypeId} (h0:Box w b0 c0 T0) (h1:Box w b1 c1 T1) (h2:Box w b2 c2 T2) (h3:Box w b3 c3 T3) (hw:Below w0 w0 w) (hb:Below w w w'):Box w' b0 c0 T0/\Box w' b1 c1 T1/\Box w' b2 c2 T2/\Box w' b3 c3 T3/\Below w0 w0 w'/\(((∀ i,w'.cell? ⟨b0,i,none⟩=c0[i]?)/\(∀ i,w'.frozen? ⟨b0,i,none⟩=false)/\((b0=w'.heap.size)=False)/\((w'.heap.size=b0)=False))/\((∀ i,w'.cell? ⟨b1,i,none⟩=c1[i]?)/\(∀ i,w'.frozen? ⟨b1,i,none⟩=false)/\((b1=w'.heap.size)=False)/\((w'.heap.size=b1)=False))/\((∀ i,w'.cell? ⟨b2,i,none⟩=c2[i]?)/\(∀ i,w'.frozen? ⟨b2,i,none⟩=false)/\((b2=w'.heap.size)=False)/\((w'.heap.size=b2)=False))/\((∀ i,w'.cell? ⟨b3,i,none⟩=c3[i]?)/\(∀ i,w'.frozen? ⟨b3,i,none⟩=false)/\((b3=w'.heap.size)=False)/\((w'.heap.size=b3)=False))):=
 ⟨h0.ext hb rfl,h1.ext hb rfl,h2.ext hb rfl,h3.ext hb rfl,hw.trans (hb.mono hw.size),⟨(h0.ext hb rfl).f,(h1.ext hb rfl).f,(h2.ext hb rfl).f,(h3.ext hb rfl).f⟩⟩
theorem qX5 {w0 w w':World} {b0 b1 b2 b3 b4:Nat} {c0 c1 c2 c3 c4:List Value} {T0 T1 T2 T3 T4:TypeId} (h0:Box w b0 c0 T0) (h1:Box w b1 c1 T1) (h2:Box w b2 c2 T2) (h3:Box w b3 c3 T3) (h4:Box w b4 c4 T4) (hw:Below w0 w0 w) (hb:Below w w w'):Box w' b0 c0 T0/\Box w' b1 c1 T1/\Box w' b2 c2 T2/\Box w' b3 c3 T3/\Box w' b4 c4 T4/\Below w0 w0 w'/\(((∀ i,w'.cell? ⟨b0,i,none⟩=c0[i]?)/\(∀ i,w'.frozen? ⟨b0,i,none⟩=false)/\((b0=w'.heap.size)=False)/\((w'.heap.size=b0)=False))/\((∀ i,w'.cell? ⟨b1,i,none⟩=c1[i]?)/\(∀ i,w'.frozen? ⟨b1,i,none⟩=false)/\((b1=w'.heap.size)=False)/\((w'.heap.size=b1)=False))/\((∀ i,w'.cell? ⟨b2,i,none⟩=c2[i]?)/\(∀ i,w'.frozen? ⟨b2,i,none⟩=false)/\((b2=w'.heap.size)=False)/\((w'.heap.size=b2)=False))/\((∀ i,w'.cell? ⟨b3,i,none⟩=c3[i]?)/\(∀ i,w'.frozen? ⟨b3,i,none⟩=false)/\((b3=w'.heap.size)=False)/\((w'.heap.size=b3)=False))/\((∀ i,w'.cell? ⟨b4,i,none⟩=c4[i]?)/\(∀ i,w'.frozen? ⟨b4,i,none⟩=false)/\((b4=w'.heap.size)=False)/\((w'.heap.size=b4)=False))):=
 ⟨h0.ext hb rfl,h1.ext hb rfl,h2.ext hb rfl,h3.ext hb rfl,h4.ext hb rfl,hw.trans (hb.mono hw.size),⟨(h0.ext hb rfl).f,(h1.ext hb rfl).f,(h2.ext hb rfl).f,(h3.ext hb rfl).f,(h4.ext hb rfl).f⟩⟩
theorem qX6 {w0 w w':World} {b0 b1 b2 b3 b4 b5:Nat} {c0 c1 c2 c3 c4 c5:List Value} {T0 T1 T2 T3 T4 T5:TypeId} (h0:Box w b0 c0 T0) (h1:Box w b1 c1 T1) (h2:Box w b2 c2 T2) (h3:Box w b3 c3 T3) (h4:Box w b4 c4 T4) (h5:Box w b5 c5 T5) (hw:Below w0 w0 w) (hb:Below w w w'):Box w' b0 c0 T0/\Box w' b1 c1 T1/\Box w' b2 c2 T2/\Box w' b3 c3 T3/\Box w' b4 c4 T4/\Box w' b5 c5 T5/\Below w0 w0 w'/\(((∀ i,w'.cell? ⟨b0,i,none⟩=c0[i]?)/\(∀ i,w'.frozen? ⟨b0,i,none⟩=false)/\((b0=w'.heap.size)=False)/\((w'.heap.size=b0)=False))/\((∀ i,w'.cell? ⟨b1,i,none⟩=c1[i]?)/\(∀ i,w'.frozen? ⟨b1,i,none⟩=false)/\((b1=w'.heap.size)=False)/\((w'.heap.size=b1)=False))/\((∀ i,w'.cell? ⟨b2,i,none⟩=c2[i]?)/\(∀ i,w'.frozen? ⟨b2,i,none⟩=false)/\((b2=w'.heap.size)=False)/\((w'.heap.size=b2)=False))/\((∀ i,w'.cell? ⟨b3,i,none⟩=c3[i]?)/\(∀ i,w'.frozen? ⟨b3,i,none⟩=false)/\((b3=w'.heap.size)=False)/\((w'.heap.size=b3)=False))/\((∀ i,w'.cell? ⟨b4,i,none⟩=c4[i]?)/\(∀ i,w'.frozen? ⟨b4,i,none⟩=false)/\((b4=w'.heap.size)=False)/\((w'.heap.size=b4)=False))/\((∀ i,w'.cell? ⟨b5,i,none⟩=c5[i]?)/\(∀ i,w'.frozen? ⟨b5,i,none⟩=false)/\((b5=w'.heap.size)=False)/\((w'.heap.size=b5)=False))):=
 ⟨h0.ext hb rfl,h1.ext hb rfl,h2.ext hb rfl,h3.ext hb rfl,h4.ext hb rfl,h5.ext hb rfl,hw.trans (hb.mono hw.size),⟨(h0.ext hb rfl).f,(h1.ext hb rfl).f,(h2.ext hb rfl).f,(h3.ext hb rfl).f,(h4.ext hb rfl).f,(h5.ext hb rfl).f⟩⟩
theorem qN1 {w W:World} {c0:List Value} {T0:TypeId} (hW:W=(w.alloc (.cells c0.toArray T0))):Box W w c0 T0/\Below w w W:=
 ⟨by rw [hW];exact Box.new rfl,by rw [hW];go_grown⟩
theorem qN2 {w W:World} {c0 c1:List Value} {T0 T1:TypeId} (hW:W=((w.alloc (.cells c0.toArray T0)).alloc (.cells c1.toArray T1))):Box W w c0 T0/\Box W (w+1) c1 T1/\Below w w W:=
 ⟨by rw [hW];exact (Box.new rfl).old _,by rw [hW];exact Box.new (by simp),by rw [hW];go_grown⟩
theorem qN3 {w W:World} {c0 c1 c2:List Value} {T0 T1 T2:TypeId} (hW:W=(((w.alloc (.cells c0.toArray T0)).alloc (.cells c1.toArray T1)).alloc (.cells c2.toArray T2))):Box W w c0 T0/\Box W (w+1) c1 T1/\Box W (w+1+1) c2 T2/\Below w w W:=
 ⟨by rw [hW];exact ((Box.new rfl).old _).old _,by rw [hW];exact (Box.new (by simp)).old _,by rw [hW];exact Box.new (by simp),by rw [hW];go_grown⟩
theorem qN4 {w W:World} {c0 c1 c2 c3:List Value} {T0 T1 T2 T3:TypeId} (hW:W=((((w.alloc (.cells c0.toArray T0)).alloc (.cells c1.toArray T1)).alloc (.cells c2.toArray T2)).alloc (.cells c3.toArray T3))):Box W w c0 T0/\Box W (w+1) c1 T1/\Box W (w+1+1) c2 T2/\Box W (w+1+1+1) c3 T3/\Below w w W:=
 ⟨by rw [hW];exact (((Box.new rfl).old _).old _).old _,by rw [hW];exact ((Box.new (by simp)).old _).old _,by rw [hW];exact (Box.new (by simp)).old _,by rw [hW];exact Box.new (by simp),by rw [hW];go_grown⟩
theorem qN5 {w W:World} {c0 c1 c2 c3 c4:List Value} {T0 T1 T2 T3 T4:TypeId} (hW:W=(((((w.alloc (.cells c0.toArray T0)).alloc (.cells c1.toArray T1)).alloc (.cells c2.toArray T2)).alloc (.cells c3.toArray T3)).alloc (.cells c4.toArray T4))):Box W w c0 T0/\Box W (w+1) c1 T1/\Box W (w+1+1) c2 T2/\Box W (w+1+1+1) c3 T3/\Box W (w+1+1+1+1) c4 T4/\Below w w W:=
 ⟨by rw [hW];exact ((((Box.new rfl).old _).old _).old _).old _,by rw [hW];exact (((Box.new (by simp)).old _).old _).old _,by rw [hW];exact ((Box.new (by simp)).old _).old _,by rw [hW];exact (Box.new (by simp)).old _,by rw [hW];exact Box.new (by simp),by rw [hW];go_grown⟩
theorem qM0 {w0 w W:World} {z:Nat} {c:List Value} {T:TypeId} (hW:W=w.alloc (.cells c.toArray T)) (hz:w.heap.size=z)  (hw:Below w0 w0 w):w0.heap.size<=z/\Box W z c T/\Below w0 w0 W:=
 ⟨by rw [<-hz];exact hw.size,by rw [hW];exact Box.new hz.symm,by have hl:=hw.size;rw [hW];go_grown⟩
theorem qM1 {w0 w W:World} {z:Nat} {c:List Value} {T:TypeId} {b0:Nat} {c0:List Value} {T0:TypeId} (hW:W=w.alloc (.cells c.toArray T)) (hz:w.heap.size=z) (h0:Box w b0 c0 T0) (hw:Below w0 w0 w):b0 < z/\w0.heap.size<=z/\Box W z c T/\Box W b0 c0 T0/\Below w0 w0 W:=
 ⟨by rw [<-hz];exact h0.lt,by rw [<-hz];exact hw.size,by rw [hW];exact Box.new hz.symm,by rw [hW];exact h0.old _,by have hl:=hw.size;rw [hW];go_grown⟩
theorem qM2 {w0 w W:World} {z:Nat} {c:List Value} {T:TypeId} {b0 b1:Nat} {c0 c1:List Value} {T0 T1:TypeId} (hW:W=w.alloc (.cells c.toArray T)) (hz:w.heap.size=z) (h0:Box w b0 c0 T0) (h1:Box w b1 c1 T1) (hw:Below w0 w0 w):b0 < z/\b1 < z/\w0.heap.size<=z/\Box W z c T/\Box W b0 c0 T0/\Box W b1 c1 T1/\Below w0 w0 W:=
 ⟨by rw [<-hz];exact h0.lt,by rw [<-hz];exact h1.lt,by rw [<-hz];exact hw.size,by rw [hW];exact Box.new hz.symm,by rw [hW];exact h0.old _,by rw [hW];exact h1.old _,by have hl:=hw.size;rw [hW];go_grown⟩
theorem qM3 {w0 w W:World} {z:Nat} {c:List Value} {T:TypeId} {b0 b1 b2:Nat} {c0 c1 c2:List Value} {T0 T1 T2:TypeId} (hW:W=w.alloc (.cells c.toArray T)) (hz:w.heap.size=z) (h0:Box w b0 c0 T0) (h1:Box w b1 c1 T1) (h2:Box w b2 c2 T2) (hw:Below w0 w0 w):b0 < z/\b1 < z/\b2 < z/\w0.heap.size<=z/\Box W z c T/\Box W b0 c0 T0/\Box W b1 c1 T1/\Box W b2 c2 T2/\Below w0 w0 W:=
 ⟨by rw [<-hz];exact h0.lt,by rw [<-hz];exact h1.lt,by rw [<-hz];exact h2.lt,by rw [<-hz];exact hw.size,by rw [hW];exact Box.new hz.symm,by rw [hW];exact h0.old _,by rw [hW];exact h1.old _,by rw [hW];exact h2.old _,by have hl:=hw.size;rw [hW];go_grown⟩
theorem qM4 {w0 w W:World} {z:Nat} {c:List Value} {T:TypeId} {b0 b1 b2 b3:Nat} {c0 c1 c2 c3:List Value} {T0 T1 T2 T3:TypeId} (hW:W=w.alloc (.cells c.toArray T)) (hz:w.heap.size=z) (h0:Box w b0 c0 T0) (h1:Box w b1 c1 T1) (h2:Box w b2 c2 T2) (h3:Box w b3 c3 T3) (hw:Below w0 w0 w):b0 < z/\b1 < z/\b2 < z/\b3 < z/\w0.heap.size<=z/\Box W z c T/\Box W b0 c0 T0/\Box W b1 c1 T1/\Box W b2 c2 T2/\Box W b3 c3 T3/\Below w0 w0 W:=
 ⟨by rw [<-hz];exact h0.lt,by rw [<-hz];exact h1.lt,by rw [<-hz];exact h2.lt,by rw [<-hz];exact h3.lt,by rw [<-hz];exact hw.size,by rw [hW];exact Box.new hz.symm,by rw [hW];exact h0.old _,by rw [hW];exact h1.old _,by rw [hW];exact h2.old _,by rw [hW];exact h3.old _,by have hl:=hw.size;rw [hW];go_grown⟩
theorem qM5 {w0 w W:World} {z:Nat} {c:List Value} {T:TypeId} {b0 b1 b2 b3 b4:Nat} {c0 c1 c2 c3 c4:List Value} {T0 T1 T2 T3 T4:TypeId} (hW:W=w.alloc (.cells c.toArray T)) (hz:w.heap.size=z) (h0:Box w b0 c0 T0) (h1:Box w b1 c1 T1) (h2:Box w b2 c2 T2) (h3:Box w b3 c3 T3) (h4:Box w b4 c4 T4) (hw:Below w0 w0 w):b0 < z/\b1 < z/\b2 < z/\b3 < z/\b4 < z/\w0.heap.size<=z/\Box W z c T/\Box W b0 c0 T0/\Box W b1 c1 T1/\Box W b2 c2 T2/\Box W b3 c3 T3/\Box W b4 c4 T4/\Below w0 w0 W:=
 ⟨by rw [<-hz];exact h0.lt,by rw [<-hz];exact h1.lt,by rw [<-hz];exact h2.lt,by rw [<-hz];exact h3.lt,by rw [<-hz];exact h4.lt,by rw [<-hz];exact hw.size,by rw [hW];exact Box.new hz.symm,by rw [hW];exact h0.old _,by rw [hW];exact h1.old _,by rw [hW];exact h2.old _,by rw [hW];exact h3.old _,by rw [hW];exact h4.old _,by have hl:=hw.size;rw [hW];go_grown⟩
theorem qC1 {P:Program} {f:FuncId} {ar:Array Value} {v:Value} {K:Ending->World->Prop} {w0 w:World} {b0:Nat} {c0:List Value} {T0:TypeId} (h:Calls P f ar w λe w'=>e=.returned v/\Below w w w') (h0:Box w b0 c0 T0) (hw:Below w0 w0 w) (k:∀ w',Box w' b0 c0 T0->Below w0 w0 w'->(((∀ i,w'.cell? ⟨b0,i,none⟩=c0[i]?)/\(∀ i,w'.frozen? ⟨b0,i,none⟩=false)/\((b0=w'.heap.size)=False)/\((w'.heap.size=b0)=False)))->K (.returned v) w'):Calls P f ar w K:=
 h.mono λe w' ⟨he,hb⟩=>by rw [he];exact k w' (h0.ext hb rfl) (hw.trans (hb.mono hw.size)) (h0.ext hb rfl).f
theorem qK1 {P:Program} {f:FuncId} {ar:Array Value} {v:Value} {K:Ending->World->Prop} {w0 w:World} {b0:Nat} {c0:List Value} {T0:TypeId} (h:Calls P f ar w λe w'=>e=.returned v/\Below w w w') (h0:Box w b0 c0 T0) (hw:Below w0 w0 w) (k:∀ w',Box w' b0 c0 T0->Below w0 w0 w'->K (.returned v) w'):Calls P f ar w K:=
 h.mono λe w' ⟨he,hb⟩=>by rw [he];exact k w' (h0.ext hb rfl) (hw.trans (hb.mono hw.size))
theorem qC2 {P:Program} {f:FuncId} {ar:Array Value} {v:Value} {K:Ending->World->Prop} {w0 w:World} {b0 b1:Nat} {c0 c1:List Value} {T0 T1:TypeId} (h:Calls P f ar w λe w'=>e=.returned v/\Below w w w') (h0:Box w b0 c0 T0) (h1:Box w b1 c1 T1) (hw:Below w0 w0 w) (k:∀ w',Box w' b0 c0 T0->Box w' b1 c1 T1->Below w0 w0 w'->(((∀ i,w'.cell? ⟨b0,i,none⟩=c0[i]?)/\(∀ i,w'.frozen? ⟨b0,i,none⟩=false)/\((b0=w'.heap.size)=False)/\((w'.heap.size=b0)=False))/\((∀ i,w'.cell? ⟨b1,i,none⟩=c1[i]?)/\(∀ i,w'.frozen? ⟨b1,i,none⟩=false)/\((b1=w'.heap.size)=False)/\((w'.heap.size=b1)=False)))->K (.returned v) w'):Calls P f ar w K:=
 h.mono λe w' ⟨he,hb⟩=>by rw [he];exact k w' (h0.ext hb rfl) (h1.ext hb rfl) (hw.trans (hb.mono hw.size)) ⟨(h0.ext hb rfl).f,(h1.ext hb rfl).f⟩
theorem qK2 {P:Program} {f:FuncId} {ar:Array Value} {v:Value} {K:Ending->World->Prop} {w0 w:World} {b0 b1:Nat} {c0 c1:List Value} {T0 T1:TypeId} (h:Calls P f ar w λe w'=>e=.returned v/\Below w w w') (h0:Box w b0 c0 T0) (h1:Box w b1 c1 T1) (hw:Below w0 w0 w) (k:∀ w',Box w' b0 c0 T0->Box w' b1 c1 T1->Below w0 w0 w'->K (.returned v) w'):Calls P f ar w K:=
 h.mono λe w' ⟨he,hb⟩=>by rw [he];exact k w' (h0.ext hb rfl) (h1.ext hb rfl) (hw.trans (hb.mono hw.size))
theorem qC3 {P:Program} {f:FuncId} {ar:Array Value} {v:Value} {K:Ending->World->Prop} {w0 w:World} {b0 b1 b2:Nat} {c0 c1 c2:List Value} {T0 T1 T2:TypeId} (h:Calls P f ar w λe w'=>e=.returned v/\Below w w w') (h0:Box w b0 c0 T0) (h1:Box w b1 c1 T1) (h2:Box w b2 c2 T2) (hw:Below w0 w0 w) (k:∀ w',Box w' b0 c0 T0->Box w' b1 c1 T1->Box w' b2 c2 T2->Below w0 w0 w'->(((∀ i,w'.cell? ⟨b0,i,none⟩=c0[i]?)/\(∀ i,w'.frozen? ⟨b0,i,none⟩=false)/\((b0=w'.heap.size)=False)/\((w'.heap.size=b0)=False))/\((∀ i,w'.cell? ⟨b1,i,none⟩=c1[i]?)/\(∀ i,w'.frozen? ⟨b1,i,none⟩=false)/\((b1=w'.heap.size)=False)/\((w'.heap.size=b1)=False))/\((∀ i,w'.cell? ⟨b2,i,none⟩=c2[i]?)/\(∀ i,w'.frozen? ⟨b2,i,none⟩=false)/\((b2=w'.heap.size)=False)/\((w'.heap.size=b2)=False)))->K (.returned v) w'):Calls P f ar w K:=
 h.mono λe w' ⟨he,hb⟩=>by rw [he];exact k w' (h0.ext hb rfl) (h1.ext hb rfl) (h2.ext hb rfl) (hw.trans (hb.mono hw.size)) ⟨(h0.ext hb rfl).f,(h1.ext hb rfl).f,(h2.ext hb rfl).f⟩
theorem qK3 {P:Program} {f:FuncId} {ar:Array Value} {v:Value} {K:Ending->World->Prop} {w0 w:World} {b0 b1 b2:Nat} {c0 c1 c2:List Value} {T0 T1 T2:TypeId} (h:Calls P f ar w λe w'=>e=.returned v/\Below w w w') (h0:Box w b0 c0 T0) (h1:Box w b1 c1 T1) (h2:Box w b2 c2 T2) (hw:Below w0 w0 w) (k:∀ w',Box w' b0 c0 T0->Box w' b1 c1 T1->Box w' b2 c2 T2->Below w0 w0 w'->K (.returned v) w'):Calls P f ar w K:=
 h.mono λe w' ⟨he,hb⟩=>by rw [he];exact k w' (h0.ext hb rfl) (h1.ext hb rfl) (h2.ext hb rfl) (hw.trans (hb.mono hw.size))
theorem qC4 {P:Program} {f:FuncId} {ar:Array Value} {v:Value} {K:Ending->World->Prop} {w0 w:World} {b0 b1 b2 b3:Nat} {c0 c1 c2 c3:List Value} {T0 T1 T2 T3:TypeId} (h:Calls P f ar w λe w'=>e=.returned v/\Below w w w') (h0:Box w b0 c0 T0) (h1:Box w b1 c1 T1) (h2:Box w b2 c2 T2) (h3:Box w b3 c3 T3) (hw:Below w0 w0 w) (k:∀ w',Box w' b0 c0 T0->Box w' b1 c1 T1->Box w' b2 c2 T2->Box w' b3 c3 T3->Below w0 w0 w'->(((∀ i,w'.cell? ⟨b0,i,none⟩=c0[i]?)/\(∀ i,w'.frozen? ⟨b0,i,none⟩=false)/\((b0=w'.heap.size)=False)/\((w'.heap.size=b0)=False))/\((∀ i,w'.cell? ⟨b1,i,none⟩=c1[i]?)/\(∀ i,w'.frozen? ⟨b1,i,none⟩=false)/\((b1=w'.heap.size)=False)/\((w'.heap.size=b1)=False))/\((∀ i,w'.cell? ⟨b2,i,none⟩=c2[i]?)/\(∀ i,w'.frozen? ⟨b2,i,none⟩=false)/\((b2=w'.heap.size)=False)/\((w'.heap.size=b2)=False))/\((∀ i,w'.cell? ⟨b3,i,none⟩=c3[i]?)/\(∀ i,w'.frozen? ⟨b3,i,none⟩=false)/\((b3=w'.heap.size)=False)/\((w'.heap.size=b3)=False)))->K (.returned v) w'):Calls P f ar w K:=
 h.mono λe w' ⟨he,hb⟩=>by rw [he];exact k w' (h0.ext hb rfl) (h1.ext hb rfl) (h2.ext hb rfl) (h3.ext hb rfl) (hw.trans (hb.mono hw.size)) ⟨(h0.ext hb rfl).f,(h1.ext hb rfl).f,(h2.ext hb rfl).f,(h3.ext hb rfl).f⟩
theorem qK4 {P:Program} {f:FuncId} {ar:Array Value} {v:Value} {K:Ending->World->Prop} {w0 w:World} {b0 b1 b2 b3:Nat} {c0 c1 c2 c3:List Value} {T0 T1 T2 T3:TypeId} (h:Calls P f ar w λe w'=>e=.returned v/\Below w w w') (h0:Box w b0 c0 T0) (h1:Box w b1 c1 T1) (h2:Box w b2 c2 T2) (h3:Box w b3 c3 T3) (hw:Below w0 w0 w) (k:∀ w',Box w' b0 c0 T0->Box w' b1 c1 T1->Box w' b2 c2 T2->Box w' b3 c3 T3->Below w0 w0 w'->K (.returned v) w'):Calls P f ar w K:=
 h.mono λe w' ⟨he,hb⟩=>by rw [he];exact k w' (h0.ext hb rfl) (h1.ext hb rfl) (h2.ext hb rfl) (h3.ext hb rfl) (hw.trans (hb.mono hw.size))
theorem qC5 {P:Program} {f:FuncId} {ar:Array Value} {v:Value} {K:Ending->World->Prop} {w0 w:World} {b0 b1 b2 b3 b4:Nat} {c0 c1 c2 c3 c4:List Value} {T0 T1 T2 T3 T4:TypeId} (h:Calls P f ar w λe w'=>e=.returned v/\Below w w w') (h0:Box w b0 c0 T0) (h1:Box w b1 c1 T1) (h2:Box w b2 c2 T2) (h3:Box w b3 c3 T3) (h4:Box w b4 c4 T4) (hw:Below w0 w0 w) (k:∀ w',Box w' b0 c0 T0->Box w' b1 c1 T1->Box w' b2 c2 T2->Box w' b3 c3 T3->Box w' b4 c4 T4->Below w0 w0 w'->(((∀ i,w'.cell? ⟨b0,i,none⟩=c0[i]?)/\(∀ i,w'.frozen? ⟨b0,i,none⟩=false)/\((b0=w'.heap.size)=False)/\((w'.heap.size=b0)=False))/\((∀ i,w'.cell? ⟨b1,i,none⟩=c1[i]?)/\(∀ i,w'.frozen? ⟨b1,i,none⟩=false)/\((b1=w'.heap.size)=False)/\((w'.heap.size=b1)=False))/\((∀ i,w'.cell? ⟨b2,i,none⟩=c2[i]?)/\(∀ i,w'.frozen? ⟨b2,i,none⟩=false)/\((b2=w'.heap.size)=False)/\((w'.heap.size=b2)=False))/\((∀ i,w'.cell? ⟨b3,i,none⟩=c3[i]?)/\(∀ i,w'.frozen? ⟨b3,i,none⟩=false)/\((b3=w'.heap.size)=False)/\((w'.heap.size=b3)=False))/\((∀ i,w'.cell? ⟨b4,i,none⟩=c4[i]?)/\(∀ i,w'.frozen? ⟨b4,i,none⟩=false)/\((b4=w'.heap.size)=False)/\((w'.heap.size=b4)=False)))->K (.returned v) w'):Calls P f ar w K:=
 h.mono λe w' ⟨he,hb⟩=>by rw [he];exact k w' (h0.ext hb rfl) (h1.ext hb rfl) (h2.ext hb rfl) (h3.ext hb rfl) (h4.ext hb rfl) (hw.trans (hb.mono hw.size)) ⟨(h0.ext hb rfl).f,(h1.ext hb rfl).f,(h2.ext hb rfl).f,(h3.ext hb rfl).f,(h4.ext hb rfl).f⟩
theorem qK5 {P:Program} {f:FuncId} {ar:Array Value} {v:Value} {K:Ending->World->Prop} {w0 w:World} {b0 b1 b2 b3 b4:Nat} {c0 c1 c2 c3 c4:List Value} {T0 T1 T2 T3 T4:TypeId} (h:Calls P f ar w λe w'=>e=.returned v/\Below w w w') (h0:Box w b0 c0 T0) (h1:Box w b1 c1 T1) (h2:Box w b2 c2 T2) (h3:Box w b3 c3 T3) (h4:Box w b4 c4 T4) (hw:Below w0 w0 w) (k:∀ w',Box w' b0 c0 T0->Box w' b1 c1 T1->Box w' b2 c2 T2->Box w' b3 c3 T3->Box w' b4 c4 T4->Below w0 w0 w'->K (.returned v) w'):Calls P f ar w K:=
 h.mono λe w' ⟨he,hb⟩=>by rw [he];exact k w' (h0.ext hb rfl) (h1.ext hb rfl) (h2.ext hb rfl) (h3.ext hb rfl) (h4.ext hb rfl) (hw.trans (hb.mono hw.size))
theorem qC6 {P:Program} {f:FuncId} {ar:Array Value} {v:Value} {K:Ending->World->Prop} {w0 w:World} {b0 b1 b2 b3 b4 b5:Nat} {c0 c1 c2 c3 c4 c5:List Value} {T0 T1 T2 T3 T4 T5:TypeId} (h:Calls P f ar w λe w'=>e=.returned v/\Below w w w') (h0:Box w b0 c0 T0) (h1:Box w b1 c1 T1) (h2:Box w b2 c2 T2) (h3:Box w b3 c3 T3) (h4:Box w b4 c4 T4) (h5:Box w b5 c5 T5) (hw:Below w0 w0 w) (k:∀ w',Box w' b0 c0 T0->Box w' b1 c1 T1->Box w' b2 c2 T2->Box w' b3 c3 T3->Box w' b4 c4 T4->Box w' b5 c5 T5->Below w0 w0 w'->(((∀ i,w'.cell? ⟨b0,i,none⟩=c0[i]?)/\(∀ i,w'.frozen? ⟨b0,i,none⟩=false)/\((b0=w'.heap.size)=False)/\((w'.heap.size=b0)=False))/\((∀ i,w'.cell? ⟨b1,i,none⟩=c1[i]?)/\(∀ i,w'.frozen? ⟨b1,i,none⟩=false)/\((b1=w'.heap.size)=False)/\((w'.heap.size=b1)=False))/\((∀ i,w'.cell? ⟨b2,i,none⟩=c2[i]?)/\(∀ i,w'.frozen? ⟨b2,i,none⟩=false)/\((b2=w'.heap.size)=False)/\((w'.heap.size=b2)=False))/\((∀ i,w'.cell? ⟨b3,i,none⟩=c3[i]?)/\(∀ i,w'.frozen? ⟨b3,i,none⟩=false)/\((b3=w'.heap.size)=False)/\((w'.heap.size=b3)=False))/\((∀ i,w'.cell? ⟨b4,i,none⟩=c4[i]?)/\(∀ i,w'.frozen? ⟨b4,i,none⟩=false)/\((b4=w'.heap.size)=False)/\((w'.heap.size=b4)=False))/\((∀ i,w'.cell? ⟨b5,i,none⟩=c5[i]?)/\(∀ i,w'.frozen? ⟨b5,i,none⟩=false)/\((b5=w'.heap.size)=False)/\((w'.heap.size=b5)=False)))->K (.returned v) w'):Calls P f ar w K:=
 h.mono λe w' ⟨he,hb⟩=>by rw [he];exact k w' (h0.ext hb rfl) (h1.ext hb rfl) (h2.ext hb rfl) (h3.ext hb rfl) (h4.ext hb rfl) (h5.ext hb rfl) (hw.trans (hb.mono hw.size)) ⟨(h0.ext hb rfl).f,(h1.ext hb rfl).f,(h2.ext hb rfl).f,(h3.ext hb rfl).f,(h4.ext hb rfl).f,(h5.ext hb rfl).f⟩
theorem qK6 {P:Program} {f:FuncId} {ar:Array Value} {v:Value} {K:Ending->World->Prop} {w0 w:World} {b0 b1 b2 b3 b4 b5:Nat} {c0 c1 c2 c3 c4 c5:List Value} {T0 T1 T2 T3 T4 T5:TypeId} (h:Calls P f ar w λe w'=>e=.returned v/\Below w w w') (h0:Box w b0 c0 T0) (h1:Box w b1 c1 T1) (h2:Box w b2 c2 T2) (h3:Box w b3 c3 T3) (h4:Box w b4 c4 T4) (h5:Box w b5 c5 T5) (hw:Below w0 w0 w) (k:∀ w',Box w' b0 c0 T0->Box w' b1 c1 T1->Box w' b2 c2 T2->Box w' b3 c3 T3->Box w' b4 c4 T4->Box w' b5 c5 T5->Below w0 w0 w'->K (.returned v) w'):Calls P f ar w K:=
 h.mono λe w' ⟨he,hb⟩=>by rw [he];exact k w' (h0.ext hb rfl) (h1.ext hb rfl) (h2.ext hb rfl) (h3.ext hb rfl) (h4.ext hb rfl) (h5.ext hb rfl) (hw.trans (hb.mono hw.size))
theorem qD1 {P:Program} {c:Code} {Q:Exit->Act->World->Prop} {a:Act} {w:World} {c0:List Value} {T0:TypeId} (h:∀ W,Box W w c0 T0->Below w w W->c.wp P Q a W):c.wp P Q a (w.alloc (.cells c0.toArray T0)):=
 by obtain ⟨x0,y⟩:=qN1 (W:=(w.alloc (.cells c0.toArray T0))) rfl;exact h _ x0 y
theorem qE1 {P:Program} {f:FuncId} {ar:Array Value} {K:Ending->World->Prop} {w:World} {c0:List Value} {T0:TypeId} (h:∀ W,Box W w c0 T0->Below w w W->Calls P f ar W K):Calls P f ar (w.alloc (.cells c0.toArray T0)) K:=
 by obtain ⟨x0,y⟩:=qN1 (W:=(w.alloc (.cells c0.toArray T0))) rfl;exact h _ x0 y
theorem qD2 {P:Program} {c:Code} {Q:Exit->Act->World->Prop} {a:Act} {w:World} {c0 c1:List Value} {T0 T1:TypeId} (h:∀ W,Box W w c0 T0->Box W (w+1) c1 T1->Below w w W->c.wp P Q a W):c.wp P Q a ((w.alloc (.cells c0.toArray T0)).alloc (.cells c1.toArray T1)):=
 by obtain ⟨x0,x1,y⟩:=qN2 (W:=((w.alloc (.cells c0.toArray T0)).alloc (.cells c1.toArray T1))) rfl;exact h _ x0 x1 y
theorem qE2 {P:Program} {f:FuncId} {ar:Array Value} {K:Ending->World->Prop} {w:World} {c0 c1:List Value} {T0 T1:TypeId} (h:∀ W,Box W w c0 T0->Box W (w+1) c1 T1->Below w w W->Calls P f ar W K):Calls P f ar ((w.alloc (.cells c0.toArray T0)).alloc (.cells c1.toArray T1)) K:=
 by obtain ⟨x0,x1,y⟩:=qN2 (W:=((w.alloc (.cells c0.toArray T0)).alloc (.cells c1.toArray T1))) rfl;exact h _ x0 x1 y
theorem qD3 {P:Program} {c:Code} {Q:Exit->Act->World->Prop} {a:Act} {w:World} {c0 c1 c2:List Value} {T0 T1 T2:TypeId} (h:∀ W,Box W w c0 T0->Box W (w+1) c1 T1->Box W (w+1+1) c2 T2->Below w w W->c.wp P Q a W):c.wp P Q a (((w.alloc (.cells c0.toArray T0)).alloc (.cells c1.toArray T1)).alloc (.cells c2.toArray T2)):=
 by obtain ⟨x0,x1,x2,y⟩:=qN3 (W:=(((w.alloc (.cells c0.toArray T0)).alloc (.cells c1.toArray T1)).alloc (.cells c2.toArray T2))) rfl;exact h _ x0 x1 x2 y
theorem qE3 {P:Program} {f:FuncId} {ar:Array Value} {K:Ending->World->Prop} {w:World} {c0 c1 c2:List Value} {T0 T1 T2:TypeId} (h:∀ W,Box W w c0 T0->Box W (w+1) c1 T1->Box W (w+1+1) c2 T2->Below w w W->Calls P f ar W K):Calls P f ar (((w.alloc (.cells c0.toArray T0)).alloc (.cells c1.toArray T1)).alloc (.cells c2.toArray T2)) K:=
 by obtain ⟨x0,x1,x2,y⟩:=qN3 (W:=(((w.alloc (.cells c0.toArray T0)).alloc (.cells c1.toArray T1)).alloc (.cells c2.toArray T2))) rfl;exact h _ x0 x1 x2 y
theorem qD4 {P:Program} {c:Code} {Q:Exit->Act->World->Prop} {a:Act} {w:World} {c0 c1 c2 c3:List Value} {T0 T1 T2 T3:TypeId} (h:∀ W,Box W w c0 T0->Box W (w+1) c1 T1->Box W (w+1+1) c2 T2->Box W (w+1+1+1) c3 T3->Below w w W->c.wp P Q a W):c.wp P Q a ((((w.alloc (.cells c0.toArray T0)).alloc (.cells c1.toArray T1)).alloc (.cells c2.toArray T2)).alloc (.cells c3.toArray T3)):=
 by obtain ⟨x0,x1,x2,x3,y⟩:=qN4 (W:=((((w.alloc (.cells c0.toArray T0)).alloc (.cells c1.toArray T1)).alloc (.cells c2.toArray T2)).alloc (.cells c3.toArray T3))) rfl;exact h _ x0 x1 x2 x3 y
theorem qE4 {P:Program} {f:FuncId} {ar:Array Value} {K:Ending->World->Prop} {w:World} {c0 c1 c2 c3:List Value} {T0 T1 T2 T3:TypeId} (h:∀ W,Box W w c0 T0->Box W (w+1) c1 T1->Box W (w+1+1) c2 T2->Box W (w+1+1+1) c3 T3->Below w w W->Calls P f ar W K):Calls P f ar ((((w.alloc (.cells c0.toArray T0)).alloc (.cells c1.toArray T1)).alloc (.cells c2.toArray T2)).alloc (.cells c3.toArray T3)) K:=
 by obtain ⟨x0,x1,x2,x3,y⟩:=qN4 (W:=((((w.alloc (.cells c0.toArray T0)).alloc (.cells c1.toArray T1)).alloc (.cells c2.toArray T2)).alloc (.cells c3.toArray T3))) rfl;exact h _ x0 x1 x2 x3 y
theorem qD5 {P:Program} {c:Code} {Q:Exit->Act->World->Prop} {a:Act} {w:World} {c0 c1 c2 c3 c4:List Value} {T0 T1 T2 T3 T4:TypeId} (h:∀ W,Box W w c0 T0->Box W (w+1) c1 T1->Box W (w+1+1) c2 T2->Box W (w+1+1+1) c3 T3->Box W (w+1+1+1+1) c4 T4->Below w w W->c.wp P Q a W):c.wp P Q a (((((w.alloc (.cells c0.toArray T0)).alloc (.cells c1.toArray T1)).alloc (.cells c2.toArray T2)).alloc (.cells c3.toArray T3)).alloc (.cells c4.toArray T4)):=
 by obtain ⟨x0,x1,x2,x3,x4,y⟩:=qN5 (W:=(((((w.alloc (.cells c0.toArray T0)).alloc (.cells c1.toArray T1)).alloc (.cells c2.toArray T2)).alloc (.cells c3.toArray T3)).alloc (.cells c4.toArray T4))) rfl;exact h _ x0 x1 x2 x3 x4 y
def upd (b k:Nat) (cs:List Value) (i:Nat) (v:Value):List Value:=if k=b then cs.set i v else cs
theorem upd_s {b:Nat} {cs:List Value} {i:Nat} {v:Value}:upd b b cs i v=cs.set i v:=JH rfl
theorem upd_n {b k:Nat} {cs:List Value} {i:Nat} {v:Value} (h:k≠b):upd b k cs i v=cs:=J0 h
theorem Box.q {w:World} {b k i:Nat} {cs:List Value} {T:TypeId} {v:Value} (h:Box w b cs T):Box (w.setCell ⟨k,i,none⟩ v) b (upd b k cs i v) T:=by
 by_cases e:k=b
 ·subst e;rw [upd_s];exact h.set i v
 ·rw [upd_n e];exact h.set_ne ⟨k,i,none⟩ v e
theorem Box.qd {w:World} {b:Nat} {cs:List Value} {T:TypeId} (h:Box w b cs T):Box w.drew b cs T:=h
theorem Box.to {w:World} {b:Nat} {cs cs':List Value} {T:TypeId} (h:Box w b cs T) (e:cs=cs'):Box w b cs' T:=e▸h
theorem sto {w W V : World} {b : Nat} {cs cs' : List Value} {T : TypeId} (_ : Box w b cs T) (hW : W = V) (h : Box V b cs' T := by
     apply Box.to
     ·repeat (first | with_reducible assumption | with_reducible apply Box.q | with_reducible apply Box.qd)
     ·simp (disch:=first | assumption | omega) only [upd_s,upd_n,UH,VU];try rfl):Box W b cs' T:=hW▸h
theorem stw {w w' W V:World} (hw:Below w w w') (hW:W=V) (h:w.heap.size<=w'.heap.size->Below w w V:=by intro hl;go_grown):Below w w W:=hW▸h hw.size
attribute [local go_sem] rOper rAt rUpon cell_set sg_i64 sg_u64 alloc_cell alloc_frozen
theorem inGrid_any (n:Int) (w:World):Calls prog 116 #[n] w λe w'=>e=.returned (.bool (inG n))/\w=w':=by
 go_enter func116,ntmps116
 go_wp2;all_goals go_ret
 all_goals exact ⟨yO (by simp [inG];omega),rfl⟩
theorem vZ (a b:Int) (w:World):Calls prog 101 #[a,b] w λe w'=>e=.returned (.int .i64 (cmpN a b))/\w=w':=by
 go_enter func101,ntmps101
 go_wp2;all_goals go_ret
 ·exact ⟨zi (by unfold cmpN sgn;rw [JH (by omega)]),rfl⟩
 ·exact ⟨zi (by unfold cmpN sgn;rw [J0 (by omega),JH (by omega)]),rfl⟩
 ·exact ⟨zi (by unfold cmpN sgn;rw [J0 (by omega),J0 (by omega)]),rfl⟩
theorem zF (p:Pt) (w:World):Calls prog 62 #[p] w (Rt w (.bool (vld p))):=by
 have hv:vld p=(inG p.x && inG p.y):=rfl;have Hv:=hdd hv;clear hv
 go_enter func62,ntmps62
 go_wp2_with (go_at_call 116;refine (inGrid_any _ _).mono ?_;rintro e w' ⟨rfl,rfl⟩)
 all_goals go_returns
 all_goals exact ⟨yO (by rw [Hv.o];simp [*]),by go_grown⟩
def peqI (a b c d:Int):Bool:=decide (a=c) && decide (b=d)
theorem pt_eql (a b c d:Int) (w:World):(binOp .eql 34 (.agg #[a,b]) (.agg #[c,d])).run prog w=.ok (.bool (peqI a b c d)) w:=by
 unfold peqI;by_cases h1:a=c <;> by_cases h2:b=d <;> simp [go_sem,h1,h2]
theorem pt_neq (a b c d:Int) (w:World):(binOp .neq 34 (.agg #[a,b]) (.agg #[c,d])).run prog w=.ok (.bool (!peqI a b c d)) w:=by
 unfold peqI;by_cases h1:a=c <;> by_cases h2:b=d <;> simp [go_sem,h1,h2]
theorem xJ {a b c d:Int}:peqI a b c d=true↔a=c/\b=d:=by simp [peqI]
section
open Go.WideShapes Go.ChangeShapes
theorem Tryz.own:ownKnob prog.godebug=none:=by kernel_rfl
theorem zK {P:Program} {ops:Array Oper} {C:World->Prop} {Q:Act->Prop} {a:Act} {o:Oper} {rest:List Oper} (hg:Region.wanted o (yielded ops a.tmps)=false) (h:rWalk P ops C Q rest (a.put o.dst undef)):rWalk P ops C Q (o :: rest) a:=by
 simp only [rWalk];rw [hg,J0 (by simp)];exact h
theorem toExt {P:Program} {f:FuncId} {args:Array Value} {v:Value} (c:∀ w:World,Calls P f args w λe w'=>e=.returned v/\Below w w w'):∀ w:World,Calls P f args w λe w'=>e=.returned v/\Ext w w':=c
section
variable {H:Type} {enc:TypeId×Value->H} {P:Program}
theorem post_of_below {f : Func} {s : ChangeSpec} {apart fresh handsOn again : Bool} {W W' : World} {args : Array Value} {v : Value} {ds gs : List (DataW H)} {before pa pv : List MemPlace}
    (hW:DataW.Whole enc P f.params.toList s.vars apart W args.toList ds gs before)
    (hres:∀ (b:Nat) (sp:Nat->Bool) (hd:Bool),DataW.TrodAll enc P W' b sp hd f.resultTypes.toList (v.resultList f.resultTypes.size) (s.fn H (ds ++ gs)).results [])
    (hargs:∀ sp:Nat->Bool,(∀ p∈before,sp p.block=true)->DataW.TrodAll enc P W' 0 sp true f.params.toList args.toList (s.fn H (ds ++ gs)).args pa)
    (hvars:∀ sp:Nat->Bool,(∀ p∈before,sp p.block=true)->DataW.TrodVars enc P W' sp s.vars (s.fn H (ds ++ gs)).vars pv)
    (hps:before=pa ++ pv) (hb:Below W W W')
    (hok:∀ (j:Nat) (t:TypeId) (r:Value),f.resultTypes[j]? = some t->(v.resultList f.resultTypes.size)[j]? = some r->Value.okWide P W' .any 0 t r) :
    s.post enc P f apart fresh handsOn again W args v W':=by
 have hlt:∀ p∈before,p.block < W.heap.size:=λp hp=>hW.lt p hp;have hold:∀ p∈before,(λb=>decide (b < W.heap.size)) p.block=true:=λp hp=>by simpa using hlt p hp
 refine ⟨ds,gs,before,[],pa,pv,hW,hres _ _ _,hargs _ hold,hvars _ hold,World.keptBut_mono (λp hp=>⟨hp,?_⟩) (hb.frame (· ∈ before)),λ_=>?_⟩
 ·rw [hps,JM] at hp;exact Or.inr hp
 ·obtain ⟨_,_,_,_,_,hz,hn⟩:=hW;refine ⟨hok,_,_,([] ++ pa) ++ pv,⟨[] ++ pa,pv,trodAll_append (hargs _ (λ_ _=>rfl)) (hres _ _ _),hvars _ (λ_ _=>rfl),rfl,?_,?_⟩,?_⟩
  ·intro b off hp;have hin:MemPlace.cell b off∈before:=by rw [hps];simpa using hp
   rw [hb.frozen (hlt _ hin)];exact hz b off hin
  ·intro ha;have:=hn ha;rw [hps] at this
   simpa using this
  ·intro p hp _;rw [hps]
   simpa using hp
end
open Go.RowKit Go.Sort in
theorem toExtQ {P:Program} {f:FuncId} {args:Array Value} {v:Value} {W:World} (c:∀ d os,Calls P f args (grow (redrawn W d) os) λe w'=>e=.returned v/\Below (grow (redrawn W d) os).heap.size (grow (redrawn W d) os) w'):∀ d os,Calls P f args (grow (redrawn W d) os) λe w'=>e=.returned v/\Ext (grow (redrawn W d) os) w':=c
open Go.RowKit Go.Sort in
theorem wkx {P:Program} {ops:Array Oper} {A:Act} {R:Act->Prop} {C:World->Prop} {l:List Oper} {a:Act} (k:R A) (h:rWalk P ops C (λa'=>a'=A) l a:=by
 repeat (first | (refine rWalk_skip (Eq.refl false) ?_;simp only [Act.put,sT2,sT1,sT0]) | (refine rWalk_step (λK hK=>?_);go_simp;first | (refine hK _ ?_;clear hK K) | (apply Exists.intro;refine ⟨λ_=>?_,hK _ ?_⟩;(first | with_reducible exact toExt (by assumption) _ | with_reducible exact toExtQ (by assumption) _ _);clear hK K)))
 exact rWalk_nil rfl):rWalk P ops C R l a:=by
 have aux:∀ (L:List Oper) (b:Act) (C:World->Prop),rWalk P ops C (λa'=>a'=A) L b->rWalk P ops C R L b:=by
  intro L;induction L with
  | nil=>intro b C h;simp only [rWalk] at h ⊢;rw [h];exact k
  | cons o rest ih=>
   intro b C h;simp only [rWalk] at h ⊢;split
   ·rename_i hw
    rw [JH hw] at h;obtain ⟨v,h1,h2⟩:=h;exact ⟨v,h1,ih _ _ h2⟩
   ·rename_i hw
    rw [J0 hw] at h;exact ih _ _ h
 exact aux _ _ _ h
end
attribute [local irreducible] rWalk
theorem zo (p q:Pt) (w:World):Calls prog 72 #[p,q] w (Rt w (.int .i64 (cmpP p q))):=by
 by_cases h:p.x=q.x
 ·have e1:(p.x != q.x)=false:=by simp [h]
  have e2:cmpP p q=cmpN p.y q.y:=by unfold cmpP;rw [JH h]
  rw [e2];clear e2 h
  go_enter func72,ntmps72
  go_wp2_with (go_at_call 101;refine (vZ _ _ _).mono ?_;rintro e w' ⟨rfl,rfl⟩)
  go_returns
  exact ⟨rfl,by go_grown⟩
 ·have e1:(p.x != q.x)=true:=by simp [h]
  have e2:cmpP p q=cmpN p.x q.x:=by unfold cmpP;rw [J0 h]
  rw [e2];clear e2 h
  go_enter func72,ntmps72
  go_wp2_with (go_at_call 101;refine (vZ _ _ _).mono ?_;rintro e w' ⟨rfl,rfl⟩)
  go_returns
  exact ⟨rfl,by go_grown⟩
def way (a b:Pt):Pt:=⟨b.x - a.x,b.y - a.y⟩
def sm (n:Int):Prop := -16777215<=n/\n<=16777215
def smP (p:Pt):Prop:=sm p.x/\sm p.y
theorem qp {a b:Pt} (ha:vld a) (hb:vld b):smP (way a b):=by
 rw [zh] at ha hb;unfold smP sm way;simp only;omega
theorem jp (a b:Pt) (ha:vld a) (hb:vld b) (w:World):Calls prog 118 #[a,b] w (Rt w (.agg #[.int .i64 (way a b).x,.int .i64 (way a b).y])):=by
 rw [zh] at ha hb;have x1:wrap64 (b.x - a.x)=(way a b).x:=by rw [w64];unfold way;simp only;omega
 have y1:wrap64 (b.y - a.y)=(way a b).y:=by rw [w64];unfold way;simp only;omega
 have X:=hdd x1;have Y:=hdd y1;clear x1 y1 ha hb;generalize (way a b).x=u at *
 generalize (way a b).y=v at *
 go_enter func118,ntmps118
 go_wp2;refine bodyPost_ret (v:=.agg #[.int .i64 u,.int .i64 v]) (by simp [results,results118,go_sem,X.o,Y.o]) rfl ⟨rfl,by go_grown⟩
theorem yV {a b:Int} (ha:sm a) (hb:sm b) : -281474943156225<=a * b/\a * b<=281474943156225:=by
 unfold sm at ha hb;have h1:a.natAbs<=16777215:=by omega
 have h2:b.natAbs<=16777215:=by omega
 have h3:=UP h1 h2;rw [<-Int.natAbs_mul] at h3;generalize a * b=p at *
 omega
theorem qB (a:Int):0<=a * a:=by
 rcases VW 0 a with h | h
 ·exact JD h h
 ·exact QG h h
def cr (u v:Pt):Int:=u.x * v.y - u.y * v.x
def ht (u:Pt):Int:=u.x * u.x+u.y * u.y
theorem cr_bd {u v:Pt} (hu:smP u) (hv:smP v) : -562949886312450<=cr u v/\cr u v<=562949886312450:=by
 have h1:=yV hu.1 hv.2;have h2:=yV hu.2 hv.1;unfold cr;omega
theorem ht_bd {u:Pt} (hu:smP u):0<=ht u/\ht u<=562949886312450:=by
 have h1:=yV hu.1 hu.1;have h2:=yV hu.2 hu.2;have h3:=qB u.x;have h4:=qB u.y;unfold ht;omega
theorem jP (u v:Pt) (hu:smP u) (hv:smP v) (w:World):Calls prog 117 #[u,v] w (Rt w (.int .i64 (cr u v))):=by
 have h1:=yV hu.1 hv.2;have h2:=yV hu.2 hv.1;have e:wrap64 (wrap64 (u.x * v.y) - wrap64 (u.y * v.x))=cr u v:=by
  simp only [w64];unfold cr;generalize u.x * v.y=p at *
  generalize u.y * v.x=q at *
  omega
 have E:=hdd e;clear e h1 h2 hu hv
 go_enter func117,ntmps117
 go_wp2
 go_ret
 exact ⟨zi (by simpa using E.o),by go_grown⟩
theorem ja (u:Pt) (hu:smP u) (w:World):Calls prog 181 #[u] w (Rt w (.int .i64 (ht u))):=by
 have h1:=yV hu.1 hu.1;have h2:=yV hu.2 hu.2;have e:wrap64 (wrap64 (u.x * u.x)+wrap64 (u.y * u.y))=ht u:=by
  simp only [w64];unfold ht;generalize u.x * u.x=p at *
  generalize u.y * u.y=q at *
  omega
 have E:=hdd e;clear e h1 h2 hu
 go_enter func181,ntmps181
 go_wp2
 go_ret
 exact ⟨zi (by simpa using E.o),by go_grown⟩
theorem qD {P:Program} {f:FuncId} {args:Array Value} {E:Ending} (h:∀ w,Calls P f args w λe w'=>e=E/\w=w') (w:World):Calls P f args w λe w'=>e=E/\Below w w w':=
 (h w).mono λe w' h=>⟨h.1,by rw [h.2];exact Below.refl _ _⟩
theorem orient_bad0 (a b c:Pt)  (ha:vld a=false) (w:World):Calls prog 68 #[a,b,c] w (Rt w (.int .i64 0)):=by
 have ca:=zF a;rw [ha] at ca;clear ha
 go_enter func68,ntmps68
 go_wp2_with fail;refine qE3 λW1 Ba Bb Bc hw=>?_;refine qC3 (ca _) Ba Bb Bc hw λw2 Ba Bb Bc hw FW=>?_;go_wp2
 go_ret
 exact ⟨rfl,hw⟩
theorem orient_bad1 (a b c:Pt) (ha:vld a) (hb:vld b=false) (w:World):Calls prog 68 #[a,b,c] w (Rt w (.int .i64 0)):=by
 have ca:=zF a;rw [ha] at ca;clear ha;have cb:=zF b;rw [hb] at cb;clear hb
 go_enter func68,ntmps68
 go_wp2_with fail;refine qE3 λW1 Ba Bb Bc hw=>?_;refine qC3 (ca _) Ba Bb Bc hw λw2 Ba Bb Bc hw FW=>?_;go_wp2_with fail;clear FW;refine qC3 (cb _) Ba Bb Bc hw λw3 Ba Bb Bc hw FW=>?_;go_wp2
 go_ret
 exact ⟨rfl,hw⟩
theorem orient_bad2 (a b c:Pt) (ha:vld a) (hb:vld b) (hc:vld c=false) (w:World):Calls prog 68 #[a,b,c] w (Rt w (.int .i64 0)):=by
 have ca:=zF a;rw [ha] at ca;clear ha;have cb:=zF b;rw [hb] at cb;clear hb;have cc:=zF c;rw [hc] at cc;clear hc
 go_enter func68,ntmps68
 go_wp2_with fail;refine qE3 λW1 Ba Bb Bc hw=>?_;refine qC3 (ca _) Ba Bb Bc hw λw2 Ba Bb Bc hw FW=>?_;go_wp2_with fail;clear FW;refine qC3 (cb _) Ba Bb Bc hw λw3 Ba Bb Bc hw FW=>?_;go_wp2_with fail;clear FW;refine qC3 (cc _) Ba Bb Bc hw λw4 Ba Bb Bc hw FW=>?_;go_wp2
 go_ret
 exact ⟨rfl,hw⟩
theorem orient_ok (a b c:Pt) (ha:vld a) (hb:vld b) (hc:vld c) (w:World):Calls prog 68 #[a,b,c] w (Rt w (.int .i64 (sgn (det a b c)))):=by
 have ca:=zF a;rw [ha] at ca;have cb:=zF b;rw [hb] at cb;have cc:=zF c;rw [hc] at cc;have d1:=jp a b ha hb;have d2:=jp a c ha hc;have d3:=jP (way a b) (way a c) (qp ha hb) (qp ha hc);have d4:=qD (vZ (cr (way a b) (way a c)) 0);have ed:cmpN (cr (way a b) (way a c)) 0=sgn (det a b c):=by
  unfold cmpN cr way det;simp only [Qp]
 rw [ed] at d4;clear ha hb hc ed;generalize way a b=u at *
 generalize way a c=v at *
 go_enter func68,ntmps68
 go_wp2_with fail;refine qE3 λW1 Ba Bb Bc hw=>?_;refine qC3 (ca _) Ba Bb Bc hw λw2 Ba Bb Bc hw FW=>?_;go_wp2_with fail;clear FW;refine qC3 (cb _) Ba Bb Bc hw λw3 Ba Bb Bc hw FW=>?_;go_wp2_with fail;clear FW;refine qC3 (cc _) Ba Bb Bc hw λw4 Ba Bb Bc hw FW=>?_;go_wp2;refine zG λW9 hW=>?_;subst hW;clear FW;have Ru:=J3 Ba.cells Bb.cells Bc.cells;refine wrt 8 (by kernel_rfl) (by kernel_rfl) ?_;simp only [tK1,tK0,dP1,dP0];refine wkx ?_;intro w5 hb;clear Ru;obtain ⟨Ba,Bb,Bc,hw,-⟩:=qX3 Ba Bb Bc hw hb;go_wp2
 go_ret
 exact ⟨rfl,hw⟩
theorem zJ (a b c:Pt) (w:World):Calls prog 68 #[a,b,c] w (Rt w (.int .i64 (ori a b c))):=by
 cases ha:vld a with
 | false=>rw [show ori a b c=0 by simp [ori,ha]];exact orient_bad0 a b c ha w
 | true=>cases hb:vld b with
  | false=>rw [show ori a b c=0 by simp [ori,hb]];exact orient_bad1 a b c ha hb w
  | true=>cases hc:vld c with
   | false=>rw [show ori a b c=0 by simp [ori,hc]];exact orient_bad2 a b c ha hb hc w
   | true=>rw [show ori a b c=sgn (det a b c) by simp [ori,ha,hb,hc]];exact orient_ok a b c ha hb hc w
end
section
open Go.RowKit Go.Sort
section
variable {P:Program} {ops:Array Oper} {md:Region.Mode} {C:World->Prop}
structure Lay where
 at_:Nat
 slot:Tmp
 type:TypeId
 cells:List Value
def putD (β:Tmp->Nat):List Tmp->Act->Act
 | [],a=>a
 | d :: l,a=>(putD β l a).put (some d) (.pointer (some ⟨β d,0,none⟩))
theorem Ys {β:Tmp->Nat} {x:Option Tmp} {v:Value}:∀ {l:List Tmp} {a:Act},(∀ d,d∈l->x≠some d)->putD β l (a.put x v)=(putD β l a).put x v
 | [],_,_=>rfl
 | d :: l,a,h=>by
  simp only [putD];rw [Ys (λd' h'=>h d' (JN _ h'))];exact Act.put_comm _ v _ (λd' hd' hd=>h d JT (by rw [hd',<-hd]))
theorem tE {β β':Tmp->Nat}:∀ {l:List Tmp} {a:Act},(∀ d,d∈l->β d=β' d)->putD β l a=putD β' l a
 | [],_,_=>rfl
 | d :: l,a,h=>by
  simp only [putD];rw [tE (λd' h'=>h d' (JN _ h')),h d JT]
theorem putD_perm {β:Tmp->Nat} {l l':List Tmp} (h:l.Perm l') (a:Act):putD β l a=putD β l' a:=by
 induction h with
 | nil=>rfl
 | cons x _ ih=>simp only [putD,ih]
 | swap x y l=>
  simp only [putD];by_cases e:x=y
  ·subst e;rfl
  ·exact Act.put_comm _ _ _ (λd hd hd'=>e (by cases hd;cases hd';rfl))
 | trans _ _ ih1 ih2=>exact ih1.trans ih2
theorem YD {o:Oper} (hs:∀ cs b,o.op≠.select cs b) {β:Tmp->Nat}:∀ {l:List Tmp} {a:Act},(∀ d,d∈l->d ∉ o.looksAt ops)->execOp (putD β l a).eval o=execOp a.eval o
 | [],_,_=>rfl
 | d :: l,a,h=>by
  simp only [putD];rw [execOp_put (ops:=ops) o hs _ (some d) _ (λd' hd'=>by cases hd';exact h d JT),YD hs (λd' h'=>h d' (JN _ h'))]
theorem jx {o:Oper} {β:Tmp->Nat}:∀ {l:List Tmp} {a:Act},(∀ d,d∈l->d ∉ o.looksAt ops)->Region.wanted o (yielded ops (putD β l a).tmps)=Region.wanted o (yielded ops a.tmps)
 | [],_,_=>rfl
 | d :: l,a,h=>by
  simp only [putD];rw [wanted_put o _ (some d) _ (λd' hd'=>by cases hd';exact h d JT),jx (λd' h'=>h d' (JN _ h'))]
def setAll (K:List Lay) (listed:Array Bool):Array Bool:=K.foldr (λe m=>m.setIfInBounds e.at_ true) listed
theorem uy (K:List Lay) (listed:Array Bool) (i:Nat):setAll K (listed.setIfInBounds i true)=(setAll K listed).setIfInBounds i true:=by
 induction K with
 | nil=>rfl
 | cons e K ih=>
  simp only [setAll,UB] at *;rw [ih];by_cases h:i=e.at_
  ·rw [h]
  ·rw [QS _ _ h]
theorem setAll_ne {K:List Lay} {listed:Array Bool} {i:Nat} {d:Bool} (h:∀ e,e∈K->e.at_≠i):(setAll K listed).getD i d=listed.getD i d:=by
 induction K with
 | nil=>rfl
 | cons e K ih=>
  have h1:=h e JT;have h2:=ih (λe' h'=>h e' (JN _ h'));simp only [setAll,UB] at *;rw [getD_set_ne d h1];exact h2
theorem setAll_app (K1 K2:List Lay) (e:Lay) (listed:Array Bool):setAll (K1 ++ e :: K2) listed=setAll (K1 ++ K2) (listed.setIfInBounds e.at_ true):=by
 rw [uy];induction K1 with
 | nil=>rfl
 | cons x K1 ih=>
  simp only [setAll,Jw,UB] at *;rw [ih];by_cases h:e.at_=x.at_
  ·rw [h]
  ·rw [QS _ _ h]
theorem ready_setAll {K:List Lay} {listed:Array Bool} {i:Nat} (h:i∈Region.ready md ops listed) (hne:∀ e,e∈K->e.at_≠i):i∈Region.ready md ops (setAll K listed):=by
 induction K with
 | nil=>exact h
 | cons e K ih=>
  have h2:=ih (λe' h'=>hne e' (JN _ h'));simp only [setAll,UB] at *;exact ready_mono h2 (Ne.symm (hne e JT))
structure Laid (w0:World) (J:List Lay) (done:List Tmp) (β:Tmp->Nat) (w:World):Prop where
 below:Below w0 w0 w
 box:∀ e,e∈J->e.slot∈done->w0.heap.size<=β e.slot/\Box w (β e.slot) e.cells e.type
 apart:∀ x,x∈done->∀ y,y∈done->x≠y->β x≠β y
theorem Laid.ext {w0 w w':World} {J:List Lay} {done:List Tmp} {β:Tmp->Nat} (h:Laid w0 J done β w) (hw:Ext w w'):Laid w0 J done β w':=
 ⟨Ext.trans (a:=w0) h.below hw,λe he hd=>⟨(h.box e he hd).1,(h.box e he hd).2.ee hw⟩,h.apart⟩
def manyB (ops:Array Oper) (n:Nat) (J:List Lay):Bool:=
 J.all λe=>decide (e.at_ < n) && (List.range n).all λi=>i == e.at_ || match ops[i]? with
  | some o => !(o.looksAt ops).contains e.slot && o.dst != some e.slot
  | none=>true
theorem tL {n:Nat} {J:List Lay} (h:manyB ops n J):∀ e,e∈J->e.at_ < n/\∀ i o,i < n->i≠e.at_->ops[i]? = some o->e.slot ∉ o.looksAt ops/\o.dst≠some e.slot:=by
 intro e he;have h1:=Qg.1 h e he;simp only [JB,JA] at h1;refine ⟨h1.1,λi o hi hne ho=>?_⟩;have h2:=Qg.1 h1.2 i (Q7.2 hi);simp only [ho,V0,beq_iff_eq,hne,false_or,JB,V4,UU] at h2;exact ⟨by simpa using h2.1,h2.2⟩
theorem uD:∀ {J:List Lay},(J.map Lay.slot).Nodup->∀ {x y:Lay},x∈J->y∈J->x.slot=y.slot->x=y
 | [],_,_,_,hx,_,_=>by cases hx
 | e :: J,h,x,y,hx,hy,hxy=>by
  obtain ⟨h1,h2⟩:=Jf.1 h;rcases J1.1 hx with rfl | hx' <;> rcases J1.1 hy with rfl | hy'
  ·rfl
  ·exact absurd (JS.2 ⟨y,hy',hxy.symm⟩) h1
  ·exact absurd (JS.2 ⟨x,hx',hxy⟩) h1
  ·exact uD h2 hx' hy' hxy
theorem at_inj:∀ {J:List Lay},(J.map Lay.at_).Nodup->∀ {x y:Lay},x∈J->y∈J->x.at_=y.at_->x=y
 | [],_,_,_,hx,_,_=>by cases hx
 | e :: J,h,x,y,hx,hy,hxy=>by
  obtain ⟨h1,h2⟩:=Jf.1 h;rcases J1.1 hx with rfl | hx' <;> rcases J1.1 hy with rfl | hy'
  ·rfl
  ·exact absurd (JS.2 ⟨y,hy',hxy.symm⟩) h1
  ·exact absurd (JS.2 ⟨x,hx',hxy⟩) h1
  ·exact at_inj h2 hx' hy' hxy
theorem rAny_with_many {n g : Nat} {J : List Lay} {Q : Exit -> Act -> World -> Prop} {Lq : Act -> Prop} {l : List Oper} {w0 : World} (hsel : Region.noSelect ops = true)
    (hg:l.length=g) (hl:∀ k,l[k]? = ops[n+k]?)
    (hJ:∀ e,e∈J->∃ oj,ops[e.at_]? = some oj/\oj.dst=some e.slot/\oj.after=#[]/\oj.guard=none/\∀ (ρ:Operand->Value) (w:World),(execOp ρ oj).run P w=.ok (.value (.pointer (some ⟨w,0,none⟩))) (w.alloc (.cells e.cells.toArray e.type)))
    (hJs:(J.map Lay.slot).Nodup) (hJa:∀ e,e∈J->∀ e',e'∈J->e.at_=e'.at_->e=e') (hB:manyB ops n J)
    (hs:Region.sinkB md ops n) (hc:Region.chainB md ops n) (hn:n < ops.size)
    (hC:∀ w',Below w0 w0 w'->C w')
    (hQ:∀ a w β,Laid w0 J (J.map Lay.slot) β w->Lq a->wpList P ops Q l (putD β (J.map Lay.slot) a) w) :
    ∀ (m f:Nat) (K:List Lay) (done:List Tmp) (β:Tmp->Nat) (listed:Array Bool) (a:Act) (w:World),m=f+K.length->(∀ e,e∈K->e∈J)->(done ++ K.map Lay.slot).Perm (J.map Lay.slot) ->
     (∀ e,e∈K->listed.getD e.at_ true=false)->(∀ e,e∈J->e.slot∈done->listed.getD e.at_ true=true)->(K.map Lay.slot).Nodup ->
     HeadInv md ops n listed->Laid w0 J done β w ->
     rAny P md ops C n (λlisted' a'=>Region.seqB md ops g n listed'=true/\Lq a') f (setAll K listed) a->wpAny P md ops Q (m+g) listed (putD β done a) w:=by
 have spec:=tL hB;intro m;induction m with
 | zero=>
  intro f K done β listed a w hm hKJ hperm hKl hdl hKn inv hw h;have hf:f=0:=by omega
  have hK:K=[]:=Ju.1 (by omega);subst hf hK;subst hg;rw [QJ];simp only [Qw,Ji] at hperm;refine wpAny_of_seq l n listed _ w hl h.1 ?_;rw [putD_perm hperm];refine hQ a w β ⟨hw.below,λe he hd=>hw.box e he (hperm.mem_iff.2 hd),λx hx y hy=>hw.apart x (hperm.mem_iff.2 hx) y (hperm.mem_iff.2 hy)⟩ h.2
 | succ m ih=>
  intro f K done β listed a w hm hKJ hperm hKl hdl hKn inv hw h;rw [show m+1+g=(m+g)+1 by omega];have hnd:(done ++ K.map Lay.slot).Nodup:=hperm.nodup_iff.2 hJs
  -- who may come up now
  have hne:Region.ready md ops listed≠[]:=by
   cases K with
   | nil=>
    cases f with
    | zero=>simp at hm
    | succ f=>exact h.1
   | cons e K'=>
    obtain ⟨oj,hoj,_,haft,_⟩:=hJ e (hKJ e JT);intro h0;have:e.at_∈Region.ready md ops listed:=mem_ready.2 ⟨hKl e JT,oj,hoj,λx hx=>(by rw [haft] at hx;simp at hx)⟩;rw [h0] at this;cases this
  refine ⟨λh0=>absurd h0 hne,λi hi=>?_⟩;have hiun:=(mem_ready.1 hi).1;by_cases hiK:∃ e,e∈K/\e.at_=i
  ·-- a block is laid
   obtain ⟨e,he,rfl⟩:=hiK;obtain ⟨K1,K2,rfl⟩:=Qy he;obtain ⟨oj,hoj,hd,haft,hgd,hrun⟩:=hJ e (hKJ e he);have hlt:=(spec e (hKJ e he)).1;unfold wpOp;simp only [hoj];have hwant:Region.wanted oj (yielded ops (putD β done a).tmps)=true:=by simp [Region.wanted,hgd]
   rw [JH hwant];refine .inl ?_;unfold Oper.wp;rw [hrun,Oper.upon_value,hd];have hnotdone:e.slot ∉ done:=λhin=>by
    have:=(Jg.1 hnd).2.2 e.slot hin e.slot (by simp);exact this rfl
   have e1:((putD β done a).put (some e.slot) (.pointer (some ⟨w,0,none⟩)))=putD (λx=>if x=e.slot then w.heap.size else β x) (e.slot :: done) a:=by
    simp only [putD,JH];rw [tE (β:=β) (β':=λx=>if x=e.slot then w.heap.size else β x) (λd hdn=>(J0 (λhh:d=e.slot=>hnotdone (hh▸hdn))).symm)]
   rw [e1];rw [setAll_app] at h;refine ih f (K1 ++ K2) (e.slot :: done) _ _ a _ (by simp at hm ⊢;omega) (λx hx=>hKJ x (by simp at hx ⊢;rcases hx with hx | hx <;> simp [hx])) ?_ ?_ ?_ ?_ (inv.set hi hlt) ?_ h
   ·refine List.Perm.trans ?_ hperm;simp only [QC,Jm,Jw];rw [<-JL,<-JL];exact List.perm_middle.symm
   ·intro x hx;have hxK:x∈K1 ++ e :: K2:=by simp at hx ⊢;rcases hx with hx | hx <;> simp [hx]
    have hxe:x.at_≠e.at_:=λhh=>by
     have hxx:=hJa x (hKJ x hxK) e (hKJ e he) hh;subst hxx;simp only [QC,Jm] at hKn;have h3:=(Jg.1 hKn);rcases JM.1 hx with hx | hx
     ·exact h3.2.2 x.slot (JS.2 ⟨x,hx,rfl⟩) x.slot JT rfl
     ·exact (Jf.1 h3.2.1).1 (JS.2 ⟨x,hx,rfl⟩)
    rw [getD_set_ne true (Ne.symm hxe)];exact hKl x hxK
   ·intro x hx hxd;rcases J1.1 hxd with hxs | hxs
    ·have hxx : x = e := by
       have hp:(J.map Lay.slot).Nodup:=hJs;exact uD hp hx (hKJ e he) hxs
     subst hxx;have:x.at_ < listed.size:=by rw [inv.size];omega
     simp [this]
    ·have:=hdl x hx hxs;by_cases hxe:x.at_=e.at_
     ·rw [hxe] at this;rw [this] at hiun;cases hiun
     ·rw [getD_set_ne true (Ne.symm hxe)];exact this
   ·refine hKn.sublist ?_;simp only [QC,Jm];exact List.Sublist.append_left (List.sublist_cons_self _ _) _
   ·refine ⟨hw.below.alloc hw.below.size _,λx hx hxd=>?_,λx hx y hy hxy=>?_⟩
    ·rcases J1.1 hxd with hxs | hxs
     ·have hxx:x=e:=uD hJs hx (hKJ e he) hxs;subst hxx;simp only [JH];exact ⟨hw.below.size,Box.new rfl⟩
     ·have hxe:x.slot≠e.slot:=λhh=>hnotdone (hh▸hxs);simp only [J0 hxe];exact ⟨(hw.box x hx hxs).1,(hw.box x hx hxs).2.old _⟩
    ·have lt : ∀ z, z ∈ done -> β z < w.heap.size := λz hz => by
       have hzJ:z∈J.map Lay.slot:=hperm.mem_iff.1 (Jk _ hz);obtain ⟨ez,hez,rfl⟩:=JS.1 hzJ;exact (hw.box ez hez hz).2.lt
     rcases J1.1 hx with hx | hx <;> rcases J1.1 hy with hy | hy
     ·exact absurd (hx.trans hy.symm) hxy
     ·subst hx;simp only [JH,J0 (λhh=>hxy hh.symm:¬ y=e.slot)];have:=lt y hy;omega
     ·subst hy;simp only [JH,J0 hxy];have:=lt x hx;omega
     ·simp only [J0 (λhh:x=e.slot=>hnotdone (hh▸hx)),J0 (λhh:y=e.slot=>hnotdone (hh▸hy))];exact hw.apart x hx y hy hxy
  ·-- another one
   have hiK':∀ e,e∈K->e.at_≠i:=λe he hh=>hiK ⟨e,he,hh⟩;have hir:=ready_setAll (K:=K) hi hiK';cases f with
   | zero=>
    have h1:=seqB_ready h.1 i hir;cases K with
    | nil=>simp at hm
    | cons e K'=>
     exact absurd hi (tail_waits hs hc hn inv _ e.at_ rfl (spec e (hKJ e JT)).1 (hKl e JT) i h1)
   | succ f=>
    obtain ⟨hin,o,v,ho,hy,hK⟩:=h.2 i hir;have hnoJ:∀ e,e∈J->i≠e.at_:=λe he hh=>by
     rcases JM.1 (hperm.mem_iff.2 (JS.2 ⟨e,he,rfl⟩)) with hd | hd
     ·have:=hdl e he hd;rw [<-hh] at this;rw [this] at hiun;cases hiun
     ·obtain ⟨e',he',hs'⟩:=JS.1 hd;have:=uD hJs (hKJ e' he') he hs';subst this;exact hiK ⟨e',he',hh.symm⟩
    have hap:∀ d,d∈done->d ∉ o.looksAt ops/\o.dst≠some d:=λd hd=>by
     have hdJ:d∈J.map Lay.slot:=hperm.mem_iff.1 (Jk _ hd);obtain ⟨e,he,rfl⟩:=JS.1 hdJ;exact (spec e he).2 i o hin (hnoJ e he) ho
    have hy':rYields P ops C o v (putD β done a):=hy.same (YD (λcs b=>Region.noSelect_spec hsel i o cs b ho) (λd hd=>(hap d hd).1)) (jx (λd hd=>(hap d hd).1));refine yA ho (hC w hw.below) hy' λw' hw'=>?_;rw [<-Ys (λd hd=>(hap d hd).2)];refine ih f K done β _ _ w' (by omega) hKJ hperm (λe he=>by rw [getD_set_ne true (Ne.symm (hiK' e he))];exact hKl e he) (λe he hd=>by rw [getD_set_ne true (hnoJ e he)];exact hdl e he hd) hKn (inv.set hi hin) (hw.ext hw') ?_;rw [uy];exact hK
def dropIdx (js:List Nat):Nat->List Oper->List Oper
 | _,[]=>[]
 | i,o :: r=>if js.contains i=true then dropIdx js (i+1) r else o :: dropIdx js (i+1) r
theorem dropIdx_map (js:List Nat) (l:List Oper):∀ (n i:Nat),n=l.length - i->((List.range' i n).filter λk => !js.contains k).map (λk=>l.toArray[k]?)=(dropIdx js i (l.drop i)).map some:=by
 intro n;induction n with
 | zero=>intro i h;rw [VM (by omega)];rfl
 | succ n ih=>
  intro i h;have hi:i < l.length:=by omega
  rw [Q9 hi,List.range'_succ];simp only [dropIdx,List.filter_cons];have:=ih (i+1) (by omega);cases hc:js.contains i with
  | true=>simp only [Bool.not_true,QA,VT,VZ];exact this
  | false=>simp only [Bool.not_false,VZ,QA,VT,Jm,this];simp [hi]
theorem dropIdx_take (js:List Nat) (l:List Oper) (n:Nat) (hn:n<=l.length):((List.range n).filter λk => !js.contains k).map (λk=>l.toArray[k]?)=(dropIdx js 0 (l.take n)).map some:=by
 have h:=dropIdx_map js (l.take n) n 0 (by simp;omega);rw [QZ] at h;rw [<-h,List.range_eq_range'];refine List.map_congr_left λk hk=>?_;have:=(JZ.1 hk).1;simp at this;simp [this]
theorem zn {id : Nat} {Q : Exit -> Act -> World -> Prop} {a : Act} {w : World} {l : List Oper} (n : Nat) (J : List Lay)
    (hJ:∀ e,e∈J->∃ oj,l.toArray[e.at_]? = some oj/\oj.dst=some e.slot/\oj.after=#[]/\oj.guard=none/\∀ (ρ:Operand->Value) (w:World),(execOp ρ oj).run P w=.ok (.value (.pointer (some ⟨w,0,none⟩))) (w.alloc (.cells e.cells.toArray e.type)))
    (hm:P.follows .mixedOrders) (hJs:(J.map Lay.slot).Nodup) (hJa:(J.map Lay.at_).Nodup)
    (hB:(Region.noSelect l.toArray && decide (n < l.toArray.size) && Region.sinkB .any l.toArray n && Region.chainB .any l.toArray n && manyB l.toArray n J &&
     orderB .any l.toArray n (l.toArray.size - n) ((List.range n).filter λi => !(J.map Lay.at_).contains i) (setAll J (Array.replicate l.toArray.size false)))=true)
    (hcount:((List.range n).filter λi => !(J.map Lay.at_).contains i).length+J.length=n)
    (hC:∀ w',Below w w w'->C w')
    (h:rWalk P l.toArray C (λa'=>∀ w' β,Laid w J (J.map Lay.slot) β w'->wpList P l.toArray Q (l.drop n) (putD β (J.map Lay.slot) a') w') (dropIdx (J.map Lay.at_) 0 (l.take n)) a) :
    (Code.region id l.toArray true).wp P Q a w:=by
 simp only [JB,JA] at hB;obtain ⟨⟨⟨⟨⟨hsel,hn⟩,hs⟩,hc⟩,hmB⟩,ho⟩:=hB;have spec:=tL hmB;have hJa':∀ e,e∈J->∀ e',e'∈J->e.at_=e'.at_->e=e':=λe he e' he' heq=>at_inj hJa he he' heq
 -- the laying operations may come up in any order from the start
 have inv1:∀ listed,HeadInv .any l.toArray n listed->TailWaits .any l.toArray n listed:=λlisted inv i hi hun=>tail_waits hs hc hn inv _ i rfl hi hun;have invJ:∀ K:List Lay,(∀ e,e∈K->e∈J)->(K.map Lay.at_).Nodup->HeadInv .any l.toArray n (setAll K (Array.replicate l.toArray.size false)):=by
  intro K;induction K with
  | nil=>intro _ _;exact headInv0
  | cons e K ih=>
   intro hK hnd;have hnd':=Jf.1 hnd;have:=ih (λx hx=>hK x (JN _ hx)) hnd'.2;obtain ⟨oj,hoj,_,haft,_⟩:=hJ e (hK e JT);have hlt:=(spec e (hK e JT)).1;refine this.set (mem_ready.2 ⟨?_,oj,hoj,λx hx=>(by rw [haft] at hx;simp at hx)⟩) hlt;rw [setAll_ne (λx hx hh=>hnd'.1 (JS.2 ⟨x,hx,hh⟩))];exact getD_in (by simp at hn ⊢;omega) (getD_replicate_false _ _)
 have H:=yy (md:=.any) (g:=l.toArray.size - n) hsel (HeadInv .any l.toArray n) (λlisted j inv hj hjn=>inv.set hj hjn) inv1 _ _ _ a (dropIdx_take (J.map Lay.at_) l n (by simp at hn;omega)) (invJ J (λ_ h=>h) hJa) ho h;refine wp_region_any hm ?_;have:=rAny_with_many (md:=.any) (Q:=Q) (l:=l.drop n) (w0:=w) (g:=l.toArray.size - n) hsel (by simp) (λj=>by simp [Qr]) hJ hJs hJa' hmB hs hc hn hC
  (λa' w' β hL hl=>hl w' β hL) _ _ J [] (λ_=>0) (Array.replicate l.toArray.size false) a { w with drawn:=w.drawn+1 } rfl (λ_ h=>h) (by simp)
  (λe he=>getD_in (by simp;have:=(spec e he).1;simp at hn;omega) (getD_replicate_false _ _)) (λe _ hd=>(by cases hd)) hJs headInv0
  ⟨⟨rfl,rfl,rfl,JJ _,λ_ _=>rfl⟩,(λe _ hd=>(by cases hd)),(λx hx=>(by cases hx))⟩ H
 rw [hcount,show n+(l.toArray.size - n)=l.toArray.size by omega] at this;exact this
end
section
variable {P:Program} {ops:Array Oper} {md:Region.Mode} {C:World->Prop}
def backB (md:Region.Mode) (ops:Array Oper) (n:Nat):Bool:=
 (List.range n).all λi=>match ops[i]? with
  | some o=>o.after.all λe => !Region.binds md e || decide (e.on < i)
  | none=>false
theorem backB_spec {n i:Nat} (h:backB md ops n) (hi:i < n):∃ o,ops[i]? = some o/\∀ e∈o.after,Region.binds md e=true->e.on < i:=by
 have h1:=Qg.1 h i (Q7.2 hi);cases ho:ops[i]? with
 | none=>rw [ho] at h1;cases h1
 | some o=>
  rw [ho] at h1;refine ⟨o,rfl,λe he hb=>?_⟩;have h2:=Array.all_eq_true_iff_forall_mem.1 h1 e he
  simpa [hb] using h2
theorem ux {n:Nat} {listed:Array Bool} (h:backB md ops n) (hsz:listed.size=ops.size) (hn:n<=ops.size):∀ (i:Nat),i < n->listed.getD i true=false->∃ k,k<=i/\k∈Region.ready md ops listed:=by
 intro i;induction i using Nat.strongRecOn with
 | _ i ih=>
  intro hi hun;obtain ⟨o,ho,hall⟩:=backB_spec h hi;by_cases hr:∀ e∈o.after,Region.binds md e=true->listed.getD e.on false=true
  ·exact ⟨i,JJ _,mem_ready.2 ⟨hun,o,ho,hr⟩⟩
  ·have : ∃ e ∈ o.after, Region.binds md e = true /\ listed.getD e.on false = false := by
     apply QL;intro hno;refine hr λe he hb=>?_;cases hv:listed.getD e.on false with
     | true=>rfl
     | false=>exact absurd ⟨e,he,hb,hv⟩ hno
   obtain ⟨e,he,hb,hv⟩:=this;have hlt:=hall e he hb;obtain ⟨k,hk,hkr⟩:=ih e.on hlt (by omega) (getD_in (by omega) hv);exact ⟨k,by omega,hkr⟩
theorem Zm {n t : Nat} {u : Value} {L : Array Bool -> Act -> Prop} (hL : ∀ l a, L l a -> a.eval (.tmp t) = u) :
    ∀ (f:Nat) (listed:Array Bool) (a:Act),(∀ i o,i < n->ops[i]? = some o->listed.getD i true=false->o.dst≠some t)->rAny P md ops C n L f listed a->a.eval (.tmp t)=u
 | 0,listed,a,_,h=>hL _ _ h
 | f+1,listed,a,hw,h=>by
  obtain ⟨hne,hall⟩:=h;obtain ⟨i,hi⟩:=VY _ hne;obtain ⟨hin,o,v,ho,_,hK⟩:=hall i hi;have h1:=Zm hL f _ _ (λk ok hk hok hun=>by
   by_cases hik:i=k
   ·subst hik;have:ok=o:=JU (hok.symm.trans ho);subst this;exact hw i ok hin ho (mem_ready.1 hi).1
   ·rw [getD_set_ne true hik] at hun;exact hw k ok hk hok hun) hK
  rw [Act.eval_put (λd hd hx=>by cases hx;exact hw i o hin ho (mem_ready.1 hi).1 hd)] at h1;exact h1
def writersB (md:Region.Mode) (ops:Array Oper) (n s t:Nat):Bool:=
 (List.range n).all λi=>match ops[i]? with
  | some o=>o.dst != some t || Region.waitsFor md ops s i
  | none=>true
structure Late (P:Program) (md:Region.Mode) (ops:Array Oper) (n j s:Nat) (d t:Tmp) (T:TypeId) (cs us:Array Value) (u:Value) (oj os:Oper) (eff:Nat->World->World):Prop where
 hsel:Region.noSelect ops=true
 hn:n < ops.size
 hjn:j < n
 hsn:s < n
 hjs:j≠s
 hsink:Region.sinkB md ops n=true
 hchain:Region.chainB md ops n=true
 hback:backB md ops n=true
 hoj:ops[j]? = some oj
 hos:ops[s]? = some os
 hd:oj.dst=some d
 hafter:oj.after=#[]
 hguard:oj.guard=none
 hsd:os.dst=none
 hsg:os.guard=none
 hsj:Region.waitsFor md ops s j=true
 hdt:d≠t
 hwr:writersB md ops n s t=true
 hrun:∀ (ρ:Operand->Value) (w:World),(execOp ρ oj).run P w=.ok (.value (.pointer (some ⟨w,0,none⟩))) (w.alloc (.cells cs T))
 hst:∀ (ρ:Operand->Value) (w:World) (b:Nat),ρ (.tmp d)=.pointer (some ⟨b,0,none⟩)->ρ (.tmp t)=u->w.heap[b]? = some (.cells cs T)->(execOp ρ os).run P w=.ok .skip (eff b w)
 heff:∀ (w:World) (b:Nat),w.heap[b]? = some (.cells cs T)->(eff b w).heap[b]? = some (.cells us T)/\(∀ B,B<=b->Below B w (eff b w))
def quietApartB (ops:Array Oper) (n j s:Nat) (d:Tmp):Bool:=
 (List.range n).all λi=>i == j || i == s || match ops[i]? with
  | some o => !(o.looksAt ops).contains d && o.dst != some d
  | none=>true
theorem qF {n j s d:Nat} (h:quietApartB ops n j s d):∀ i o,i < n->¬ (i=j\/i=s)->ops[i]? = some o->(∀ d',some d=some d'->d' ∉ o.looksAt ops)/\(∀ d',some d=some d'->o.dst≠some d'):=by
 intro i o hi hj ho;have h1:=Qg.1 h i (Q7.2 hi);have hj1:i≠j:=λe=>hj (.inl e);have hj2:i≠s:=λe=>hj (.inr e);simp only [ho,V0,beq_iff_eq,hj1,hj2,false_or,JB,V4,UU] at h1;refine ⟨λd' hd=>?_,λd' hd=>?_⟩
 ·cases hd;simpa using h1.1
 ·cases hd;exact h1.2
variable {n j s g:Nat} {d t:Tmp} {T:TypeId} {cs us:Array Value} {u:Value} {oj os:Oper} {eff:Nat->World->World} {Q:Exit->Act->World->Prop} {Lq:Act->Prop} {l:List Oper} {w0:World}
theorem late_tail (K:Late P md ops n j s d t T cs us u oj os eff) (hqa:quietApartB ops n j s d) (hg:l.length=g) (hl:∀ k,l[k]? = ops[n+k]?) (hC:∀ w',Below w0 w0 w'->C w') (hQ:∀ a w b,Below w0 w0 w->w0.heap.size<=b->b < w.heap.size->w.heap[b]? = some (.cells us T)->Lq a->wpList P ops Q l (a.put (some d) (.pointer (some ⟨b,0,none⟩))) w) (f:Nat) (listed:Array Bool) (a:Act) (w:World) (b:Nat) (hw:Below w0 w0 w) (hb:w0.heap.size<=b) (hbl:b < w.heap.size) (hbx:w.heap[b]? = some (.cells us T)) (hlj:listed.getD j true) (hls:listed.getD s true) (h:rAny P md ops C n (λlisted' a'=>Region.seqB md ops g n listed'=true/\Lq a') f listed a):wpAny P md ops Q (f+g) listed (a.put (some d) (.pointer (some ⟨b,0,none⟩))) w:=
 yU (md:=md) (D:=λw'=>Below w0 w0 w'/\b < w'.heap.size/\w'.heap[b]? = some (.cells us T)) K.hsel hg hl (λw' h=>hC w' h.1)
  (λx y hx hy=>⟨Below.trans hx.1 (Below.mono hy hx.1.size),QN hx.2.1 hy.size,(hy.block _ hx.2.1).trans hx.2.2⟩) (λk=>k=j\/k=s) (qF hqa)
  (λa' w' hw' hl'=>hQ a' w' b hw'.1 hb hw'.2.1 hw'.2.2 hl') f listed a w ⟨hw,hbl,hbx⟩ (λk hk=>by rcases hk with rfl | rfl;exact hlj;exact hls) h
theorem eval_put_same (a:Act) (d:Tmp) (v:Value) (h:d < a.tmps.size):(a.put (some d) v).eval (.tmp d)=v:=by
 simp [Act.eval,Act.put,h]
theorem Yr (a:Act) (x:Option Tmp) (v:Value):(a.put x v).tmps.size=a.tmps.size:=by cases x <;> simp [Act.put]
theorem jy {o:Oper} (h:o.guard=none) (f:Nat->Option Bool):Region.wanted o f=true:=by simp [Region.wanted,h]
theorem late_one (K:Late P md ops n j s d t T cs us u oj os eff) (hqa:quietApartB ops n j s d) (hg:l.length=g) (hl:∀ k,l[k]? = ops[n+k]?) (hC:∀ w',Below w0 w0 w'->C w') (hLu:∀ a,Lq a->a.eval (.tmp t)=u) (hQ:∀ a w b,Below w0 w0 w->w0.heap.size<=b->b < w.heap.size->w.heap[b]? = some (.cells us T)->Lq a->wpList P ops Q l (a.put (some d) (.pointer (some ⟨b,0,none⟩))) w):∀ (f:Nat) (listed:Array Bool) (a:Act) (w:World) (b:Nat),d < a.tmps.size->Below w0 w0 w->w0.heap.size<=b->b < w.heap.size->w.heap[b]? = some (.cells cs T)->listed.getD j true=true->listed.getD s true=false->HeadInv md ops n listed->rAny P md ops C n (λlisted' a'=>Region.seqB md ops g n listed'=true/\Lq a') f (listed.setIfInBounds s true) a->wpAny P md ops Q (f+g+1) listed (a.put (some d) (.pointer (some ⟨b,0,none⟩))) w:=by
 have hssz:s < ops.size:=Nat.lt_trans K.hsn K.hn
 -- the store,whenever it comes
 have store : ∀ (f : Nat) (listed : Array Bool) (a : Act) (w : World) (b : Nat), d < a.tmps.size -> Below w0 w0 w -> w0.heap.size <= b -> b < w.heap.size -> w.heap[b]? = some (.cells cs T) ->
     listed.getD j true=true->listed.getD s true=false->HeadInv md ops n listed->s∈Region.ready md ops listed ->
     rAny P md ops C n (λlisted' a'=>Region.seqB md ops g n listed'=true/\Lq a') f (listed.setIfInBounds s true) a ->
     wpOp P ops Q s (wpAny P md ops Q (f+g) (listed.setIfInBounds s true)) (a.put (some d) (.pointer (some ⟨b,0,none⟩))) w:=by
  intro f listed a w b hd hw hb hbl hbx hlj hls inv hsr h;have hev:a.eval (.tmp t)=u:=by
   refine Zm (λl' a' hL=>hLu a' hL.2) f _ a (λi o hin ho hun hdst=>?_) h;have h1:=Qg.1 K.hwr i (Q7.2 hin);simp only [ho,hdst,bne_self_eq_false,Bool.false_or] at h1;obtain ⟨o',ho',e,he,hbi,hon⟩:=Region.waitsFor_spec h1;obtain ⟨_,o'',ho'',hall⟩:=mem_ready.1 hsr;have:o'=o'':=JU (ho'.symm.trans ho'');subst this;have h2:=hall e he hbi;rw [hon] at h2;by_cases his:s=i
   ·subst his;have:o=os:=JU (ho.symm.trans K.hos);subst this;rw [K.hsd] at hdst;cases hdst
   ·rw [getD_set_ne true his] at hun;rw [getD_both hun] at h2;cases h2
  unfold wpOp;simp only [K.hos];rw [JH (jy K.hsg _)];refine .inl ?_;unfold Oper.wp;have e2:(a.put (some d) (.pointer (some ⟨b,0,none⟩))).eval (.tmp t)=u:=by
   rw [Act.eval_put (λd' hd' hx=>by cases hd';cases hx;exact K.hdt rfl)];exact hev
  rw [K.hst _ w b (eval_put_same a d _ hd) e2 hbx,Oper.upon_skip,K.hsd];obtain ⟨hu1,hu2⟩:=K.heff w b hbx;have hbe:=hu2 w0.heap.size hb;exact late_tail K hqa hg hl hC hQ f _ a _ b (hw.trans hbe) hb (QN hbl hbe.size) hu1 (by
   by_cases hsj:s=j
   ·exact absurd hsj.symm K.hjs
   ·rw [getD_set_ne true hsj];exact hlj) (by simp [inv.size,hssz]) h
 have head:∀ (listed:Array Bool),HeadInv md ops n listed->listed.getD s true=false->∀ i,i∈Region.ready md ops listed->i < n:=λlisted inv hls i hi=>by
  rcases Qb i n with h | h
  ·exact h
  ·exact absurd hi (tail_waits K.hsink K.hchain K.hn inv _ s rfl K.hsn hls i h)
 intro f;induction f with
 | zero=>
  intro listed a w b hd hw hb hbl hbx hlj hls inv h;obtain ⟨k,hk,hkr⟩:=ux K.hback inv.size (UJ K.hn) s K.hsn hls;refine ⟨λh0=>(by rw [h0] at hkr;cases hkr),λi hi=>?_⟩;by_cases his:i=s
  ·subst his;exact store 0 listed a w b hd hw hb hbl hbx hlj hls inv hi h
  ·have h1:=seqB_ready h.1 i (ready_mono hi his);have:=head listed inv hls i hi;omega
 | succ f ih=>
  intro listed a w b hd hw hb hbl hbx hlj hls inv h;obtain ⟨k,hk,hkr⟩:=ux K.hback inv.size (UJ K.hn) s K.hsn hls;refine ⟨λh0=>(by rw [h0] at hkr;cases hkr),λi hi=>?_⟩;by_cases his:i=s
  ·subst his;exact store (f+1) listed a w b hd hw hb hbl hbx hlj hls inv hi h
  ·obtain ⟨hin,o,v,ho,hy,hK⟩:=h.2 i (ready_mono hi his);have hij:i≠j:=λe=>by subst e;rw [(mem_ready.1 hi).1] at hlj;cases hlj
   obtain ⟨p1,p2⟩:=qF hqa i o hin (by rintro (e | e);exact hij e;exact his e) ho;have hy':rYields P ops C o v (a.put (some d) (.pointer (some ⟨b,0,none⟩))):=hy.same (execOp_put o (λc x=>Region.noSelect_spec K.hsel i o c x ho) a _ _ p1) (wanted_put o a _ _ p1);refine yA ho (hC w hw) hy' λw' hw'=>?_;rw [Act.put_comm a _ v p2,show f+1+g=f+g+1 by omega];refine ih _ _ w' b (by rw [Yr];exact hd) (Ext.trans hw hw') hb (QN hbl hw'.size) ((hw'.block _ hbl).trans hbx) (by rw [getD_set_ne true hij];exact hlj) (by rw [getD_set_ne true his];exact hls) (inv.set hi hin) ?_;rw [QS _ _ his];exact hK
theorem Zw (K:Late P md ops n j s d t T cs us u oj os eff) (hqa:quietApartB ops n j s d) (hg:l.length=g) (hl:∀ k,l[k]? = ops[n+k]?) (hC:∀ w',Below w0 w0 w'->C w') (hLu:∀ a,Lq a->a.eval (.tmp t)=u) (hQ:∀ a w b,Below w0 w0 w->w0.heap.size<=b->b < w.heap.size->w.heap[b]? = some (.cells us T)->Lq a->wpList P ops Q l (a.put (some d) (.pointer (some ⟨b,0,none⟩))) w):∀ (f:Nat) (listed:Array Bool) (a:Act) (w:World),d < a.tmps.size->Below w0 w0 w->listed.getD j true=false->listed.getD s true=false->HeadInv md ops n listed->rAny P md ops C n (λlisted' a'=>Region.seqB md ops g n listed'=true/\Lq a') f ((listed.setIfInBounds j true).setIfInBounds s true) a->wpAny P md ops Q (f+g+1+1) listed a w:=by
 have hjsz:j < ops.size:=Nat.lt_trans K.hjn K.hn
 have lay : ∀ (f : Nat) (listed : Array Bool) (a : Act) (w : World), d < a.tmps.size -> Below w0 w0 w -> listed.getD j true = false -> listed.getD s true = false -> HeadInv md ops n listed -> j ∈ Region.ready md ops listed ->
     rAny P md ops C n (λlisted' a'=>Region.seqB md ops g n listed'=true/\Lq a') f ((listed.setIfInBounds j true).setIfInBounds s true) a ->
     wpOp P ops Q j (wpAny P md ops Q (f+g+1) (listed.setIfInBounds j true)) a w:=by
  intro f listed a w hd hw hlj hls inv hjr h;unfold wpOp;simp only [K.hoj];rw [JH (jy K.hguard _)];refine .inl ?_;unfold Oper.wp;rw [K.hrun,Oper.upon_value,K.hd];exact late_one K hqa hg hl hC hLu hQ f _ a _ w.heap.size hd (hw.alloc hw.size _) hw.size (by simp) (heap_new _ _) (by simp [inv.size,hjsz]) (by rw [getD_set_ne true K.hjs];exact hls) (inv.set hjr K.hjn) h
 have notS:∀ (listed:Array Bool),listed.getD j true=false->s ∉ Region.ready md ops listed:=λlisted hlj hsr=>by
  obtain ⟨o',ho',e,he,hbi,hon⟩:=Region.waitsFor_spec K.hsj;obtain ⟨_,o'',ho'',hall⟩:=mem_ready.1 hsr;have:o'=o'':=JU (ho'.symm.trans ho'');subst this;have h2:=hall e he hbi;rw [hon,getD_both hlj] at h2;cases h2
 intro f;induction f with
 | zero=>
  intro listed a w hd hw hlj hls inv h;have hjr:j∈Region.ready md ops listed:=mem_ready.2 ⟨hlj,oj,K.hoj,λe he=>(by rw [K.hafter] at he;simp at he)⟩;refine ⟨λh0=>(by rw [h0] at hjr;cases hjr),λi hi=>?_⟩;by_cases hij:i=j
  ·subst hij;exact lay 0 listed a w hd hw hlj hls inv hi h
  ·have his:i≠s:=λe=>by subst e;exact notS listed hlj hi
   have h1:=seqB_ready h.1 i (ready_mono (ready_mono hi hij) his);exact absurd hi (tail_waits K.hsink K.hchain K.hn inv _ j rfl K.hjn hlj i h1)
 | succ f ih=>
  intro listed a w hd hw hlj hls inv h;have hjr:j∈Region.ready md ops listed:=mem_ready.2 ⟨hlj,oj,K.hoj,λe he=>(by rw [K.hafter] at he;simp at he)⟩;refine ⟨λh0=>(by rw [h0] at hjr;cases hjr),λi hi=>?_⟩;by_cases hij:i=j
  ·subst hij;exact lay (f+1) listed a w hd hw hlj hls inv hi h
  ·have his:i≠s:=λe=>by subst e;exact notS listed hlj hi
   obtain ⟨hin,o,v,ho,hy,hK⟩:=h.2 i (ready_mono (ready_mono hi hij) his);refine yA ho (hC w hw) hy λw' hw'=>?_;rw [show f+1+g+1=f+g+1+1 by omega];refine ih _ _ w' (by rw [Yr];exact hd) (Ext.trans hw hw') (by rw [getD_set_ne true hij];exact hlj) (by rw [getD_set_ne true his];exact hls) (inv.set hi hin) ?_;rw [QS _ _ hij,QS _ _ his];exact hK
def phaseB (md:Region.Mode) (ops:Array Oper) (n:Nat):Bool:=(List.range n).all λi=>Region.waitsFor md ops n i
theorem vL {listed:Array Bool} (hp:phaseB md ops n) (hc:Region.chainB md ops n) (ht:∀ t,n<=t->t < ops.size->listed.getD t true=false):TailWaits md ops n listed:=by
 intro i hi hun t hnt hr;obtain ⟨_,ot,hot,hall⟩:=mem_ready.1 hr;have htlt:t < ops.size:=(Q8.1 hot).1;by_cases htn:t=n
 ·subst htn;obtain ⟨o',ho',e,he,hb,hon⟩:=Region.waitsFor_spec (Qg.1 hp i (Q7.2 hi));have:o'=ot:=JU (ho'.symm.trans hot);subst this;have h2:=hall e he hb;rw [hon,getD_both hun] at h2;cases h2
 ·have h1:=Qg.1 hc t (Q7.2 htlt);simp only [V0,JA] at h1;rcases h1 with h1 | h1
  ·omega
  ·obtain ⟨o',ho',e,he,hb,hon⟩:=Region.waitsFor_spec h1;have:o'=ot:=JU (ho'.symm.trans hot);subst this;have h2:=hall e he hb;rw [hon,getD_both (ht (t - 1) (by omega) (by omega))] at h2;cases h2
def lateB (md:Region.Mode) (ops:Array Oper) (n j s:Nat) (d t:Tmp):Bool:=
 Region.noSelect ops && decide (n < ops.size) && decide (j < n) && decide (s < n) && decide (j≠s) && decide (d≠t) && Region.sinkB md ops n && Region.chainB md ops n && phaseB md ops n && backB md ops n && Region.waitsFor md ops s j && writersB md ops n s t && quietApartB ops n j s d &&
 orderB md ops n (ops.size - n) ((List.range n).filter λi=>i != j && i != s) (((Array.replicate ops.size false).setIfInBounds j true).setIfInBounds s true)
end
def eff2 (c0 c1:Value) (b:Nat) (w:World):World:=(w.setCell ⟨b,0,none⟩ c0).setCell ⟨b,1,none⟩ c1
theorem eff2_spec {c0 c1 z0 z1:Value} {T:TypeId} (w:World) (b:Nat) (h:w.heap[b]? = some (.cells #[z0,z1] T)):(eff2 c0 c1 b w).heap[b]? = some (.cells #[c0,c1] T)/\(∀ B,B<=b->Below B w (eff2 c0 c1 b w)):=by
 have B0:Box w b [z0,z1] T:=h;exact ⟨(B0.set 0 c0).set 1 c1,λB hB=>((Below.refl B w).setCell hB _).setCell hB _⟩
theorem YK {n j s:Nat} (hj:j < n) (hs:s < n) (hjs:j≠s):((List.range n).filter λi=>i != j && i != s).length+1+1=n:=by
 have h1:∀ (l:List Nat) (x:Nat),l.Nodup->x∈l->(l.filter λi=>i != x).length+1=l.length:=by
  intro l;induction l with
  | nil=>intro x _ hx;cases hx
  | cons y l ih=>
   intro x hnd hx;by_cases hxy:y=x
   ·subst hxy;have hno:y ∉ l:=(Jf.1 hnd).1;have:l.filter (λi=>i != y)=l:=Qv.2 λz hz=>by
     simp only [UU,ne_eq];rintro rfl;exact hno hz
    simp [this]
   ·have hx2 : x ∈ l := by
      rcases J1.1 hx with h | h
      ·exact absurd h.symm hxy
      ·exact h
    have:=ih x (Jf.1 hnd).2 hx2;rw [Jo (by simpa using hxy)];simp only [JW];omega
 have e:((List.range n).filter λi=>i != j && i != s)=((List.range n).filter λi=>i != j).filter λi=>i != s:=by
  rw [UI];congr 1;funext i;exact Bool.and_comm _ _
 rw [e];have a1:=h1 (List.range n) j List.nodup_range (Q7.2 hj);have a2:=h1 ((List.range n).filter λi=>i != j) s (List.nodup_range.filter _) (JZ.2 ⟨Q7.2 hs,by simpa using Ne.symm hjs⟩);rw [Vc] at a1;omega
theorem wp_region_late {P : Program} {C : World -> Prop} {id : Nat} {Q : Exit -> Act -> World -> Prop} {a : Act} {w : World} {l hd : List Oper} (n j s : Nat) (d t : Tmp) {T : TypeId} {z0 z1 : Value} (c0 c1 u : Value) {oj os : Oper}
    (hoj:l.toArray[j]? = some oj) (hos:l.toArray[s]? = some os) (hjd:oj.dst=some d) (hafter:oj.after=#[]) (hguard:oj.guard=none) (hsd:os.dst=none) (hsg:os.guard=none)
    (hdsz:d < a.tmps.size)
    (hrun:∀ (ρ:Operand->Value) (w:World),(execOp ρ oj).run P w=.ok (.value (.pointer (some ⟨w,0,none⟩))) (w.alloc (.cells #[z0,z1] T)))
    (hm:P.follows .mixedOrders) (hB:lateB .any l.toArray n j s d t)
    (hhd:((List.range n).filter λi=>i != j && i != s).map (λi=>l.toArray[i]?)=hd.map some)
    (hC:∀ w',Below w w w'->C w')
    (h:rWalk P l.toArray C (λa'=>a'.eval (.tmp t)=u/\∀ w' b,Below w w w'->w.heap.size<=b->b < w'.heap.size->Box w' b [c0,c1] T->wpList P l.toArray Q (l.drop n) (a'.put (some d) (.pointer (some ⟨b,0,none⟩))) w') hd a)
    (hst:∀ (ρ:Operand->Value) (w:World) (b:Nat),ρ (.tmp d)=.pointer (some ⟨b,0,none⟩)->ρ (.tmp t)=u->Box w b [z0,z1] T->(execOp ρ os).run P w=.ok .skip (eff2 c0 c1 b w)) :
    (Code.region id l.toArray true).wp P Q a w:=by
 simp only [lateB,JB,JA] at hB;obtain ⟨⟨⟨⟨⟨⟨⟨⟨⟨⟨⟨⟨⟨hsel,hn⟩,hjn⟩,hsn⟩,hjs⟩,hdt⟩,hs⟩,hc⟩,hph⟩,hbk⟩,hsj⟩,hwr⟩,hqa⟩,ho⟩:=hB;have K:Late P .any l.toArray n j s d t T #[z0,z1] #[c0,c1] u oj os (eff2 c0 c1):=
  ⟨hsel,hn,hjn,hsn,hjs,hs,hc,hbk,hoj,hos,hjd,hafter,hguard,hsd,hsg,hsj,hdt,hwr,hrun,hst,λw b h=>eff2_spec w b h⟩
 have hjz:(Array.replicate l.toArray.size false).getD j true=false:=getD_in (by simp;simp at hn;omega) (getD_replicate_false _ _);have hsz:(Array.replicate l.toArray.size false).getD s true=false:=getD_in (by simp;simp at hn;omega) (getD_replicate_false _ _);have tl:∀ (m:Array Bool) (i:Nat),i < n->(m.size=l.toArray.size/\∀ t',n<=t'->t' < l.toArray.size->m.getD t' true=false)->((m.setIfInBounds i true).size=l.toArray.size/\∀ t',n<=t'->t' < l.toArray.size->(m.setIfInBounds i true).getD t' true=false):=
  λm i hi ⟨h1,h2⟩=>⟨by simpa using h1,λt' ht ht'=>by rw [getD_set_ne true (by omega)];exact h2 t' ht ht'⟩
 have i0:(Array.replicate l.toArray.size false).size=l.toArray.size/\∀ t',n<=t'->t' < l.toArray.size->(Array.replicate l.toArray.size false).getD t' true=false:=
  ⟨by simp,λt' _ ht'=>getD_in (by simpa using ht') (getD_replicate_false _ _)⟩
 have H:=yy (md:=.any) (g:=l.toArray.size - n) hsel (λm=>m.size=l.toArray.size/\∀ t',n<=t'->t' < l.toArray.size->m.getD t' true=false) (λm i hi _ hin=>tl m i hin hi) (λm hm=>vL hph hc hm.2)
  ((List.range n).filter λi=>i != j && i != s) hd _ a hhd (tl _ s hsn (tl _ j hjn i0)) ho h
 refine wp_region_any hm ?_;have R:=Zw (md:=.any) (Q:=Q) (l:=l.drop n) (w0:=w) K hqa (g:=l.toArray.size - n) (by simp) (λj=>by simp [Qr]) hC (λa' hl=>hl.1)
  (λa' w' b h1 h2 h3 h4 hl=>hl.2 w' b h1 h2 h3 h4) _ (Array.replicate l.toArray.size false) a { w with drawn:=w.drawn+1 } hdsz ⟨rfl,rfl,rfl,JJ _,λ_ _=>rfl⟩ hjz hsz headInv0 H
 have hcount:((List.range n).filter λi=>i != j && i != s).length+1+1=n:=YK hjn hsn hjs;rw [show ((List.range n).filter λi=>i != j && i != s).length+(l.toArray.size - n)+1+1=l.toArray.size by omega] at R;exact R
theorem Zk (m:Nat):((List.range (m+2)).filter λi=>i != m && i != m+1)=List.range m:=by
 rw [V9,V9,Qf,Qf];have h1:(List.range m).filter (λi=>i != m && i != m+1)=List.range m:=Qv.2 λz hz=>by
  have:=Q7.1 hz;simp;omega
 rw [h1];simp
theorem wp_region_late2 {P : Program} {C : World -> Prop} {id : Nat} {Q : Exit -> Act -> World -> Prop} {a : Act} {w : World} {l : List Oper} (m : Nat) (d t : Tmp) {T : TypeId} {z0 z1 : Value} (c0 c1 : Value) {oj os : Oper}
    (hoj:l.toArray[m]? = some oj) (hos:l.toArray[m+1]? = some os) (hjd:oj.dst=some d) (hafter:oj.after=#[]) (hguard:oj.guard=none) (hsd:os.dst=none) (hsg:os.guard=none)
    (hdsz:d < a.tmps.size)
    (hrun:∀ (ρ:Operand->Value) (w:World),(execOp ρ oj).run P w=.ok (.value (.pointer (some ⟨w,0,none⟩))) (w.alloc (.cells #[z0,z1] T)))
    (hm:P.follows .mixedOrders) (hB:lateB .any l.toArray (m+2) m (m+1) d t=true)
    (hC:∀ w',Below w w w'->C w')
    (h:rWalk P l.toArray C (λa'=>a'.eval (.tmp t)=.agg #[c0,c1]/\∀ w' b,Below w w w'->w.heap.size<=b->b < w'.heap.size->Box w' b [c0,c1] T->wpList P l.toArray Q (l.drop (m+2)) (a'.put (some d) (.pointer (some ⟨b,0,none⟩))) w') (l.take m) a)
    (hst:∀ (ρ:Operand->Value) (w:World) (b:Nat),ρ (.tmp d)=.pointer (some ⟨b,0,none⟩)->ρ (.tmp t)=.agg #[c0,c1]->Box w b [z0,z1] T->(execOp ρ os).run P w=.ok .skip (eff2 c0 c1 b w)) :
    (Code.region id l.toArray true).wp P Q a w:=by
 refine wp_region_late (hd:=l.take m) (m+2) m (m+1) d t c0 c1 _ hoj hos hjd hafter hguard hsd hsg hdsz hrun hm hB ?_ hC h hst;have hn:m+2 < l.length:=by
  simp only [lateB,JB,JA] at hB;have:=hB.1.1.1.1.1.1.1.1.1.1.1.1.2
  simpa using this
 rw [Zk];apply VI;intro j;simp only [VJ,QX];by_cases hj:j < m
 ·simp [hj,show j < l.length by omega]
 ·simp [hj]
end
end Go.Proofs.YthhcehmmglmlfaaGreat
