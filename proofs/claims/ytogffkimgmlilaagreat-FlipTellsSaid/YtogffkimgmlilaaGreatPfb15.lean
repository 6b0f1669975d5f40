/- Put together: Ord, RowK, Wal, WalA, WalB. -/
import Derived.Test.YtogffkimgmlilaaGreatPfb14
import Derived.Shelf.SlSortCmp.NoneTotal
import Derived.BigCall
set_option maxRecDepth 100000
set_option maxHeartbeats 8000000
set_option linter.all false
namespace Go.Proofs.YtogffkimgmlilaaGreat
open _root_.Go.Proofs.Tryz
section
open Go.RowKit Go.Sort
theorem zAv (p q:Pt):cmpP q p = -cmpP p q:=by
 unfold cmpP cmpN sgn;(repeat' split) <;> omega
theorem cmpP_eq0 {p q:Pt}:cmpP p q=0↔p=q:=by
 rw [Pt.eq_iff];unfold cmpP cmpN sgn;(repeat' split) <;> omega
theorem cmpP_lt {p q:Pt}:cmpP p q < 0↔p.x < q.x∨(p.x=q.x∧p.y < q.y):=by
 unfold cmpP cmpN sgn;(repeat' split) <;> omega
theorem zCr {p q r:Pt} (h1:cmpP p q < 0) (h2:cmpP q r < 0):cmpP p r < 0:=by
 rw [cmpP_lt] at *;omega
theorem zN8 (S T:Tri3):cmpT T S = -cmpT S T:=by
 unfold cmpT;rw [zAv S.A T.A,zAv S.B T.B,zAv S.C T.C];(repeat' split) <;> omega
theorem cmpT_eq0 {S T:Tri3}:cmpT S T=0↔S=T:=by
 rw [Tri3.eq_iff,←cmpP_eq0,←cmpP_eq0 (p:=S.B),←cmpP_eq0 (p:=S.C)];unfold cmpT;(repeat' split) <;> omega
theorem cmpT_lt {S T:Tri3}:cmpT S T < 0↔cmpP S.A T.A < 0∨(S.A=T.A∧(cmpP S.B T.B < 0∨(S.B=T.B∧cmpP S.C T.C < 0))):=by
 rw [←cmpP_eq0 (p:=S.A),←cmpP_eq0 (p:=S.B)];unfold cmpT;(repeat' split) <;> omega
theorem cmpT_trans {S T U:Tri3} (h1:cmpT S T < 0) (h2:cmpT T U < 0):cmpT S U < 0:=by
 rw [cmpT_lt] at *;rcases h1 with h1 | ⟨e1,h1⟩ <;> rcases h2 with h2 | ⟨e2,h2⟩
 ·exact .inl (zCr h1 h2)
 ·exact .inl (e2▸h1)
 ·exact .inl (e1▸h2)
 ·refine .inr ⟨e1.trans e2,?_⟩;rcases h1 with h1 | ⟨f1,h1⟩ <;> rcases h2 with h2 | ⟨f2,h2⟩
  ·exact .inl (zCr h1 h2)
  ·exact .inl (f2▸h1)
  ·exact .inl (f1▸h2)
  ·exact .inr ⟨f1.trans f2,zCr h1 h2⟩
structure Whole {α:Type} (c:α→α→Int):Prop where
 neg:∀ x y,c y x = -c x y
 eq0:∀ {x y},c x y=0↔x=y
 trans:∀ {x y z},c x y < 0→c y z < 0→c x z < 0
theorem wholeP:Whole cmpP:=⟨zAv,cmpP_eq0,zCr⟩
theorem wholeT:Whole cmpT:=⟨zN8,cmpT_eq0,cmpT_trans⟩
section
variable {α:Type} {c:α→α→Int}
theorem Whole.swo (W:Whole c):SWO (ltOf c) where
 irrefl x:=by unfold ltOf;have:=(W.eq0 (x:=x) (y:=x)).2 rfl;simp;omega
 trans x y z h1 h2:=by unfold ltOf at *;simp at *;exact W.trans h1 h2
 ntrans x y z h1 h2:=by
  unfold ltOf at *;simp at *;rcases jDi (c x z) 0 with h | h
  ·exfalso
   have n1:=W.neg x y;have n2:=W.neg y z;rcases jBo h1 with g1 | g1
   ·have:=W.trans (x:=y) (y:=x) (z:=z) (by omega) h;omega
   ·have e:=W.eq0.1 g1.symm;subst e;omega
  ·exact h
theorem Whole.one (W:Whole c):∀ x y,ltOf c x y=false→ltOf c y x=false→x=y:=fun x y h1 h2=>by
 unfold ltOf at *;simp at h1 h2;rw [W.neg x y] at h2;exact W.eq0.1 (by omega)
def srt (c:α→α→Int) (L:List α):List α:=L.mergeSort fun x y => !(ltOf c) y x
def InOrder (c:α→α→Int) (L:List α):Prop:=L.Pairwise fun x y=>c x y≤0
theorem srt_perm (L:List α):(srt c L).Perm L:=List.mergeSort_perm _ _
theorem Whole.le_trans (W:Whole c) {x y z:α} (h1:c x y≤0) (h2:c y z≤0):c x z≤0:=by
 rcases jBo h1 with g1 | g1
 ·rcases jBo h2 with g2 | g2
  ·have:=W.trans g1 g2;omega
  ·have e:=W.eq0.1 g2;subst e;exact h1
 ·have e:=W.eq0.1 g1;subst e;exact h2
theorem Whole.srt_order (W:Whole c) (L:List α):InOrder c (srt c L):=by
 have h:=List.pairwise_mergeSort (le:=fun x y => !(ltOf c) y x) (fun a b d h1 h2=>by
  unfold ltOf at *;simp at *;have n1:=W.neg a b;have n2:=W.neg b d;have n3:=W.neg a d;have:=W.le_trans (x:=a) (y:=b) (z:=d) (by omega) (by omega);omega) (fun a b=>by
  unfold ltOf;have:=W.neg a b;simp;omega) L
 refine h.imp fun {a b} h1=>?_;unfold ltOf at h1;simp at h1;have:=W.neg a b;omega
theorem Whole.unique (W:Whole c):∀ {L M:List α},L.Perm M→InOrder c L→InOrder c M→L=M
 | [],M,hp,_,_=>by rw [List.nil_perm.1 hp]
 | x :: L,M,hp,h1,h2=>by
  cases M with
  | nil=>exact absurd hp.length_eq (by simp)
  | cons y M=>
   unfold InOrder at *;rw [jBk] at h1 h2;have e:x=y:=by
    rcases jA1.1 (hp.mem_iff.1 (jAo)) with e | hx
    ·exact e
    ·rcases jA1.1 (hp.mem_iff.2 (jAo)) with e | hy
     ·exact e.symm
     ·have a1:=h1.1 y hy;have a2:=h2.1 x hx;have:=W.neg x y;exact W.eq0.1 (by omega)
   subst e;rw [Whole.unique W (hp.cons_inv) h1.2 h2.2]
theorem Whole.srt_eq (W:Whole c) {L M:List α} (hp:M.Perm L) (ho:InOrder c M):M=srt c L:=
 W.unique (hp.trans (srt_perm L).symm) ho (W.srt_order L)
theorem Whole.srt_of_perm (W:Whole c) {L M:List α} (hp:M.Perm L):srt c M=srt c L:=W.srt_eq ((srt_perm M).trans hp) (W.srt_order M)
end
end
section
open Go.RowKit Go.Sort Go.Lib Go.Shelf
section
variable {α:Type} {c:α→List Value} {k:Nat}
theorem zAf (hc:∀ x,(c x).length=k):∀ L:List α,(L.flatMap c).length=L.length * k
 | []=>by simp
 | x :: L=>by rw [jA5,jAa,hc,zAf hc L,jAm,jFc];omega
theorem zB6 (hc:∀ x,(c x).length=k):∀ (L:List α) (j i:Nat) (x:α),L[j]? = some x→i < k→(L.flatMap c)[j * k+i]? = (c x)[i]?
 | [],j,i,x,h,_=>by simp at h
 | y :: L,0,i,x,h,hi=>by
  simp at h;subst h;rw [jA5,Nat.zero_mul,jCa,jCu (by rw [hc];exact hi)]
 | y :: L,j+1,i,x,h,hi=>by
  rw [jA5,List.getElem?_append_right (by rw [hc,jFc];omega),hc];rw [show (j+1) * k+i - k=j * k+i by rw [jFc];omega];exact zB6 hc L j i x (by simpa using h) hi
theorem zD9 {w:World} {B:Nat} {T:TypeId} {v:Value} {L:List α} (hc:∀ x,(c x).length=k) (h:w.ownsRow B T k v L.length (L.flatMap c)):∃ a cap,v=.slice a L.length cap∧RowAt c k w a L:=by
 rcases h.2 with ⟨rfl,h0⟩ | ⟨g,cap,cur,rfl,hB,hb,h1,h2,h3,h4⟩
 ·have:L=[]:=jCe h0;subst this;exact ⟨none,0,rfl,RowAt.nil⟩
 ·refine ⟨some ⟨g,0,none⟩,cap,rfl,fun j x hj=>⟨_,rfl,(jBg.1 hb).1,fun i u hu=>?_⟩⟩;have hi:i < k:=by rw [←hc x];exact (jAj.1 hu).1
  have e:=zB6 hc L j i x hj hi;rw [hu,←h4,jBw] at e;split at e
  ·rw [Addr.add_lit,Addr.add_lit];simp only [World.cell?,hb,jCa]
   simpa using e
  ·cases e
end
section
variable {α:Type} [Inhabited α] {c:α→List Value} {k:Nat}
theorem zCx {w:World} {B g cap n:Nat} {T:TypeId} {L:List α} (hc:∀ x,(c x).length=k) (h:w.ownsRow B T k (.slice (some ⟨g,0,none⟩) n cap) L.length (L.flatMap c)):HoldsK c k w g 0 L.toArray∧g < w.heap.size:=by
 rcases h.2 with ⟨h0,_⟩ | ⟨g',cap',cur,h0,hB,hb,h1,h2,h3,h4⟩
 ·cases h0
 ·simp only [Value.slice.injEq,jCh,Addr.mk.injEq,jE8] at h0;obtain ⟨e1,e2,e3⟩:=h0;subst e1 e3;refine ⟨fun t ht=>⟨?_,by simp [World.frozen?,hb]⟩,(jBg.1 hb).1⟩;have ht':t < L.length * k:=by simpa using ht
  rw [get_flatK _ _ _ _ (by simpa using ht')]
  have k0 : 0 < k := by rcases jE3 k with h | h; · subst h; simp at ht'
                        ·exact h
  have hj:t / k < L.length:=by rwa [jEn k0]
  have hi:t % k < k:=Nat.mod_lt _ k0;have e:=zB6 hc L (t / k) (t % k) L[t / k] (jA8 hj) hi;rw [show t / k * k+t % k=t by rw [jEg];exact Nat.div_add_mod t k,←h4,jBw] at e;split at e
  ·simp only [World.cell?,hb,jCa];simp only [Option.isSome_none,jBb,jDf];rw [←jEl,e];simp [hj,hc,hi]
  ·rename_i hh;exact absurd ht' hh
theorem zDz {w:World} {g:Nat} {L:List α} (hc:∀ x,(c x).length=k) (h:HoldsK c k w g 0 L.toArray) (hg:g < w.heap.size):RowAt c k w (some ⟨g,0,none⟩) L:=fun j x hj=>by
 refine ⟨_,rfl,hg,fun i u hu=>?_⟩;have hi:i < k:=by rw [←hc x];exact (jAj.1 hu).1
 have hjl:j < L.length:=(jAj.1 hj).1;have e:=(h.cell (i:=j) (c:=i) (by simpa using hjl) hi).1;rw [Addr.add_lit,Addr.add_lit,e];have e2:L.toArray[j]! = x:=by
  rw [getElem!_pos _ j (by simpa using hjl)]
  simpa using (jAj.1 hj).2
 rw [e2,←hu,jEo,jA8 (by rw [hc];exact hi)];rfl
theorem zBz {w:World} {g n:Nat} {os:Array Obj} (d:Array α):w.grownBy (sortWorldK c k w g 0 n d os) (some g):=by
 refine ⟨rfl,rfl,rfl,by simp [sortWorldK,putRowK],fun i hi hne=>?_⟩;unfold sortWorldK putRowK;rw [heap_grow_old _ _ (by simpa using hi)];have:g≠i:=fun e=>hne (by rw [e]);simp [putRow,mapBlock,Sort.ahead,jCn,this]
theorem zGf {w:World} {g n:Nat} {os:Array Obj} {d d':Array α} (h:HoldsK c k w g 0 d) (hg:g < w.heap.size) (hs:d'.size=d.size):HoldsK c k (sortWorldK c k w g 0 n d' os) g 0 d':=by
 unfold sortWorldK;refine holdsK_grow c k _ os g 0 d' (by simp [putRowK,Sort.ahead];exact hg) ?_;exact holdsK_putRowK c k _ g 0 d d' (holdsK_ahead c k w n g 0 d h) hs
end
theorem zFh (b:Nat):∀ (l:List Value) (o:Nat) (w:World) (i:Nat),i < o→(w.setCells b o l).cell? ⟨b,i,none⟩=w.cell? ⟨b,i,none⟩
 | [],_,_,_,_=>rfl
 | v :: l,o,w,i,h=>by
  rw [World.setCells,zFh b l (o+1) _ i (by omega),World.cell?_setCell_other (h:=fun e=>by have:=congrArg Addr.off e;simp at this;omega)]
theorem zFa (b:Nat):∀ (l:List Value) (o:Nat) (w:World),(w.setCells b o l).heap.size=w.heap.size
 | [],_,_=>rfl
 | v :: l,o,w=>by rw [World.setCells,zFa b l];simp
end
section
open Go.RowKit
attribute [local go_sem 10000] pt_eql pt_neq
structure Wl where
 A:Pt
 B:Pt
 K:Int
theorem Wl.eq_iff {p q:Wl}:p=q↔p.A=q.A∧p.B=q.B∧p.K=q.K:=by
 cases p;cases q;simp
instance:DecidableEq Pt:=fun p q=>decidable_of_iff (p.x=q.x∧p.y=q.y) Pt.eq_iff.symm
instance:DecidableEq Wl:=fun p q=>decidable_of_iff (p.A=q.A∧p.B=q.B∧p.K=q.K) Wl.eq_iff.symm
instance:Inhabited Wl:=⟨⟨⟨0,0⟩,⟨0,0⟩,0⟩⟩
def cW (t:Wl):List Value:=[t.A.x,t.A.y,t.B.x,t.B.y,t.K]
theorem zCs (x:Wl):(cW x).length=5:=rfl
theorem zLp (x:Wl):∀ v∈cW x,v.oneCell'=true:=by intro v hv;simp [cW] at hv;rcases hv with rfl | rfl | rfl | rfl | rfl <;> rfl
def weqI (a b c d k e f g h l:Int):Bool:=decide (a=e) && (decide (b=f) && (decide (c=g) && (decide (d=h) && decide (k=l))))
theorem wal_eql (a b c d k e f g h l:Int) (w:World):(binOp .eql 60 (.agg #[a,b,c,d,k]) (.agg #[e,f,g,h,l])).run prog w=.ok (.bool (weqI a b c d k e f g h l)) w:=by
 unfold weqI;by_cases h1:a=e
 case neg=>simp [go_sem,h1]
 case pos=>
 by_cases h2:b=f
 case neg=>simp [go_sem,h1,h2]
 case pos=>
 by_cases h3:c=g
 case neg=>simp [go_sem,h1,h2,h3]
 case pos=>
 by_cases h4:d=h
 case neg=>simp [go_sem,h1,h2,h3,h4]
 case pos=>by_cases h5:k=l <;> simp [go_sem,h1,h2,h3,h4,h5]
theorem wal_neq (a b c d k e f g h l:Int) (w:World):(binOp .neq 60 (.agg #[a,b,c,d,k]) (.agg #[e,f,g,h,l])).run prog w=.ok (.bool (!weqI a b c d k e f g h l)) w:=by
 unfold weqI;by_cases h1:a=e
 case neg=>simp [go_sem,h1]
 case pos=>
 by_cases h2:b=f
 case neg=>simp [go_sem,h1,h2]
 case pos=>
 by_cases h3:c=g
 case neg=>simp [go_sem,h1,h2,h3]
 case pos=>
 by_cases h4:d=h
 case neg=>simp [go_sem,h1,h2,h3,h4]
 case pos=>by_cases h5:k=l <;> simp [go_sem,h1,h2,h3,h4,h5]
theorem zJd {v w:Wl}:weqI v.A.x v.A.y v.B.x v.B.y v.K w.A.x w.A.y w.B.x w.B.y w.K=true↔v=w:=by
 simp [weqI,Wl.eq_iff,Pt.eq_iff,and_assoc]
theorem weqI_dec (v w:Wl):weqI v.A.x v.A.y v.B.x v.B.y v.K w.A.x w.A.y w.B.x w.B.y w.K=decide (v=w):=by
 rw [jCs,zJd];simp
theorem zAz (p q:Pt):peqI p.x p.y q.x q.y=decide (p=q):=by rw [jCs,zC9,←Pt.eq_iff];simp
theorem RowAt.wal {w:World} {a:Option Addr} {L:List Wl} (h:RowAt cW 5 w a L) {j:Nat} (hj:j < L.length):∃ ad A,a=some ad∧ad.add (j * 5)=A∧(A.block=w.heap.size)=False∧A.block < w.heap.size∧(w.cell? A=some (.int .i64 L[j].A.x)∧w.cell? ⟨A.block,A.off+1,none⟩=some (.int .i64 L[j].A.y)∧w.cell? ⟨A.block,A.off+2,none⟩=some (.int .i64 L[j].B.x)∧w.cell? ⟨A.block,A.off+3,none⟩=some (.int .i64 L[j].B.y)∧w.cell? ⟨A.block,A.off+4,none⟩=some (.int .i64 L[j].K)):=by
 obtain ⟨ad,h1,h2,h3⟩:=h j L[j] (jA8 hj);have hb:(ad.add (j * 5)).block=ad.block:=zAo _ _;refine ⟨ad,_,h1,rfl,by rw [hb];simp;omega,by rw [hb];exact h2,?_⟩;have e0:=h3 0 _ rfl;have e1:=h3 1 _ rfl;have e2:=h3 2 _ rfl;have e3:=h3 3 _ rfl;have e4:=h3 4 _ rfl;simp only [Addr.add_zero',Addr.add_succ'] at e0 e1 e2 e3 e4;exact ⟨e0,e1,e2,e3,e4⟩
def mkK (k:Int):Bool:=decide (k=1) || decide (k=2)
def mkOk (a b:Pt) (k:Int):Bool:=mkK k && (!decide (a=b) && (vld a && vld b))
def mkW (a b:Pt) (k:Int):Wl:=if mkOk a b k then ⟨lo2 a b,hi2 a b,k⟩ else ⟨⟨0,0⟩,⟨0,0⟩,0⟩
def unm (w:Wl):Bool := !mkOk w.A w.B w.K || !decide (mkW w.A w.B w.K=w)
end
section
open Go.RowKit Go.Sort
attribute [local go_sem] rOper rAt rUpon cell_set sg_i64 sg_u64 alloc_cell alloc_frozen
attribute [local go_sem 10000] pt_eql pt_neq wal_eql wal_neq
attribute [local irreducible] rWalk
theorem lsf_0 (a b:Pt) (h:decide (cmpP b a < 0)=false) (w:World):Calls prog 94 #[a,b] w (Rt w (.tuple #[a,b])):=by
 have c1:=zAu b a;generalize cmpP b a=n at *
 go_enter func94,ntmps94
 go_wp2_with fail;refine qE4 fun W1 Ba Bb Br Bs hw=>?_;refine qK4 (c1 _) Ba Bb Br Bs hw fun w2 Ba Bb Br Bs hw=>?_;have Fa:=Ba.f;have Fb:=Bb.f;have Fr:=Br.f;have Fs:=Bs.f;go_wp2_with fail
 go_region
 go_wp2_with fail;refine bodyPost_ret (v:=.tuple #[a,b]) (by simp [results,results94,go_sem,Fr,Fs]) rfl ⟨rfl,by have hl:=hw.size;go_grown⟩
theorem lsf_1 (a b:Pt) (h:decide (cmpP b a < 0)=true) (w:World):Calls prog 94 #[a,b] w (Rt w (.tuple #[b,a])):=by
 have c1:=zAu b a;generalize cmpP b a=n at *
 go_enter func94,ntmps94
 go_wp2_with fail;refine qE4 fun W1 Ba Bb Br Bs hw=>?_;refine qK4 (c1 _) Ba Bb Br Bs hw fun w2 Ba Bb Br Bs hw=>?_;have Fa:=Ba.f;have Fb:=Bb.f;have Fr:=Br.f;have Fs:=Bs.f;go_wp2_with fail
 go_region
 go_wp2_with fail;refine bodyPost_ret (v:=.tuple #[b,a]) (by simp [results,results94,go_sem,Fr,Fs]) rfl ⟨rfl,by have hl:=hw.size;go_grown⟩
theorem zMk (a b:Pt) (w:World):Calls prog 94 #[a,b] w (Rt w (.tuple #[.agg #[.int .i64 (lo2 a b).x,.int .i64 (lo2 a b).y],.agg #[.int .i64 (hi2 a b).x,.int .i64 (hi2 a b).y]])):=by
 cases h:decide (cmpP b a < 0) with
 | true=>rw [show lo2 a b=b by unfold lo2;rw [jAc (by simpa using h)],show hi2 a b=a by unfold hi2;rw [jAc (by simpa using h)]];exact lsf_1 a b h w
 | false=>rw [show lo2 a b=a by unfold lo2;rw [jA0 (by simpa using h)],show hi2 a b=b by unfold hi2;rw [jA0 (by simpa using h)]];exact lsf_0 a b h w
theorem make_u (a b:Pt) (k:Int) (e1:(k == 1)=false) (e2:(k == 2)=false) (w:World):Calls prog 85 #[a,b,k] w (Rt w (.tuple #[.agg #[(),(),(),(),()],.bool false])):=by
 go_enter func85,ntmps85
 go_wp2_with fail;refine bodyPost_ret (v:=.tuple #[.agg #[(),(),(),(),()],.bool false]) (by simp [results,results85,go_sem]) rfl ⟨rfl,by go_grown⟩
theorem make_e1 (a b:Pt) (k:Int) (e1:(k == 1)=true) (e:peqI a.x a.y b.x b.y=true) (w:World):Calls prog 85 #[a,b,k] w (Rt w (.tuple #[.agg #[(),(),(),(),()],.bool false])):=by
 go_enter func85,ntmps85
 go_wp2_with fail;refine bodyPost_ret (v:=.tuple #[.agg #[(),(),(),(),()],.bool false]) (by simp [results,results85,go_sem]) rfl ⟨rfl,by go_grown⟩
theorem make_a1 (a b:Pt) (k:Int) (e1:(k == 1)=true) (e:peqI a.x a.y b.x b.y=false) (ha:vld a=false) (w:World):Calls prog 85 #[a,b,k] w (Rt w (.tuple #[.agg #[(),(),(),(),()],.bool false])):=by
 have c1:=zA2 a;rw [ha] at c1;clear ha
 go_enter func85,ntmps85
 go_wp2_with fail;refine qE3 fun W1 Ba Bb Br hw=>?_;refine qK3 (c1 _) Ba Bb Br hw fun w2 Ba Bb Br hw=>?_;have Fa:=Ba.f;have Fb:=Bb.f;have Fr:=Br.f;go_wp2_with fail;refine bodyPost_ret (v:=.tuple #[.agg #[(),(),(),(),()],.bool false]) (by simp [results,results85,go_sem,Fr]) rfl ⟨rfl,by have hl:=hw.size;go_grown⟩
theorem make_b1 (a b:Pt) (k:Int) (e1:(k == 1)=true) (e:peqI a.x a.y b.x b.y=false) (ha:vld a=true) (hb:vld b=false) (w:World):Calls prog 85 #[a,b,k] w (Rt w (.tuple #[.agg #[(),(),(),(),()],.bool false])):=by
 have c1:=zA2 a;rw [ha] at c1;have c2:=zA2 b;rw [hb] at c2;clear ha hb
 go_enter func85,ntmps85
 go_wp2_with fail;refine qE3 fun W1 Ba Bb Br hw=>?_;refine qK3 (c1 _) Ba Bb Br hw fun w2 Ba Bb Br hw=>?_;have Fa:=Ba.f;have Fb:=Bb.f;have Fr:=Br.f;go_wp2_with fail;clear Fa Fb Fr;refine qK3 (c2 _) Ba Bb Br hw fun w3 Ba Bb Br hw=>?_;have Fa:=Ba.f;have Fb:=Bb.f;have Fr:=Br.f;go_wp2_with fail;refine bodyPost_ret (v:=.tuple #[.agg #[(),(),(),(),()],.bool false]) (by simp [results,results85,go_sem,Fr]) rfl ⟨rfl,by have hl:=hw.size;go_grown⟩
theorem make_o1 (a b:Pt) (k:Int) (e1:(k == 1)=true) (e:peqI a.x a.y b.x b.y=false) (ha:vld a=true) (hb:vld b=true) (w:World):Calls prog 85 #[a,b,k] w (Rt w (.tuple #[.agg #[.int .i64 (lo2 a b).x,.int .i64 (lo2 a b).y,.int .i64 (hi2 a b).x,.int .i64 (hi2 a b).y,k],.bool true])):=by
 have c1:=zA2 a;rw [ha] at c1;have c2:=zA2 b;rw [hb] at c2;have c3:=zMk a b;clear ha hb;generalize lo2 a b=p at *
 generalize hi2 a b=q at *
 go_enter func85,ntmps85
 go_wp2_with fail;refine qE3 fun W1 Ba Bb Br hw=>?_;refine qK3 (c1 _) Ba Bb Br hw fun w2 Ba Bb Br hw=>?_;have Fa:=Ba.f;have Fb:=Bb.f;have Fr:=Br.f;go_wp2_with fail;clear Fa Fb Fr;refine qK3 (c2 _) Ba Bb Br hw fun w3 Ba Bb Br hw=>?_;have Fa:=Ba.f;have Fb:=Bb.f;have Fr:=Br.f;go_wp2_with fail;clear Fa Fb Fr;refine qK3 (c3 _) Ba Bb Br hw fun w4 Ba Bb Br hw=>?_;have Fa:=Ba.f;have Fb:=Bb.f;have Fr:=Br.f;go_wp2_with fail;refine bodyPost_ret (v:=.tuple #[.agg #[p.x,p.y,q.x,q.y,k],.bool true]) (by simp [results,results85,go_sem,Fr]) rfl ⟨rfl,by have hl:=hw.size;go_grown⟩
theorem make_e2 (a b:Pt) (k:Int) (e1:(k == 1)=false) (e2:(k == 2)=true) (e:peqI a.x a.y b.x b.y=true) (w:World):Calls prog 85 #[a,b,k] w (Rt w (.tuple #[.agg #[(),(),(),(),()],.bool false])):=by
 go_enter func85,ntmps85
 go_wp2_with fail;refine bodyPost_ret (v:=.tuple #[.agg #[(),(),(),(),()],.bool false]) (by simp [results,results85,go_sem]) rfl ⟨rfl,by go_grown⟩
theorem make_a2 (a b:Pt) (k:Int) (e1:(k == 1)=false) (e2:(k == 2)=true) (e:peqI a.x a.y b.x b.y=false) (ha:vld a=false) (w:World):Calls prog 85 #[a,b,k] w (Rt w (.tuple #[.agg #[(),(),(),(),()],.bool false])):=by
 have c1:=zA2 a;rw [ha] at c1;clear ha
 go_enter func85,ntmps85
 go_wp2_with fail;refine qE3 fun W1 Ba Bb Br hw=>?_;refine qK3 (c1 _) Ba Bb Br hw fun w2 Ba Bb Br hw=>?_;have Fa:=Ba.f;have Fb:=Bb.f;have Fr:=Br.f;go_wp2_with fail;refine bodyPost_ret (v:=.tuple #[.agg #[(),(),(),(),()],.bool false]) (by simp [results,results85,go_sem,Fr]) rfl ⟨rfl,by have hl:=hw.size;go_grown⟩
theorem make_b2 (a b:Pt) (k:Int) (e1:(k == 1)=false) (e2:(k == 2)=true) (e:peqI a.x a.y b.x b.y=false) (ha:vld a=true) (hb:vld b=false) (w:World):Calls prog 85 #[a,b,k] w (Rt w (.tuple #[.agg #[(),(),(),(),()],.bool false])):=by
 have c1:=zA2 a;rw [ha] at c1;have c2:=zA2 b;rw [hb] at c2;clear ha hb
 go_enter func85,ntmps85
 go_wp2_with fail;refine qE3 fun W1 Ba Bb Br hw=>?_;refine qK3 (c1 _) Ba Bb Br hw fun w2 Ba Bb Br hw=>?_;have Fa:=Ba.f;have Fb:=Bb.f;have Fr:=Br.f;go_wp2_with fail;clear Fa Fb Fr;refine qK3 (c2 _) Ba Bb Br hw fun w3 Ba Bb Br hw=>?_;have Fa:=Ba.f;have Fb:=Bb.f;have Fr:=Br.f;go_wp2_with fail;refine bodyPost_ret (v:=.tuple #[.agg #[(),(),(),(),()],.bool false]) (by simp [results,results85,go_sem,Fr]) rfl ⟨rfl,by have hl:=hw.size;go_grown⟩
theorem make_o2 (a b:Pt) (k:Int) (e1:(k == 1)=false) (e2:(k == 2)=true) (e:peqI a.x a.y b.x b.y=false) (ha:vld a=true) (hb:vld b=true) (w:World):Calls prog 85 #[a,b,k] w (Rt w (.tuple #[.agg #[.int .i64 (lo2 a b).x,.int .i64 (lo2 a b).y,.int .i64 (hi2 a b).x,.int .i64 (hi2 a b).y,k],.bool true])):=by
 have c1:=zA2 a;rw [ha] at c1;have c2:=zA2 b;rw [hb] at c2;have c3:=zMk a b;clear ha hb;generalize lo2 a b=p at *
 generalize hi2 a b=q at *
 go_enter func85,ntmps85
 go_wp2_with fail;refine qE3 fun W1 Ba Bb Br hw=>?_;refine qK3 (c1 _) Ba Bb Br hw fun w2 Ba Bb Br hw=>?_;have Fa:=Ba.f;have Fb:=Bb.f;have Fr:=Br.f;go_wp2_with fail;clear Fa Fb Fr;refine qK3 (c2 _) Ba Bb Br hw fun w3 Ba Bb Br hw=>?_;have Fa:=Ba.f;have Fb:=Bb.f;have Fr:=Br.f;go_wp2_with fail;clear Fa Fb Fr;refine qK3 (c3 _) Ba Bb Br hw fun w4 Ba Bb Br hw=>?_;have Fa:=Ba.f;have Fb:=Bb.f;have Fr:=Br.f;go_wp2_with fail;refine bodyPost_ret (v:=.tuple #[.agg #[p.x,p.y,q.x,q.y,k],.bool true]) (by simp [results,results85,go_sem,Fr]) rfl ⟨rfl,by have hl:=hw.size;go_grown⟩
theorem zJs (a b:Pt) (k:Int) (w:World):Calls prog 85 #[a,b,k] w (Rt w (.tuple #[.agg #[.int .i64 (mkW a b k).A.x,.int .i64 (mkW a b k).A.y,.int .i64 (mkW a b k).B.x,.int .i64 (mkW a b k).B.y,.int .i64 (mkW a b k).K],.bool (mkOk a b k)])):=by
 have hz:∀ e,mkOk a b k=e→e=false→mkW a b k=⟨⟨0,0⟩,⟨0,0⟩,0⟩:=fun e h1 h2=>by unfold mkW;rw [h1,h2];rfl
 cases e1:(k == 1) with
 | true=>
  have hk:mkK k=true:=by simp at e1;simp [mkK,e1]
  cases e:peqI a.x a.y b.x b.y with
  | true=>
   have h:mkOk a b k=false:=by rw [zAz] at e;unfold mkOk;rw [e];simp
   rw [hz _ h rfl,h];exact make_e1 a b k e1 e w
  | false=>
   have h0:mkOk a b k=(vld a && vld b):=by rw [zAz] at e;unfold mkOk;rw [e,hk];simp
   cases ha:vld a with
   | false => have h : mkOk a b k = false := by rw [h0, ha]; rfl
              rw [hz _ h rfl,h];exact make_a1 a b k e1 e ha w
   | true=>
    cases hb:vld b with
    | false => have h : mkOk a b k = false := by rw [h0, ha, hb]; rfl
               rw [hz _ h rfl,h];exact make_b1 a b k e1 e ha hb w
    | true => have h : mkOk a b k = true := by rw [h0, ha, hb]; rfl
              rw [show mkW a b k=⟨lo2 a b,hi2 a b,k⟩ by unfold mkW;rw [h];rfl,h];exact make_o1 a b k e1 e ha hb w
 | false=>
  cases e2:(k == 2) with
  | false=>
   have h:mkOk a b k=false:=by simp at e1 e2;unfold mkOk mkK;simp [e1,e2]
   rw [hz _ h rfl,h];exact make_u a b k e1 e2 w
  | true=>
   have hk:mkK k=true:=by simp at e2;simp [mkK,e2]
   cases e:peqI a.x a.y b.x b.y with
   | true=>
    have h:mkOk a b k=false:=by rw [zAz] at e;unfold mkOk;rw [e];simp
    rw [hz _ h rfl,h];exact make_e2 a b k e1 e2 e w
   | false=>
    have h0:mkOk a b k=(vld a && vld b):=by rw [zAz] at e;unfold mkOk;rw [e,hk];simp
    cases ha:vld a with
    | false => have h : mkOk a b k = false := by rw [h0, ha]; rfl
               rw [hz _ h rfl,h];exact make_a2 a b k e1 e2 e ha w
    | true=>
     cases hb:vld b with
     | false => have h : mkOk a b k = false := by rw [h0, ha, hb]; rfl
                rw [hz _ h rfl,h];exact make_b2 a b k e1 e2 e ha hb w
     | true => have h : mkOk a b k = true := by rw [h0, ha, hb]; rfl
               rw [show mkW a b k=⟨lo2 a b,hi2 a b,k⟩ by unfold mkW;rw [h];rfl,h];exact make_o2 a b k e1 e2 e ha hb w
theorem unm_0 (W:Wl) (h:mkOk W.A W.B W.K=false) (w:World):Calls prog 67 #[.agg #[W.A.x,W.A.y,W.B.x,W.B.y,W.K]] w (Rt w (.bool (unm W))):=by
 have c1:=zJs W.A W.B W.K;have HE:Hid (unm W=true):=hdd (by unfold unm;rw [h];rfl);rw [h] at c1;clear h;generalize mkW W.A W.B W.K=m at *
 go_enter func67,ntmps67
 go_wp2_with fail;refine qE1 fun W1 Bw hw=>?_;refine qC1 (c1 _) Bw hw fun w2 Bw hw Fw=>?_;go_wp2
 go_ret
 exact ⟨zB9 (by rw [HE.out]),by have hl:=hw.size;go_grown⟩
theorem unm_1 (W:Wl) (h:mkOk W.A W.B W.K=true) (w:World):Calls prog 67 #[.agg #[W.A.x,W.A.y,W.B.x,W.B.y,W.K]] w (Rt w (.bool (unm W))):=by
 have c1:=zJs W.A W.B W.K;have HE:Hid (unm W = !weqI (mkW W.A W.B W.K).A.x (mkW W.A W.B W.K).A.y (mkW W.A W.B W.K).B.x (mkW W.A W.B W.K).B.y (mkW W.A W.B W.K).K W.A.x W.A.y W.B.x W.B.y W.K):=hdd (by unfold unm;rw [h];rw [weqI_dec];rfl);rw [h] at c1;clear h;generalize mkW W.A W.B W.K=m at *
 go_enter func67,ntmps67
 go_wp2_with fail;refine qE1 fun W1 Bw hw=>?_;refine qC1 (c1 _) Bw hw fun w2 Bw hw Fw=>?_;go_wp2
 go_ret
 exact ⟨zB9 (by rw [HE.out]),by have hl:=hw.size;go_grown⟩
theorem unm_any (W:Wl) (w:World):Calls prog 67 #[.agg #[W.A.x,W.A.y,W.B.x,W.B.y,W.K]] w (Rt w (.bool (unm W))):=by
 cases h:mkOk W.A W.B W.K with
 | false=>exact unm_0 W h w
 | true=>exact unm_1 W h w
def mnI (x y:Int):Int:=if y < x then y else x
def mxI (x y:Int):Int:=if y > x then y else x
theorem run_mnI {P:Program} (w:World) (ts:Array TypeId) (t:TypeId) (k k':IntKind) (x y:Int):(Builtin.min_ ts t #[.int k x,.int k' y]).run P w=.ok (.int k (mnI x y)) w:=run_min_int2 w ts t k k' x y
theorem run_mxI {P:Program} (w:World) (ts:Array TypeId) (t:TypeId) (k k':IntKind) (x y:Int):(Builtin.max_ ts t #[.int k x,.int k' y]).run P w=.ok (.int k (mxI x y)) w:=run_max_int2 w ts t k k' x y
attribute [local go_sem ↓ 10000] run_mnI run_mxI
def bsd (W:Wl) (a b:Pt):Bool:=decide (W.B.x < a.x) || (decide (b.x < W.A.x) || (decide (mxI W.A.y W.B.y < mnI a.y b.y) || decide (mxI a.y b.y < mnI W.A.y W.B.y)))
theorem bsd_0 (W:Wl) (a b:Pt)  (h0:decide (W.B.x < a.x)=true) (w:World):Calls prog 142 #[.agg #[W.A.x,W.A.y,W.B.x,W.B.y,W.K],a,b] w (Rt w (.bool (bsd W a b))):=by
 have HE:Hid (bsd W a b=true):=hdd (by unfold bsd;rw [h0];rfl)
 go_enter func142,ntmps142
 go_wp2
 go_ret
 exact ⟨zB9 (by rw [HE.out]),by go_grown⟩
theorem bsd_1 (W:Wl) (a b:Pt) (h0:decide (W.B.x < a.x)=false) (h1:decide (b.x < W.A.x)=true) (w:World):Calls prog 142 #[.agg #[W.A.x,W.A.y,W.B.x,W.B.y,W.K],a,b] w (Rt w (.bool (bsd W a b))):=by
 have HE:Hid (bsd W a b=true):=hdd (by unfold bsd;rw [h0,h1];rfl)
 go_enter func142,ntmps142
 go_wp2
 go_ret
 exact ⟨zB9 (by rw [HE.out]),by go_grown⟩
theorem bsd_2 (W:Wl) (a b:Pt) (h0:decide (W.B.x < a.x)=false) (h1:decide (b.x < W.A.x)=false) (h2:decide (mxI W.A.y W.B.y < mnI a.y b.y)=true) (w:World):Calls prog 142 #[.agg #[W.A.x,W.A.y,W.B.x,W.B.y,W.K],a,b] w (Rt w (.bool (bsd W a b))):=by
 have HE:Hid (bsd W a b=true):=hdd (by unfold bsd;rw [h0,h1,h2];rfl)
 go_enter func142,ntmps142
 go_wp2
 go_ret
 exact ⟨zB9 (by rw [HE.out]),by go_grown⟩
theorem bsd_3 (W:Wl) (a b:Pt) (h0:decide (W.B.x < a.x)=false) (h1:decide (b.x < W.A.x)=false) (h2:decide (mxI W.A.y W.B.y < mnI a.y b.y)=false) (w:World):Calls prog 142 #[.agg #[W.A.x,W.A.y,W.B.x,W.B.y,W.K],a,b] w (Rt w (.bool (bsd W a b))):=by
 have HE:Hid (bsd W a b=decide (mxI a.y b.y < mnI W.A.y W.B.y)):=hdd (by unfold bsd;rw [h0,h1,h2];rfl)
 go_enter func142,ntmps142
 go_wp2
 go_ret
 exact ⟨zB9 (by rw [HE.out]),by go_grown⟩
theorem zOh (W:Wl) (a b:Pt) (w:World):Calls prog 142 #[.agg #[W.A.x,W.A.y,W.B.x,W.B.y,W.K],a,b] w (Rt w (.bool (bsd W a b))):=by
 cases h0:decide (W.B.x < a.x) with
 | true=>exact bsd_0 W a b h0 w
 | false=>cases h1:decide (b.x < W.A.x) with
  | true=>exact bsd_1 W a b h0 h1 w
  | false=>cases h2:decide (mxI W.A.y W.B.y < mnI a.y b.y) with
   | true=>exact bsd_2 W a b h0 h1 h2 w
   | false=>exact bsd_3 W a b h0 h1 h2 w
end
section
open Go.RowKit Go.Sort
attribute [local go_sem] Dr.rOper Dr.rAt Dr.rUpon cell_set sg_i64 sg_u64 alloc_cell alloc_frozen
attribute [local go_sem 10000] pt_eql pt_neq wal_eql wal_neq
attribute [local irreducible] Dr.rWalk
def cmpW (S T:Wl):Int:=if cmpP S.A T.A≠0 then cmpP S.A T.A else if cmpP S.B T.B≠0 then cmpP S.B T.B else cmpN S.K T.K
theorem dcmp_int (a b:Int) (w:World):Calls prog 89 #[a,b] w fun e w'=>e=.returned (.int .i64 (cmpN a b))∧Dr.Ext w w':=
 (zHe a b w).mono fun _ _ ⟨h1,h2⟩=>⟨h1,by rw [h2];exact ⟨Below.refl _ _,jA9 _⟩⟩
theorem zLb (S T:Wl) (w:World):Calls prog 46 #[.agg #[S.A.x,S.A.y,S.B.x,S.B.y,S.K],.agg #[T.A.x,T.A.y,T.B.x,T.B.y,T.K]] w fun e w'=>e=.returned (.int .i64 (cmpW S T))∧Dr.Ext w w':=by
 have d1:=zHd S.A T.A;have d2:=zHd S.B T.B;have d3:=dcmp_int S.K T.K;rw [show cmpW S T=or3 (cmpP S.A T.A) (cmpP S.B T.B) (cmpN S.K T.K) by rfl];generalize cmpP S.A T.A=m at *
 generalize cmpP S.B T.B=n at *
 generalize cmpN S.K T.K=o at *
 go_enter func46,ntmps46
 go_wp2_with fail;refine zA1 fun W1 hW=>?_;have Bs:Box W1 w [S.A.x,S.A.y,S.B.x,S.B.y,S.K] 60:=by rw [hW];exact (Box.new rfl).old _
 have Bt:Box W1 (w+1) [T.A.x,T.A.y,T.B.x,T.B.y,T.K] 60:=by rw [hW];exact Box.new (by simp)
 have hw:Below w w W1:=by rw [hW];go_grown
 have hdr:w.drawn≤W1.drawn:=by rw [hW];exact jA9 _
 clear hW;have g_st:=J2 Bs.cells Bt.cells;refine Dr.wp_region_tail 15 (by kernel_rfl) (by kernel_rfl) (C:=fun w'=>∃ p:Regrown,w'=grow (redrawn W1 p.d) p.os) rgB ?_;simp only [tK1,tK0,dP1,dP0];repeat (first | (refine zOo (Eq.refl false) ?_;simp only [Act.put,sT2,sT1,sT0]) | (refine Dr.rWalk_step (fun K hK=>?_);go_simp;first | (refine hK _ ?_;clear hK K) | (apply Exists.intro;refine ⟨fun _=>?_,hK _ ?_⟩;(first | with_reducible exact Dr.toExt d1 _ | with_reducible exact Dr.toExt d2 _ | with_reducible exact Dr.toExt d3 _);clear hK K)))
 refine Dr.rWalk_nil ?_;intro w2 hb0;have hb:=hb0.1;replace hdr:=jAp hdr hb0.2;clear hb0;clear g_st;obtain ⟨Bs,Bt,hw,-⟩:=qX2 Bs Bt hw hb;have Fs:=Bs.f;have Ft:=Bt.f;go_wp2_with fail;refine zA4 fun W3 hW=>?_;obtain ⟨bkv,hbv⟩:∃ b,w2.heap.size=b:=⟨_,rfl⟩;rw [hbv];have lsv:=Bs.lt;rw [hbv] at lsv;have ltv:=Bt.lt;rw [hbv] at ltv;have fv:=hw.size;rw [hbv] at fv;have Bv:Box W3 bkv [.int .i64 m,.int .i64 n,.int .i64 o] 3:=by rw [hW];exact Box.new hbv.symm
 replace Bs:Box W3 w [S.A.x,S.A.y,S.B.x,S.B.y,S.K] 60:=by rw [hW];exact Bs.old _
 replace Bt:Box W3 (w+1) [T.A.x,T.A.y,T.B.x,T.B.y,T.K] 60:=by rw [hW];exact Bt.old _
 replace hw:Below w w W3:=by have hl:=hw.size;rw [hW];go_grown
 replace hdr:w.drawn≤W3.drawn:=by rw [hW];exact hdr
 clear hW hbv;refine (zOf m n o _ bkv Bv).mono ?_;rintro e w4 ⟨rfl,hb0⟩;have hb:=hb0.1;replace hdr:=jAp hdr hb0.2;clear hb0;clear Fs Ft;obtain ⟨Bs,Bt,Bv,hw,-⟩:=qX3 Bs Bt Bv hw hb;clear hb;have Fs:=Bs.f;have Ft:=Bt.f;have Fv:=Bv.f;go_wp2
 go_ret
 exact ⟨rfl,by have hl:=hw.size;go_grown,hdr⟩
theorem zN7 (S T:Wl) (w:World):Calls prog 46 #[.agg #[S.A.x,S.A.y,S.B.x,S.B.y,S.K],.agg #[T.A.x,T.A.y,T.B.x,T.B.y,T.K]] w (Rt w (.int .i64 (cmpW S T))):=
 (zLb S T w).mono fun _ _ ⟨h1,h2⟩=>⟨h1,h2.1⟩
theorem cmpN_neg (a b:Int):cmpN b a = -cmpN a b:=by unfold cmpN sgn;(repeat' split) <;> omega
theorem cmpN_eq0 {a b:Int}:cmpN a b=0↔a=b:=by unfold cmpN sgn;(repeat' split) <;> omega
theorem cmpN_lt {a b:Int}:cmpN a b < 0↔a < b:=by unfold cmpN sgn;(repeat' split) <;> omega
theorem cmpW_neg (S T:Wl):cmpW T S = -cmpW S T:=by
 unfold cmpW;rw [zAv S.A T.A,zAv S.B T.B,cmpN_neg S.K T.K];(repeat' split) <;> omega
theorem cmpW_eq0 {S T:Wl}:cmpW S T=0↔S=T:=by
 rw [Wl.eq_iff,←cmpP_eq0 (p:=S.A),←cmpP_eq0 (p:=S.B),←cmpN_eq0 (a:=S.K)];unfold cmpW;(repeat' split) <;> omega
theorem zLe {S T:Wl}:cmpW S T < 0↔cmpP S.A T.A < 0∨(S.A=T.A∧(cmpP S.B T.B < 0∨(S.B=T.B∧S.K < T.K))):=by
 rw [←cmpP_eq0 (p:=S.A),←cmpP_eq0 (p:=S.B),←cmpN_lt (a:=S.K)];unfold cmpW;(repeat' split) <;> omega
theorem zJ9 {S T U:Wl} (h1:cmpW S T < 0) (h2:cmpW T U < 0):cmpW S U < 0:=by
 rw [zLe] at *;rcases h1 with h1 | ⟨e1,h1⟩
 ·rcases h2 with h2 | ⟨e2,h2⟩
  ·exact .inl (zCr h1 h2)
  ·exact .inl (e2▸h1)
 ·rcases h2 with h2 | ⟨e2,h2⟩
  ·exact .inl (by rw [e1];exact h2)
  ·refine .inr ⟨e1.trans e2,?_⟩;rcases h1 with h1 | ⟨e3,h1⟩
   ·rcases h2 with h2 | ⟨e4,h2⟩
    ·exact .inl (zCr h1 h2)
    ·exact .inl (e4▸h1)
   ·rcases h2 with h2 | ⟨e4,h2⟩
    ·exact .inl (by rw [e3];exact h2)
    ·exact .inr ⟨e3.trans e4,by omega⟩
theorem wholeW:Whole cmpW:=⟨cmpW_neg,cmpW_eq0,zJ9⟩
end
end Go.Proofs.YtogffkimgmlilaaGreat
