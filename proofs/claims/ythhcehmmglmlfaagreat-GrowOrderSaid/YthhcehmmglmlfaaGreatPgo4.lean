import Derived.Test.YthhcehmmglmlfaaGreatPgo3
import Derived.Shelf.SlSortCmp.NoneTotal
import Derived.BigCall
import Derived.Shelf.SlicesQ.IndexFunc
import Derived.Shelf.SlicesE.Clone
import Derived.Ground.SlsfProg
import Derived.Ground.SlgfProg
import Derived.Ground.SlgnProg
import Derived.OwnWalk
import Derived.Carry
set_option maxRecDepth 100000
set_option maxHeartbeats 8000000
set_option linter.all false
namespace Go.Proofs.YthhcehmmglmlfaaGreat
open _root_.Go.Proofs.Tryz
section
open Go.RowKit Go.Sort
theorem zl (p q:Pt):cmpP q p = -cmpP p q:=by
 unfold cmpP cmpN sgn;(repeat' split) <;> omega
theorem zP {p q:Pt}:cmpP p q=0↔p=q:=by
 rw [Pt.eq_iff];unfold cmpP cmpN sgn;(repeat' split) <;> omega
theorem YM {p q:Pt}:cmpP p q < 0↔p.x < q.x\/(p.x=q.x/\p.y < q.y):=by
 unfold cmpP cmpN sgn;(repeat' split) <;> omega
theorem yR {p q r:Pt} (h1:cmpP p q < 0) (h2:cmpP q r < 0):cmpP p r < 0:=by
 rw [YM] at *;omega
theorem Xh (S T:Tri3):cmpT T S = -cmpT S T:=by
 unfold cmpT;rw [zl S.A T.A,zl S.B T.B,zl S.C T.C];(repeat' split) <;> omega
theorem cmpT_eq0 {S T:Tri3}:cmpT S T=0↔S=T:=by
 rw [Tri3.eq_iff,<-zP,<-zP (p:=S.B),<-zP (p:=S.C)];unfold cmpT;(repeat' split) <;> omega
theorem cmpT_lt {S T:Tri3}:cmpT S T < 0↔cmpP S.A T.A < 0\/(S.A=T.A/\(cmpP S.B T.B < 0\/(S.B=T.B/\cmpP S.C T.C < 0))):=by
 rw [<-zP (p:=S.A),<-zP (p:=S.B)];unfold cmpT;(repeat' split) <;> omega
theorem cmpT_trans {S T U:Tri3} (h1:cmpT S T < 0) (h2:cmpT T U < 0):cmpT S U < 0:=by
 rw [cmpT_lt] at *;rcases h1 with h1 | ⟨e1,h1⟩ <;> rcases h2 with h2 | ⟨e2,h2⟩
 ·exact .inl (yR h1 h2)
 ·exact .inl (e2▸h1)
 ·exact .inl (e1▸h2)
 ·refine .inr ⟨e1.trans e2,?_⟩;rcases h1 with h1 | ⟨f1,h1⟩ <;> rcases h2 with h2 | ⟨f2,h2⟩
  ·exact .inl (yR h1 h2)
  ·exact .inl (f2▸h1)
  ·exact .inl (f1▸h2)
  ·exact .inr ⟨f1.trans f2,yR h1 h2⟩
structure Whole {α:Type} (c:α->α->Int):Prop where
 neg:∀ x y,c y x = -c x y
 eq0:∀ {x y},c x y=0↔x=y
 trans:∀ {x y z},c x y < 0->c y z < 0->c x z < 0
theorem wholeP:Whole cmpP:=⟨zl,zP,yR⟩
theorem wholeT:Whole cmpT:=⟨Xh,cmpT_eq0,cmpT_trans⟩
section
variable {α:Type} {c:α->α->Int}
theorem Whole.swo (W:Whole c):SWO (ltOf c) where
 irrefl x:=by unfold ltOf;have:=(W.eq0 (x:=x) (y:=x)).2 rfl;simp;omega
 trans x y z h1 h2:=by unfold ltOf at *;simp at *;exact W.trans h1 h2
 ntrans x y z h1 h2:=by
  unfold ltOf at *;simp at *;rcases VH (c x z) 0 with h | h
  ·exfalso
   have n1:=W.neg x y;have n2:=W.neg y z;rcases Jy h1 with g1 | g1
   ·have:=W.trans (x:=y) (y:=x) (z:=z) (by omega) h;omega
   ·have e:=W.eq0.1 g1.symm;subst e;omega
  ·exact h
theorem Whole.one (W:Whole c):∀ x y,ltOf c x y=false->ltOf c y x=false->x=y:=λx y h1 h2=>by
 unfold ltOf at *;simp at h1 h2;rw [W.neg x y] at h2;exact W.eq0.1 (by omega)
def srt (c:α->α->Int) (L:List α):List α:=L.mergeSort λx y => !(ltOf c) y x
def InOrder (c:α->α->Int) (L:List α):Prop:=L.Pairwise λx y=>c x y<=0
theorem zU (L:List α):(srt c L).Perm L:=List.mergeSort_perm _ _
theorem Whole.le_trans (W:Whole c) {x y z:α} (h1:c x y<=0) (h2:c y z<=0):c x z<=0:=by
 rcases Jy h1 with g1 | g1
 ·rcases Jy h2 with g2 | g2
  ·have:=W.trans g1 g2;omega
  ·have e:=W.eq0.1 g2;subst e;exact h1
 ·have e:=W.eq0.1 g1;subst e;exact h2
theorem Whole.srt_order (W:Whole c) (L:List α):InOrder c (srt c L):=by
 have h:=List.pairwise_mergeSort (le:=λx y => !(ltOf c) y x) (λa b d h1 h2=>by
  unfold ltOf at *;simp at *;have n1:=W.neg a b;have n2:=W.neg b d;have n3:=W.neg a d;have:=W.le_trans (x:=a) (y:=b) (z:=d) (by omega) (by omega);omega) (λa b=>by
  unfold ltOf;have:=W.neg a b;simp;omega) L
 refine h.imp λ{a b} h1=>?_;unfold ltOf at h1;simp at h1;have:=W.neg a b;omega
theorem Whole.unique (W:Whole c):∀ {L M:List α},L.Perm M->InOrder c L->InOrder c M->L=M
 | [],M,hp,_,_=>by rw [List.nil_perm.1 hp]
 | x :: L,M,hp,h1,h2=>by
  cases M with
  | nil=>exact absurd hp.length_eq (by simp)
  | cons y M=>
   unfold InOrder at *;rw [Q6] at h1 h2;have e:x=y:=by
    rcases J1.1 (hp.mem_iff.1 (JT)) with e | hx
    ·exact e
    ·rcases J1.1 (hp.mem_iff.2 (JT)) with e | hy
     ·exact e.symm
     ·have a1:=h1.1 y hy;have a2:=h2.1 x hx;have:=W.neg x y;exact W.eq0.1 (by omega)
   subst e;rw [Whole.unique W (hp.cons_inv) h1.2 h2.2]
theorem Whole.srt_eq (W:Whole c) {L M:List α} (hp:M.Perm L) (ho:InOrder c M):M=srt c L:=
 W.unique (hp.trans (zU L).symm) ho (W.srt_order L)
theorem Whole.srt_of_perm (W:Whole c) {L M:List α} (hp:M.Perm L):srt c M=srt c L:=W.srt_eq ((zU M).trans hp) (W.srt_order M)
end
section
open Go.Lib Go.Shelf
section
variable {α:Type} {c:α->List Value} {k:Nat}
theorem zS (hc:∀ x,(c x).length=k):∀ L:List α,(L.flatMap c).length=L.length * k
 | []=>by simp
 | x :: L=>by rw [JE,JC,hc,zS hc L,JW,UR];omega
theorem yL (hc:∀ x,(c x).length=k):∀ (L:List α) (j i:Nat) (x:α),L[j]? = some x->i < k->(L.flatMap c)[j * k+i]? = (c x)[i]?
 | [],j,i,x,h,_=>by simp at h
 | y :: L,0,i,x,h,hi=>by
  simp at h;subst h;rw [JE,Nat.zero_mul,QJ,Qa (by rw [hc];exact hi)]
 | y :: L,j+1,i,x,h,hi=>by
  rw [JE,V3 (by rw [hc,UR];omega),hc];rw [show (j+1) * k+i - k=j * k+i by rw [UR];omega];exact yL hc L j i x (by simpa using h) hi
theorem xQ {w:World} {B:Nat} {T:TypeId} {v:Value} {L:List α} (hc:∀ x,(c x).length=k) (h:w.ownsRow B T k v L.length (L.flatMap c)):∃ a cap,v=.slice a L.length cap/\RowAt c k w a L:=by
 rcases h.2 with ⟨rfl,h0⟩ | ⟨g,cap,cur,rfl,hB,hb,h1,h2,h3,h4⟩
 ·have:L=[]:=QW h0;subst this;exact ⟨none,0,rfl,RowAt.nil⟩
 ·refine ⟨some ⟨g,0,none⟩,cap,rfl,λj x hj=>⟨_,rfl,(Q8.1 hb).1,λi u hu=>?_⟩⟩;have hi:i < k:=by rw [<-hc x];exact (JR.1 hu).1
  have e:=yL hc L j i x hj hi;rw [hu,<-h4,QX] at e;split at e
  ·rw [Addr.add_lit,Addr.add_lit];simp only [World.cell?,hb,QJ]
   simpa using e
  ·cases e
end
section
variable {α:Type} [Inhabited α] {c:α->List Value} {k:Nat}
theorem kK {w:World} {B g cap n:Nat} {T:TypeId} {L:List α} (hc:∀ x,(c x).length=k) (h:w.ownsRow B T k (.slice (some ⟨g,0,none⟩) n cap) L.length (L.flatMap c)):HoldsK c k w g 0 L.toArray/\g < w.heap.size:=by
 rcases h.2 with ⟨h0,_⟩ | ⟨g',cap',cur,h0,hB,hb,h1,h2,h3,h4⟩
 ·cases h0
 ·simp only [Value.slice.injEq,Qi,Addr.mk.injEq,Vs] at h0;obtain ⟨e1,e2,e3⟩:=h0;subst e1 e3;refine ⟨λt ht=>⟨?_,by simp [World.frozen?,hb]⟩,(Q8.1 hb).1⟩;have ht':t < L.length * k:=by simpa using ht
  rw [get_flatK _ _ _ _ (by simpa using ht')]
  have k0 : 0 < k := by rcases VS k with h | h; · subst h; simp at ht'
                        ·exact h
  have hj:t / k < L.length:=by rwa [U3 k0]
  have hi:t % k < k:=UV _ k0;have e:=yL hc L (t / k) (t % k) L[t / k] (JG hj) hi;rw [show t / k * k+t % k=t by rw [Vv];exact Nat.div_add_mod t k,<-h4,QX] at e;split at e
  ·simp only [World.cell?,hb,QJ];simp only [Option.isSome_none,QA,VT];rw [<-Array.getElem?_toList,e];simp [hj,hc,hi]
  ·rename_i hh;exact absurd ht' hh
theorem rowAt_of_holdsK {w:World} {g:Nat} {L:List α} (hc:∀ x,(c x).length=k) (h:HoldsK c k w g 0 L.toArray) (hg:g < w.heap.size):RowAt c k w (some ⟨g,0,none⟩) L:=λj x hj=>by
 refine ⟨_,rfl,hg,λi u hu=>?_⟩;have hi:i < k:=by rw [<-hc x];exact (JR.1 hu).1
 have hjl:j < L.length:=(JR.1 hj).1;have e:=(h.cell (i:=j) (c:=i) (by simpa using hjl) hi).1;rw [Addr.add_lit,Addr.add_lit,e];have e2:L.toArray[j]! = x:=by
  rw [getElem!_pos _ j (by simpa using hjl)]
  simpa using (JR.1 hj).2
 rw [e2,<-hu,U4,JG (by rw [hc];exact hi)];rfl
theorem qO {w:World} {g n:Nat} {os:Array Obj} (d:Array α):w.grownBy (sortWorldK c k w g 0 n d os) (some g):=by
 refine ⟨rfl,rfl,rfl,by simp [sortWorldK,putRowK],λi hi hne=>?_⟩;unfold sortWorldK putRowK;rw [heap_grow_old _ _ (by simpa using hi)];have:g≠i:=λe=>hne (by rw [e]);simp [putRow,mapBlock,Sort.ahead,V8,this]
theorem holdsK_sortK {w:World} {g n:Nat} {os:Array Obj} {d d':Array α} (h:HoldsK c k w g 0 d) (hg:g < w.heap.size) (hs:d'.size=d.size):HoldsK c k (sortWorldK c k w g 0 n d' os) g 0 d':=by
 unfold sortWorldK;refine holdsK_grow c k _ os g 0 d' (by simp [putRowK,Sort.ahead];exact hg) ?_;exact holdsK_putRowK c k _ g 0 d d' (holdsK_ahead c k w n g 0 d h) hs
end
end
attribute [local go_sem 10000] pt_eql pt_neq
structure Wl where
 A:Pt
 B:Pt
 K:Int
theorem Wl.eq_iff {p q:Wl}:p=q↔p.A=q.A/\p.B=q.B/\p.K=q.K:=by
 cases p;cases q;simp
instance:DecidableEq Pt:=λp q=>decidable_of_iff (p.x=q.x/\p.y=q.y) Pt.eq_iff.symm
instance:DecidableEq Wl:=λp q=>decidable_of_iff (p.A=q.A/\p.B=q.B/\p.K=q.K) Wl.eq_iff.symm
instance:Inhabited Wl:=⟨⟨⟨0,0⟩,⟨0,0⟩,0⟩⟩
def cW (t:Wl):List Value:=[t.A.x,t.A.y,t.B.x,t.B.y,t.K]
theorem yS (x:Wl):(cW x).length=5:=rfl
theorem jA (x:Wl):∀ v∈cW x,v.oneCell'=true:=by intro v hv;simp [cW] at hv;rcases hv with rfl | rfl | rfl | rfl | rfl <;> rfl
def weqI (a b c d k e f g h l:Int):Bool:=decide (a=e) && (decide (b=f) && (decide (c=g) && (decide (d=h) && decide (k=l))))
theorem wal_eql (a b c d k e f g h l:Int) (w:World):(binOp .eql 71 (.agg #[a,b,c,d,k]) (.agg #[e,f,g,h,l])).run prog w=.ok (.bool (weqI a b c d k e f g h l)) w:=by
 unfold weqI;by_cases h1:a=e
 case neg=>simp [go_sem,h1]
 case pos=>
 by_cases h2:b=f
 case neg=>simp [go_sem,h1,h2]
 case pos=>
 by_cases h3:c=g
 case neg=>simp [go_sem,h1,h2,h3]
 case pos=>
 by_cases h4:d=h
 case neg=>simp [go_sem,h1,h2,h3,h4]
 case pos=>by_cases h5:k=l <;> simp [go_sem,h1,h2,h3,h4,h5]
theorem wal_neq (a b c d k e f g h l:Int) (w:World):(binOp .neq 71 (.agg #[a,b,c,d,k]) (.agg #[e,f,g,h,l])).run prog w=.ok (.bool (!weqI a b c d k e f g h l)) w:=by
 unfold weqI;by_cases h1:a=e
 case neg=>simp [go_sem,h1]
 case pos=>
 by_cases h2:b=f
 case neg=>simp [go_sem,h1,h2]
 case pos=>
 by_cases h3:c=g
 case neg=>simp [go_sem,h1,h2,h3]
 case pos=>
 by_cases h4:d=h
 case neg=>simp [go_sem,h1,h2,h3,h4]
 case pos=>by_cases h5:k=l <;> simp [go_sem,h1,h2,h3,h4,h5]
theorem Z0 {v w:Wl}:weqI v.A.x v.A.y v.B.x v.B.y v.K w.A.x w.A.y w.B.x w.B.y w.K=true↔v=w:=by
 simp [weqI,Wl.eq_iff,Pt.eq_iff,and_assoc]
theorem weqI_dec (v w:Wl):weqI v.A.x v.A.y v.B.x v.B.y v.K w.A.x w.A.y w.B.x w.B.y w.K=decide (v=w):=by
 rw [Qm,Z0];simp
theorem zq (p q:Pt):peqI p.x p.y q.x q.y=decide (p=q):=by rw [Qm,xJ,<-Pt.eq_iff];simp
theorem RowAt.wal {w:World} {a:Option Addr} {L:List Wl} (h:RowAt cW 5 w a L) {j:Nat} (hj:j < L.length):∃ ad A,a=some ad/\ad.add (j * 5)=A/\(A.block=w.heap.size)=False/\A.block < w.heap.size/\(w.cell? A=some (.int .i64 L[j].A.x)/\w.cell? ⟨A.block,A.off+1,none⟩=some (.int .i64 L[j].A.y)/\w.cell? ⟨A.block,A.off+2,none⟩=some (.int .i64 L[j].B.x)/\w.cell? ⟨A.block,A.off+3,none⟩=some (.int .i64 L[j].B.y)/\w.cell? ⟨A.block,A.off+4,none⟩=some (.int .i64 L[j].K)):=by
 obtain ⟨ad,h1,h2,h3⟩:=h j L[j] (JG hj);have hb:(ad.add (j * 5)).block=ad.block:=zj _ _;refine ⟨ad,_,h1,rfl,by rw [hb];simp;omega,by rw [hb];exact h2,?_⟩;have e0:=h3 0 _ rfl;have e1:=h3 1 _ rfl;have e2:=h3 2 _ rfl;have e3:=h3 3 _ rfl;have e4:=h3 4 _ rfl;simp only [Addr.add_zero',Addr.add_succ'] at e0 e1 e2 e3 e4;exact ⟨e0,e1,e2,e3,e4⟩
def mkK (k:Int):Bool:=decide (k=1) || decide (k=2)
def mkOk (a b:Pt) (k:Int):Bool:=mkK k && (!decide (a=b) && (vld a && vld b))
def mkW (a b:Pt) (k:Int):Wl:=if mkOk a b k then ⟨lo2 a b,hi2 a b,k⟩ else ⟨⟨0,0⟩,⟨0,0⟩,0⟩
def unm (w:Wl):Bool := !mkOk w.A w.B w.K || !decide (mkW w.A w.B w.K=w)
attribute [local go_sem] rOper rAt rUpon cell_set sg_i64 sg_u64 alloc_cell alloc_frozen
attribute [local go_sem 10000] wal_eql wal_neq
attribute [local irreducible] rWalk
section
theorem lsf_0 (a b:Pt) (h:decide (cmpP b a < 0)=false) (w:World):Calls prog 73 #[a,b] w (Rt w (.tuple #[a,b])):=by
 have c1:=zo b a;generalize cmpP b a=n at *
 go_enter func73,ntmps73
 go_wp2_with fail;refine qE4 λW1 Ba Bb Br Bs hw=>?_;refine qK4 (c1 _) Ba Bb Br Bs hw λw2 Ba Bb Br Bs hw=>?_;have Fa:=Ba.f;have Fb:=Bb.f;have Fr:=Br.f;have Fs:=Bs.f;go_wp2_with fail
 go_region
 go_wp2_with fail;refine bodyPost_ret (v:=.tuple #[a,b]) (by simp [results,results73,go_sem,Fr,Fs]) rfl ⟨rfl,by have hl:=hw.size;go_grown⟩
theorem lsf_1 (a b:Pt) (h:decide (cmpP b a < 0)=true) (w:World):Calls prog 73 #[a,b] w (Rt w (.tuple #[b,a])):=by
 have c1:=zo b a;generalize cmpP b a=n at *
 go_enter func73,ntmps73
 go_wp2_with fail;refine qE4 λW1 Ba Bb Br Bs hw=>?_;refine qK4 (c1 _) Ba Bb Br Bs hw λw2 Ba Bb Br Bs hw=>?_;have Fa:=Ba.f;have Fb:=Bb.f;have Fr:=Br.f;have Fs:=Bs.f;go_wp2_with fail
 go_region
 go_wp2_with fail;refine bodyPost_ret (v:=.tuple #[b,a]) (by simp [results,results73,go_sem,Fr,Fs]) rfl ⟨rfl,by have hl:=hw.size;go_grown⟩
theorem XE (a b:Pt) (w:World):Calls prog 73 #[a,b] w (Rt w (.tuple #[.agg #[.int .i64 (lo2 a b).x,.int .i64 (lo2 a b).y],.agg #[.int .i64 (hi2 a b).x,.int .i64 (hi2 a b).y]])):=by
 cases h:decide (cmpP b a < 0) with
 | true=>rw [show lo2 a b=b by unfold lo2;rw [JH (by simpa using h)],show hi2 a b=a by unfold hi2;rw [JH (by simpa using h)]];exact lsf_1 a b h w
 | false=>rw [show lo2 a b=a by unfold lo2;rw [J0 (by simpa using h)],show hi2 a b=b by unfold hi2;rw [J0 (by simpa using h)]];exact lsf_0 a b h w
theorem make_u (a b:Pt) (k:Int) (e1:(k == 1)=false) (e2:(k == 2)=false) (w:World):Calls prog 99 #[a,b,k] w (Rt w (.tuple #[.agg #[(),(),(),(),()],.bool false])):=by
 go_enter func99,ntmps99
 go_wp2_with fail;refine bodyPost_ret (v:=.tuple #[.agg #[(),(),(),(),()],.bool false]) (by simp [results,results99,go_sem]) rfl ⟨rfl,by go_grown⟩
theorem make_e1 (a b:Pt) (k:Int) (e1:(k == 1)=true) (e:peqI a.x a.y b.x b.y) (w:World):Calls prog 99 #[a,b,k] w (Rt w (.tuple #[.agg #[(),(),(),(),()],.bool false])):=by
 go_enter func99,ntmps99
 go_wp2_with fail;refine bodyPost_ret (v:=.tuple #[.agg #[(),(),(),(),()],.bool false]) (by simp [results,results99,go_sem]) rfl ⟨rfl,by go_grown⟩
theorem make_a1 (a b:Pt) (k:Int) (e1:(k == 1)=true) (e:peqI a.x a.y b.x b.y=false) (ha:vld a=false) (w:World):Calls prog 99 #[a,b,k] w (Rt w (.tuple #[.agg #[(),(),(),(),()],.bool false])):=by
 have c1:=zF a;rw [ha] at c1;clear ha
 go_enter func99,ntmps99
 go_wp2_with fail;refine qE3 λW1 Ba Bb Br hw=>?_;refine qK3 (c1 _) Ba Bb Br hw λw2 Ba Bb Br hw=>?_;have Fa:=Ba.f;have Fb:=Bb.f;have Fr:=Br.f;go_wp2_with fail;refine bodyPost_ret (v:=.tuple #[.agg #[(),(),(),(),()],.bool false]) (by simp [results,results99,go_sem,Fr]) rfl ⟨rfl,by have hl:=hw.size;go_grown⟩
theorem make_b1 (a b:Pt) (k:Int) (e1:(k == 1)=true) (e:peqI a.x a.y b.x b.y=false) (ha:vld a) (hb:vld b=false) (w:World):Calls prog 99 #[a,b,k] w (Rt w (.tuple #[.agg #[(),(),(),(),()],.bool false])):=by
 have c1:=zF a;rw [ha] at c1;have c2:=zF b;rw [hb] at c2;clear ha hb
 go_enter func99,ntmps99
 go_wp2_with fail;refine qE3 λW1 Ba Bb Br hw=>?_;refine qC3 (c1 _) Ba Bb Br hw λw2 Ba Bb Br hw Gv=>?_;go_wp2_with fail;clear Gv;refine qK3 (c2 _) Ba Bb Br hw λw3 Ba Bb Br hw=>?_;have Fa:=Ba.f;have Fb:=Bb.f;have Fr:=Br.f;go_wp2_with fail;refine bodyPost_ret (v:=.tuple #[.agg #[(),(),(),(),()],.bool false]) (by simp [results,results99,go_sem,Fr]) rfl ⟨rfl,by have hl:=hw.size;go_grown⟩
theorem make_o1 (a b:Pt) (k:Int) (e1:(k == 1)=true) (e:peqI a.x a.y b.x b.y=false) (ha:vld a) (hb:vld b) (w:World):Calls prog 99 #[a,b,k] w (Rt w (.tuple #[.agg #[.int .i64 (lo2 a b).x,.int .i64 (lo2 a b).y,.int .i64 (hi2 a b).x,.int .i64 (hi2 a b).y,k],.bool true])):=by
 have c1:=zF a;rw [ha] at c1;have c2:=zF b;rw [hb] at c2;have c3:=XE a b;clear ha hb;generalize lo2 a b=p at *
 generalize hi2 a b=q at *
 go_enter func99,ntmps99
 go_wp2_with fail;refine qE3 λW1 Ba Bb Br hw=>?_;refine qC3 (c1 _) Ba Bb Br hw λw2 Ba Bb Br hw Gv=>?_;go_wp2_with fail;clear Gv;refine qC3 (c2 _) Ba Bb Br hw λw3 Ba Bb Br hw Gv=>?_;go_wp2_with fail;clear Gv;refine qK3 (c3 _) Ba Bb Br hw λw4 Ba Bb Br hw=>?_;have Fa:=Ba.f;have Fb:=Bb.f;have Fr:=Br.f;go_wp2_with fail;refine bodyPost_ret (v:=.tuple #[.agg #[p.x,p.y,q.x,q.y,k],.bool true]) (by simp [results,results99,go_sem,Fr]) rfl ⟨rfl,by have hl:=hw.size;go_grown⟩
theorem make_e2 (a b:Pt) (k:Int) (e1:(k == 1)=false) (e2:(k == 2)=true) (e:peqI a.x a.y b.x b.y) (w:World):Calls prog 99 #[a,b,k] w (Rt w (.tuple #[.agg #[(),(),(),(),()],.bool false])):=by
 go_enter func99,ntmps99
 go_wp2_with fail;refine bodyPost_ret (v:=.tuple #[.agg #[(),(),(),(),()],.bool false]) (by simp [results,results99,go_sem]) rfl ⟨rfl,by go_grown⟩
theorem make_a2 (a b:Pt) (k:Int) (e1:(k == 1)=false) (e2:(k == 2)=true) (e:peqI a.x a.y b.x b.y=false) (ha:vld a=false) (w:World):Calls prog 99 #[a,b,k] w (Rt w (.tuple #[.agg #[(),(),(),(),()],.bool false])):=by
 have c1:=zF a;rw [ha] at c1;clear ha
 go_enter func99,ntmps99
 go_wp2_with fail;refine qE3 λW1 Ba Bb Br hw=>?_;refine qK3 (c1 _) Ba Bb Br hw λw2 Ba Bb Br hw=>?_;have Fa:=Ba.f;have Fb:=Bb.f;have Fr:=Br.f;go_wp2_with fail;refine bodyPost_ret (v:=.tuple #[.agg #[(),(),(),(),()],.bool false]) (by simp [results,results99,go_sem,Fr]) rfl ⟨rfl,by have hl:=hw.size;go_grown⟩
theorem make_b2 (a b:Pt) (k:Int) (e1:(k == 1)=false) (e2:(k == 2)=true) (e:peqI a.x a.y b.x b.y=false) (ha:vld a) (hb:vld b=false) (w:World):Calls prog 99 #[a,b,k] w (Rt w (.tuple #[.agg #[(),(),(),(),()],.bool false])):=by
 have c1:=zF a;rw [ha] at c1;have c2:=zF b;rw [hb] at c2;clear ha hb
 go_enter func99,ntmps99
 go_wp2_with fail;refine qE3 λW1 Ba Bb Br hw=>?_;refine qC3 (c1 _) Ba Bb Br hw λw2 Ba Bb Br hw Gv=>?_;go_wp2_with fail;clear Gv;refine qK3 (c2 _) Ba Bb Br hw λw3 Ba Bb Br hw=>?_;have Fa:=Ba.f;have Fb:=Bb.f;have Fr:=Br.f;go_wp2_with fail;refine bodyPost_ret (v:=.tuple #[.agg #[(),(),(),(),()],.bool false]) (by simp [results,results99,go_sem,Fr]) rfl ⟨rfl,by have hl:=hw.size;go_grown⟩
theorem make_o2 (a b:Pt) (k:Int) (e1:(k == 1)=false) (e2:(k == 2)=true) (e:peqI a.x a.y b.x b.y=false) (ha:vld a) (hb:vld b) (w:World):Calls prog 99 #[a,b,k] w (Rt w (.tuple #[.agg #[.int .i64 (lo2 a b).x,.int .i64 (lo2 a b).y,.int .i64 (hi2 a b).x,.int .i64 (hi2 a b).y,k],.bool true])):=by
 have c1:=zF a;rw [ha] at c1;have c2:=zF b;rw [hb] at c2;have c3:=XE a b;clear ha hb;generalize lo2 a b=p at *
 generalize hi2 a b=q at *
 go_enter func99,ntmps99
 go_wp2_with fail;refine qE3 λW1 Ba Bb Br hw=>?_;refine qC3 (c1 _) Ba Bb Br hw λw2 Ba Bb Br hw Gv=>?_;go_wp2_with fail;clear Gv;refine qC3 (c2 _) Ba Bb Br hw λw3 Ba Bb Br hw Gv=>?_;go_wp2_with fail;clear Gv;refine qK3 (c3 _) Ba Bb Br hw λw4 Ba Bb Br hw=>?_;have Fa:=Ba.f;have Fb:=Bb.f;have Fr:=Br.f;go_wp2_with fail;refine bodyPost_ret (v:=.tuple #[.agg #[p.x,p.y,q.x,q.y,k],.bool true]) (by simp [results,results99,go_sem,Fr]) rfl ⟨rfl,by have hl:=hw.size;go_grown⟩
theorem qt (a b:Pt) (k:Int) (w:World):Calls prog 99 #[a,b,k] w (Rt w (.tuple #[.agg #[.int .i64 (mkW a b k).A.x,.int .i64 (mkW a b k).A.y,.int .i64 (mkW a b k).B.x,.int .i64 (mkW a b k).B.y,.int .i64 (mkW a b k).K],.bool (mkOk a b k)])):=by
 have hz:∀ e,mkOk a b k=e->e=false->mkW a b k=⟨⟨0,0⟩,⟨0,0⟩,0⟩:=λe h1 h2=>by unfold mkW;rw [h1,h2];rfl
 cases e1:(k == 1) with
 | true=>
  have hk:mkK k=true:=by simp at e1;simp [mkK,e1]
  cases e:peqI a.x a.y b.x b.y with
  | true=>
   have h:mkOk a b k=false:=by rw [zq] at e;unfold mkOk;rw [e];simp
   rw [hz _ h rfl,h];exact make_e1 a b k e1 e w
  | false=>
   have h0:mkOk a b k=(vld a && vld b):=by rw [zq] at e;unfold mkOk;rw [e,hk];simp
   cases ha:vld a with
   | false => have h : mkOk a b k = false := by rw [h0, ha]; rfl
              rw [hz _ h rfl,h];exact make_a1 a b k e1 e ha w
   | true=>
    cases hb:vld b with
    | false => have h : mkOk a b k = false := by rw [h0, ha, hb]; rfl
               rw [hz _ h rfl,h];exact make_b1 a b k e1 e ha hb w
    | true => have h : mkOk a b k = true := by rw [h0, ha, hb]; rfl
              rw [show mkW a b k=⟨lo2 a b,hi2 a b,k⟩ by unfold mkW;rw [h];rfl,h];exact make_o1 a b k e1 e ha hb w
 | false=>
  cases e2:(k == 2) with
  | false=>
   have h:mkOk a b k=false:=by simp at e1 e2;unfold mkOk mkK;simp [e1,e2]
   rw [hz _ h rfl,h];exact make_u a b k e1 e2 w
  | true=>
   have hk:mkK k=true:=by simp at e2;simp [mkK,e2]
   cases e:peqI a.x a.y b.x b.y with
   | true=>
    have h:mkOk a b k=false:=by rw [zq] at e;unfold mkOk;rw [e];simp
    rw [hz _ h rfl,h];exact make_e2 a b k e1 e2 e w
   | false=>
    have h0:mkOk a b k=(vld a && vld b):=by rw [zq] at e;unfold mkOk;rw [e,hk];simp
    cases ha:vld a with
    | false => have h : mkOk a b k = false := by rw [h0, ha]; rfl
               rw [hz _ h rfl,h];exact make_a2 a b k e1 e2 e ha w
    | true=>
     cases hb:vld b with
     | false => have h : mkOk a b k = false := by rw [h0, ha, hb]; rfl
                rw [hz _ h rfl,h];exact make_b2 a b k e1 e2 e ha hb w
     | true => have h : mkOk a b k = true := by rw [h0, ha, hb]; rfl
               rw [show mkW a b k=⟨lo2 a b,hi2 a b,k⟩ by unfold mkW;rw [h];rfl,h];exact make_o2 a b k e1 e2 e ha hb w
theorem unm_0 (W:Wl) (h:mkOk W.A W.B W.K=false) (w:World):Calls prog 49 #[.agg #[W.A.x,W.A.y,W.B.x,W.B.y,W.K]] w (Rt w (.bool (unm W))):=by
 have c1:=qt W.A W.B W.K;have HE:Hi (unm W=true):=hdd (by unfold unm;rw [h];rfl);rw [h] at c1;clear h;generalize mkW W.A W.B W.K=m at *
 go_enter func49,ntmps49
 go_wp2_with fail;refine qE1 λW1 Bw hw=>?_;refine qC1 (c1 _) Bw hw λw2 Bw hw Fw=>?_;go_wp2
 go_ret
 exact ⟨yO (by rw [HE.o]),by have hl:=hw.size;go_grown⟩
theorem unm_1 (W:Wl) (h:mkOk W.A W.B W.K) (w:World):Calls prog 49 #[.agg #[W.A.x,W.A.y,W.B.x,W.B.y,W.K]] w (Rt w (.bool (unm W))):=by
 have c1:=qt W.A W.B W.K;have HE:Hi (unm W = !weqI (mkW W.A W.B W.K).A.x (mkW W.A W.B W.K).A.y (mkW W.A W.B W.K).B.x (mkW W.A W.B W.K).B.y (mkW W.A W.B W.K).K W.A.x W.A.y W.B.x W.B.y W.K):=hdd (by unfold unm;rw [h];rw [weqI_dec];rfl);rw [h] at c1;clear h;generalize mkW W.A W.B W.K=m at *
 go_enter func49,ntmps49
 go_wp2_with fail;refine qE1 λW1 Bw hw=>?_;refine qC1 (c1 _) Bw hw λw2 Bw hw Fw=>?_;go_wp2
 go_ret
 exact ⟨yO (by rw [HE.o]),by have hl:=hw.size;go_grown⟩
theorem ZU (W:Wl) (w:World):Calls prog 49 #[.agg #[W.A.x,W.A.y,W.B.x,W.B.y,W.K]] w (Rt w (.bool (unm W))):=by
 cases h:mkOk W.A W.B W.K with
 | false=>exact unm_0 W h w
 | true=>exact unm_1 W h w
def mnI (x y:Int):Int:=if y < x then y else x
def mxI (x y:Int):Int:=if y > x then y else x
theorem run_mnI {P:Program} (w:World) (ts:Array TypeId) (t:TypeId) (k k':IntKind) (x y:Int):(Builtin.min_ ts t #[.int k x,.int k' y]).run P w=.ok (.int k (mnI x y)) w:=run_min_int2 w ts t k k' x y
theorem run_mxI {P:Program} (w:World) (ts:Array TypeId) (t:TypeId) (k k':IntKind) (x y:Int):(Builtin.max_ ts t #[.int k x,.int k' y]).run P w=.ok (.int k (mxI x y)) w:=run_max_int2 w ts t k k' x y
attribute [local go_sem ↓ 10000] run_mnI run_mxI
def bsd (W:Wl) (a b:Pt):Bool:=decide (W.B.x < a.x) || (decide (b.x < W.A.x) || (decide (mxI W.A.y W.B.y < mnI a.y b.y) || decide (mxI a.y b.y < mnI W.A.y W.B.y)))
theorem bsd_0 (W:Wl) (a b:Pt)  (h0:decide (W.B.x < a.x)=true) (w:World):Calls prog 107 #[.agg #[W.A.x,W.A.y,W.B.x,W.B.y,W.K],a,b] w (Rt w (.bool (bsd W a b))):=by
 have HE:Hi (bsd W a b=true):=hdd (by unfold bsd;rw [h0];rfl)
 go_enter func107,ntmps107
 go_wp2
 go_ret
 exact ⟨yO (by rw [HE.o]),by go_grown⟩
theorem bsd_1 (W:Wl) (a b:Pt) (h0:decide (W.B.x < a.x)=false) (h1:decide (b.x < W.A.x)=true) (w:World):Calls prog 107 #[.agg #[W.A.x,W.A.y,W.B.x,W.B.y,W.K],a,b] w (Rt w (.bool (bsd W a b))):=by
 have HE:Hi (bsd W a b=true):=hdd (by unfold bsd;rw [h0,h1];rfl)
 go_enter func107,ntmps107
 go_wp2
 go_ret
 exact ⟨yO (by rw [HE.o]),by go_grown⟩
theorem bsd_2 (W:Wl) (a b:Pt) (h0:decide (W.B.x < a.x)=false) (h1:decide (b.x < W.A.x)=false) (h2:decide (mxI W.A.y W.B.y < mnI a.y b.y)=true) (w:World):Calls prog 107 #[.agg #[W.A.x,W.A.y,W.B.x,W.B.y,W.K],a,b] w (Rt w (.bool (bsd W a b))):=by
 have HE:Hi (bsd W a b=true):=hdd (by unfold bsd;rw [h0,h1,h2];rfl)
 go_enter func107,ntmps107
 go_wp2
 go_ret
 exact ⟨yO (by rw [HE.o]),by go_grown⟩
theorem bsd_3 (W:Wl) (a b:Pt) (h0:decide (W.B.x < a.x)=false) (h1:decide (b.x < W.A.x)=false) (h2:decide (mxI W.A.y W.B.y < mnI a.y b.y)=false) (w:World):Calls prog 107 #[.agg #[W.A.x,W.A.y,W.B.x,W.B.y,W.K],a,b] w (Rt w (.bool (bsd W a b))):=by
 have HE:Hi (bsd W a b=decide (mxI a.y b.y < mnI W.A.y W.B.y)):=hdd (by unfold bsd;rw [h0,h1,h2];rfl)
 go_enter func107,ntmps107
 go_wp2
 go_ret
 exact ⟨yO (by rw [HE.o]),by go_grown⟩
theorem Xk (W:Wl) (a b:Pt) (w:World):Calls prog 107 #[.agg #[W.A.x,W.A.y,W.B.x,W.B.y,W.K],a,b] w (Rt w (.bool (bsd W a b))):=by
 cases h0:decide (W.B.x < a.x) with
 | true=>exact bsd_0 W a b h0 w
 | false=>cases h1:decide (b.x < W.A.x) with
  | true=>exact bsd_1 W a b h0 h1 w
  | false=>cases h2:decide (mxI W.A.y W.B.y < mnI a.y b.y) with
   | true=>exact bsd_2 W a b h0 h1 h2 w
   | false=>exact bsd_3 W a b h0 h1 h2 w
end
attribute [local go_sem] Dr.rOper Dr.rAt Dr.rUpon
def cmpW (S T:Wl):Int:=if cmpP S.A T.A≠0 then cmpP S.A T.A else if cmpP S.B T.B≠0 then cmpP S.B T.B else cmpN S.K T.K
theorem dcmp_int (a b:Int) (w:World):Calls prog 101 #[a,b] w λe w'=>e=.returned (.int .i64 (cmpN a b))/\Dr.Ext w w':=
 (vZ a b w).mono λ_ _ ⟨h1,h2⟩=>⟨h1,by rw [h2];exact ⟨Below.refl _ _,JJ _⟩⟩
theorem YH (S T:Wl) (w:World):Calls prog 51 #[.agg #[S.A.x,S.A.y,S.B.x,S.B.y,S.K],.agg #[T.A.x,T.A.y,T.B.x,T.B.y,T.K]] w λe w'=>e=.returned (.int .i64 (cmpW S T))/\Dr.Ext w w':=by
 have d1:=tc S.A T.A;have d2:=tc S.B T.B;have d3:=dcmp_int S.K T.K;rw [show cmpW S T=or3 (cmpP S.A T.A) (cmpP S.B T.B) (cmpN S.K T.K) by rfl];generalize cmpP S.A T.A=m at *
 generalize cmpP S.B T.B=n at *
 generalize cmpN S.K T.K=o at *
 go_enter func51,ntmps51
 go_wp2_with fail;refine zG λW1 hW=>?_;have Bs:Box W1 w [S.A.x,S.A.y,S.B.x,S.B.y,S.K] 71:=by rw [hW];exact (Box.new rfl).old _
 have Bt:Box W1 (w+1) [T.A.x,T.A.y,T.B.x,T.B.y,T.K] 71:=by rw [hW];exact Box.new (by simp)
 have hw:Below w w W1:=by rw [hW];go_grown
 have hdr:w.drawn<=W1.drawn:=by rw [hW];exact JJ _
 clear hW;have HJ:=J2 Bs.cells Bt.cells;refine Dr.wp_region_tail 15 (by kernel_rfl) (by kernel_rfl) (C:=λw'=>∃ p:Regrown,w'=grow (redrawn W1 p.d) p.os) rgB ?_;simp only [tK1,tK0,dP1,dP0];repeat (first | (refine Dr_skip (Eq.refl false) ?_;simp only [Act.put,sT2,sT1,sT0]) | (refine Dr.rWalk_step (λK hK=>?_);go_simp;first | (refine hK _ ?_;clear hK K) | (apply Exists.intro;refine ⟨λ_=>?_,hK _ ?_⟩;(first | with_reducible exact Dr.toExt d1 _ | with_reducible exact Dr.toExt d2 _ | with_reducible exact Dr.toExt d3 _);clear hK K)))
 refine Dr.rWalk_nil ?_;intro w2 hb0;have hb:=hb0.1;replace hdr:=JY hdr hb0.2;clear hb0;clear HJ;obtain ⟨Bs,Bt,hw,-⟩:=qX2 Bs Bt hw hb;have Fs:=Bs.f;have Ft:=Bt.f;go_wp2_with fail;refine zI λW3 hW=>?_;obtain ⟨bkv,hbv⟩:∃ b,w2.heap.size=b:=⟨_,rfl⟩;rw [hbv];have lsv:=Bs.lt;rw [hbv] at lsv;have ltv:=Bt.lt;rw [hbv] at ltv;have fv:=hw.size;rw [hbv] at fv;have Bv:Box W3 bkv [.int .i64 m,.int .i64 n,.int .i64 o] 3:=by rw [hW];exact Box.new hbv.symm
 replace Bs:Box W3 w [S.A.x,S.A.y,S.B.x,S.B.y,S.K] 71:=by rw [hW];exact Bs.old _
 replace Bt:Box W3 (w+1) [T.A.x,T.A.y,T.B.x,T.B.y,T.K] 71:=by rw [hW];exact Bt.old _
 replace hw:Below w w W3:=by have hl:=hw.size;rw [hW];go_grown
 replace hdr:w.drawn<=W3.drawn:=by rw [hW];exact hdr
 clear hW hbv;refine (Kd m n o _ bkv Bv).mono ?_;rintro e w4 ⟨rfl,hb0⟩;have hb:=hb0.1;replace hdr:=JY hdr hb0.2;clear hb0;clear Fs Ft;obtain ⟨Bs,Bt,Bv,hw,-⟩:=qX3 Bs Bt Bv hw hb;clear hb;have Fs:=Bs.f;have Ft:=Bt.f;have Fv:=Bv.f;go_wp2
 go_ret
 exact ⟨rfl,by have hl:=hw.size;go_grown,hdr⟩
theorem Xg (S T:Wl) (w:World):Calls prog 51 #[.agg #[S.A.x,S.A.y,S.B.x,S.B.y,S.K],.agg #[T.A.x,T.A.y,T.B.x,T.B.y,T.K]] w (Rt w (.int .i64 (cmpW S T))):=
 (YH S T w).mono λ_ _ ⟨h1,h2⟩=>⟨h1,h2.1⟩
theorem cmpN_neg (a b:Int):cmpN b a = -cmpN a b:=by unfold cmpN sgn;(repeat' split) <;> omega
theorem cmpN_eq0 {a b:Int}:cmpN a b=0↔a=b:=by unfold cmpN sgn;(repeat' split) <;> omega
theorem cmpN_lt {a b:Int}:cmpN a b < 0↔a < b:=by unfold cmpN sgn;(repeat' split) <;> omega
theorem cmpW_neg (S T:Wl):cmpW T S = -cmpW S T:=by
 unfold cmpW;rw [zl S.A T.A,zl S.B T.B,cmpN_neg S.K T.K];(repeat' split) <;> omega
theorem ul {S T:Wl}:cmpW S T=0↔S=T:=by
 rw [Wl.eq_iff,<-zP (p:=S.A),<-zP (p:=S.B),<-cmpN_eq0 (a:=S.K)];unfold cmpW;(repeat' split) <;> omega
theorem jn {S T:Wl}:cmpW S T < 0↔cmpP S.A T.A < 0\/(S.A=T.A/\(cmpP S.B T.B < 0\/(S.B=T.B/\S.K < T.K))):=by
 rw [<-zP (p:=S.A),<-zP (p:=S.B),<-cmpN_lt (a:=S.K)];unfold cmpW;(repeat' split) <;> omega
theorem tk {S T U:Wl} (h1:cmpW S T < 0) (h2:cmpW T U < 0):cmpW S U < 0:=by
 rw [jn] at *;rcases h1 with h1 | ⟨e1,h1⟩
 ·rcases h2 with h2 | ⟨e2,h2⟩
  ·exact .inl (yR h1 h2)
  ·exact .inl (e2▸h1)
 ·rcases h2 with h2 | ⟨e2,h2⟩
  ·exact .inl (by rw [e1];exact h2)
  ·refine .inr ⟨e1.trans e2,?_⟩;rcases h1 with h1 | ⟨e3,h1⟩
   ·rcases h2 with h2 | ⟨e4,h2⟩
    ·exact .inl (yR h1 h2)
    ·exact .inl (e4▸h1)
   ·rcases h2 with h2 | ⟨e4,h2⟩
    ·exact .inl (by rw [e3];exact h2)
    ·exact .inr ⟨e3.trans e4,by omega⟩
theorem wholeW:Whole cmpW:=⟨cmpW_neg,ul,tk⟩
section
open Go.Shelf Go.Proofs
def sortTri_ren:Go.Shelf.Ren:=⟨λ| 6=>35 | 15=>70 | 14=>69 | 28=>127 | 29=>128 | 20=>119 | 21=>120 | 22=>121 | 23=>122 | 24=>123 | 25=>124 | 26=>125 | 27=>126 | 46=>159 | 47=>160 | 48=>161 | 49=>162 | 50=>163 | 57=>177 | n=>n,λ| 22=>38 | 24=>45 | 25=>80 | 3=>3 | 39=>125 | 0=>0 | 53=>160 | 55=>162 | 4=>4 | 46=>154 | 45=>153 | 50=>84 | 5=>5 | 9=>9 | 66=>177 | 70=>181 | 76=>194 | 77=>195 | n=>n,λ| n=>n⟩
theorem sortTri:Go.Proofs.SlLaysF0.n6 prog sortTri_ren:={
 mixed:=by kernel_rfl
 f6:=⟨Tryz.f35.name,by decide,func35.trans (congrArg some (by kernel_rfl))⟩
 f14:=⟨Tryz.f69.name,by decide,func69.trans (congrArg some (by kernel_rfl))⟩
 f15:=func70.trans (congrArg some (by kernel_rfl))
 f20:=⟨Tryz.f119.name,by decide,func119.trans (congrArg some (by kernel_rfl))⟩
 f21:=⟨Tryz.f120.name,by decide,func120.trans (congrArg some (by kernel_rfl))⟩
 f22:=⟨Tryz.f121.name,by decide,func121.trans (congrArg some (by kernel_rfl))⟩
 f23:=⟨Tryz.f122.name,by decide,func122.trans (congrArg some (by kernel_rfl))⟩
 f24:=⟨Tryz.f123.name,by decide,func123.trans (congrArg some (by kernel_rfl))⟩
 f25:=⟨Tryz.f124.name,by decide,func124.trans (congrArg some (by kernel_rfl))⟩
 f26:=⟨Tryz.f125.name,by decide,func125.trans (congrArg some (by kernel_rfl))⟩
 f27:=⟨Tryz.f126.name,by decide,func126.trans (congrArg some (by kernel_rfl))⟩
 f28:=func127.trans (congrArg some (by kernel_rfl))
 f29:=func128.trans (congrArg some (by kernel_rfl))
 f46:=⟨Tryz.f159.name,by decide,func159.trans (congrArg some (by kernel_rfl))⟩
 f47:=func160.trans (congrArg some (by kernel_rfl))
 f48:=func161.trans (congrArg some (by kernel_rfl))
 f49:=⟨Tryz.f162.name,by decide,func162.trans (congrArg some (by kernel_rfl))⟩
 f50:=⟨Tryz.f163.name,by decide,func163.trans (congrArg some (by kernel_rfl))⟩
 f57:=⟨Tryz.f177.name,by decide,func177.trans (congrArg some (by kernel_rfl))⟩
 t0:=underlying0
 a0:=Tryz.isAgg0
 z0:=Tryz.sizeOf0
 v0:=Tryz.zeroValue0
 t3:=underlying3
 a3:=Tryz.isAgg3
 z3:=Tryz.sizeOf3
 v3:=Tryz.zeroValue3
 t4:=underlying4
 a4:=Tryz.isAgg4
 z4:=Tryz.sizeOf4
 v4:=Tryz.zeroValue4
 t5:=underlying5
 a5:=Tryz.isAgg5
 z5:=Tryz.sizeOf5
 v5:=Tryz.zeroValue5
 t9:=underlying9
 a9:=Tryz.isAgg9
 z9:=Tryz.sizeOf9
 v9:=Tryz.zeroValue9
 t22:=underlying38
 a22:=Tryz.isAgg38
 z22:=Tryz.sizeOf38
 v22:=Tryz.zeroValue38
 t25:=underlying80
 a25:=Tryz.isAgg80
 z25:=Tryz.sizeOf80
 v25:=Tryz.zeroValue80
 t39:=underlying125
 a39:=Tryz.isAgg125
 z39:=Tryz.sizeOf125
 v39:=Tryz.zeroValue125
 t45:=underlying153
 a45:=Tryz.isAgg153
 z45:=Tryz.sizeOf153
 v45:=Tryz.zeroValue153
 t46:=underlying154
 a46:=Tryz.isAgg154
 z46:=Tryz.sizeOf154
 v46:=Tryz.zeroValue154
 t50:=underlying84
 a50:=Tryz.isAgg84
 z50:=Tryz.sizeOf84
 v50:=Tryz.zeroValue84
 t53:=underlying160
 a53:=Tryz.isAgg160
 z53:=Tryz.sizeOf160
 v53:=Tryz.zeroValue160
 t55:=underlying162
 a55:=Tryz.isAgg162
 z55:=Tryz.sizeOf162
 v55:=Tryz.zeroValue162
 t66:=underlying177
 a66:=Tryz.isAgg177
 z66:=Tryz.sizeOf177
 v66:=Tryz.zeroValue177
 t70:=underlying181
 a70:=Tryz.isAgg181
 z70:=Tryz.sizeOf181
 v70:=Tryz.zeroValue181
 t76:=underlying194
 a76:=Tryz.isAgg194
 z76:=Tryz.sizeOf194
 v76:=Tryz.zeroValue194
 t77:=underlying195
 a77:=Tryz.isAgg195
 z77:=Tryz.sizeOf195
 v77:=Tryz.zeroValue195 }
def sortWl_ren:Go.Shelf.Ren:=⟨λ| 6=>50 | 15=>70 | 14=>100 | 28=>127 | 29=>128 | 20=>141 | 21=>142 | 22=>143 | 23=>144 | 24=>145 | 25=>146 | 26=>147 | 27=>148 | 46=>170 | 47=>160 | 48=>161 | 49=>171 | 50=>172 | 57=>178 | n=>n,λ| 22=>41 | 24=>71 | 25=>105 | 3=>3 | 39=>125 | 0=>0 | 53=>160 | 55=>162 | 4=>4 | 46=>154 | 45=>153 | 50=>84 | 5=>5 | 9=>9 | 66=>177 | 70=>181 | 76=>194 | 77=>195 | n=>n,λ| n=>n⟩
theorem sortWl:Go.Proofs.SlLaysF0.n6 prog sortWl_ren:={
 mixed:=by kernel_rfl
 f6:=⟨Tryz.f50.name,by decide,func50.trans (congrArg some (by kernel_rfl))⟩
 f14:=⟨Tryz.f100.name,by decide,func100.trans (congrArg some (by kernel_rfl))⟩
 f15:=func70.trans (congrArg some (by kernel_rfl))
 f20:=⟨Tryz.f141.name,by decide,func141.trans (congrArg some (by kernel_rfl))⟩
 f21:=⟨Tryz.f142.name,by decide,func142.trans (congrArg some (by kernel_rfl))⟩
 f22:=⟨Tryz.f143.name,by decide,func143.trans (congrArg some (by kernel_rfl))⟩
 f23:=⟨Tryz.f144.name,by decide,func144.trans (congrArg some (by kernel_rfl))⟩
 f24:=⟨Tryz.f145.name,by decide,func145.trans (congrArg some (by kernel_rfl))⟩
 f25:=⟨Tryz.f146.name,by decide,func146.trans (congrArg some (by kernel_rfl))⟩
 f26:=⟨Tryz.f147.name,by decide,func147.trans (congrArg some (by kernel_rfl))⟩
 f27:=⟨Tryz.f148.name,by decide,func148.trans (congrArg some (by kernel_rfl))⟩
 f28:=func127.trans (congrArg some (by kernel_rfl))
 f29:=func128.trans (congrArg some (by kernel_rfl))
 f46:=⟨Tryz.f170.name,by decide,func170.trans (congrArg some (by kernel_rfl))⟩
 f47:=func160.trans (congrArg some (by kernel_rfl))
 f48:=func161.trans (congrArg some (by kernel_rfl))
 f49:=⟨Tryz.f171.name,by decide,func171.trans (congrArg some (by kernel_rfl))⟩
 f50:=⟨Tryz.f172.name,by decide,func172.trans (congrArg some (by kernel_rfl))⟩
 f57:=⟨Tryz.f178.name,by decide,func178.trans (congrArg some (by kernel_rfl))⟩
 t0:=underlying0
 a0:=Tryz.isAgg0
 z0:=Tryz.sizeOf0
 v0:=Tryz.zeroValue0
 t3:=underlying3
 a3:=Tryz.isAgg3
 z3:=Tryz.sizeOf3
 v3:=Tryz.zeroValue3
 t4:=underlying4
 a4:=Tryz.isAgg4
 z4:=Tryz.sizeOf4
 v4:=Tryz.zeroValue4
 t5:=underlying5
 a5:=Tryz.isAgg5
 z5:=Tryz.sizeOf5
 v5:=Tryz.zeroValue5
 t9:=underlying9
 a9:=Tryz.isAgg9
 z9:=Tryz.sizeOf9
 v9:=Tryz.zeroValue9
 t22:=underlying41
 a22:=Tryz.isAgg41
 z22:=Tryz.sizeOf41
 v22:=Tryz.zeroValue41
 t25:=underlying105
 a25:=Tryz.isAgg105
 z25:=Tryz.sizeOf105
 v25:=Tryz.zeroValue105
 t39:=underlying125
 a39:=Tryz.isAgg125
 z39:=Tryz.sizeOf125
 v39:=Tryz.zeroValue125
 t45:=underlying153
 a45:=Tryz.isAgg153
 z45:=Tryz.sizeOf153
 v45:=Tryz.zeroValue153
 t46:=underlying154
 a46:=Tryz.isAgg154
 z46:=Tryz.sizeOf154
 v46:=Tryz.zeroValue154
 t50:=underlying84
 a50:=Tryz.isAgg84
 z50:=Tryz.sizeOf84
 v50:=Tryz.zeroValue84
 t53:=underlying160
 a53:=Tryz.isAgg160
 z53:=Tryz.sizeOf160
 v53:=Tryz.zeroValue160
 t55:=underlying162
 a55:=Tryz.isAgg162
 z55:=Tryz.sizeOf162
 v55:=Tryz.zeroValue162
 t66:=underlying177
 a66:=Tryz.isAgg177
 z66:=Tryz.sizeOf177
 v66:=Tryz.zeroValue177
 t70:=underlying181
 a70:=Tryz.isAgg181
 z70:=Tryz.sizeOf181
 v70:=Tryz.zeroValue181
 t76:=underlying194
 a76:=Tryz.isAgg194
 z76:=Tryz.sizeOf194
 v76:=Tryz.zeroValue194
 t77:=underlying195
 a77:=Tryz.isAgg195
 z77:=Tryz.sizeOf195
 v77:=Tryz.zeroValue195 }
def idxWl_ren:Go.Shelf.Ren:=⟨λ| 6=>98 | n=>n,λ| 22=>41 | 23=>71 | 25=>103 | 3=>3 | 0=>0 | 4=>4 | n=>n,λ| n=>n⟩
theorem idxWl:Go.Proofs.SlLaysH0.n6 prog idxWl_ren:={
 mixed:=by kernel_rfl
 f6:=⟨Tryz.f98.name,by decide,func98.trans (congrArg some (by kernel_rfl))⟩
 t0:=underlying0
 a0:=Tryz.isAgg0
 z0:=Tryz.sizeOf0
 v0:=Tryz.zeroValue0
 t3:=underlying3
 a3:=Tryz.isAgg3
 z3:=Tryz.sizeOf3
 v3:=Tryz.zeroValue3
 t4:=underlying4
 a4:=Tryz.isAgg4
 z4:=Tryz.sizeOf4
 v4:=Tryz.zeroValue4
 t22:=underlying41
 a22:=Tryz.isAgg41
 z22:=Tryz.sizeOf41
 v22:=Tryz.zeroValue41
 t25:=underlying103
 a25:=Tryz.isAgg103
 z25:=Tryz.sizeOf103
 v25:=Tryz.zeroValue103 }
def conWl_ren:Go.Shelf.Ren:=⟨λ| 8=>48 | 6=>98 | n=>n,λ| 22=>41 | 23=>71 | 25=>103 | 4=>4 | 3=>3 | 0=>0 | n=>n,λ| n=>n⟩
theorem conWl:Go.Proofs.SlLaysH0.n8 prog conWl_ren:={
 mixed:=by kernel_rfl
 f6:=⟨Tryz.f98.name,by decide,func98.trans (congrArg some (by kernel_rfl))⟩
 f8:=⟨Tryz.f48.name,by decide,func48.trans (congrArg some (by kernel_rfl))⟩
 t0:=underlying0
 a0:=Tryz.isAgg0
 z0:=Tryz.sizeOf0
 v0:=Tryz.zeroValue0
 t3:=underlying3
 a3:=Tryz.isAgg3
 z3:=Tryz.sizeOf3
 v3:=Tryz.zeroValue3
 t4:=underlying4
 a4:=Tryz.isAgg4
 z4:=Tryz.sizeOf4
 v4:=Tryz.zeroValue4
 t22:=underlying41
 a22:=Tryz.isAgg41
 z22:=Tryz.sizeOf41
 v22:=Tryz.zeroValue41
 t25:=underlying103
 a25:=Tryz.isAgg103
 z25:=Tryz.sizeOf103
 v25:=Tryz.zeroValue103 }
def cloneWl_ren:Go.Shelf.Ren:=⟨λ| 41=>31 | n=>n,λ| 22=>41 | 23=>71 | 4=>4 | n=>n,λ| n=>n⟩
theorem cloneWl:Go.Proofs.SlLaysE0.n41 prog cloneWl_ren:={
 mixed:=by kernel_rfl
 f41:=⟨Tryz.f31.name,by decide,func31.trans (congrArg some (by kernel_rfl))⟩
 t4:=underlying4
 a4:=Tryz.isAgg4
 z4:=Tryz.sizeOf4
 v4:=Tryz.zeroValue4
 t22:=underlying41
 a22:=Tryz.isAgg41
 z22:=Tryz.sizeOf41
 v22:=Tryz.zeroValue41 }
end
section
open Go.Lib Go.Shelf
def WRow (w:World) (B:Nat) (v:Value) (L:List Wl):Prop:=w.ownsRow B 71 5 v L.length (L.flatMap cW)
def Flat (a:Option Addr):Prop:=∀ ad,a=some ad->ad.spot=none
theorem WRow.row {w:World} {B:Nat} {v:Value} {L:List Wl} (h:WRow w B v L):∃ a cap,v=.slice a L.length cap/\RowAt cW 5 w a L/\Flat a:=by
 obtain ⟨a,cap,h1,h2⟩:=xQ yS h;refine ⟨a,cap,h1,h2,λad ha=>?_⟩;rcases h.2 with ⟨h0,_⟩ | ⟨g,cap',cur,h0,_⟩
 ·rw [h1] at h0;simp at h0;rw [h0.1] at ha;cases ha
 ·rw [h1] at h0;simp at h0;rw [h0.1] at ha;cases ha;rfl
theorem WRow.nil0 (w:World) (B:Nat):WRow w B (.slice none 0 0) []:=World.ownsRow_nil _ _ _ _
theorem WRow.kept {w w':World} {B:Nat} {v:Value} {L:List Wl} {row:Option Nat} (h:WRow w B v L) (hg:w.grownBy w' row) (hne:v.ownBlock=none\/v.ownBlock≠row):WRow w' B v L:=World.ownsRow.kept h hg hne
theorem WRow.lt {w:World} {B:Nat} {v:Value} {L:List Wl} (h:WRow w B v L):∀ k,v.ownBlock=some k->B<=k/\k < w.heap.size:=World.ownsRow.lt h
theorem WRow.base {w:World} {B B':Nat} {v:Value} {L:List Wl} (h:WRow w B v L) (hb:B'<=B):WRow w B' v L:=by
 refine ⟨h.1,?_⟩;rcases h.2 with h | ⟨g,cap,cur,h0,h1,h2⟩
 ·exact .inl h
 ·exact .inr ⟨g,cap,cur,h0,JY hb h1,h2⟩
theorem WRow.ext {w w':World} {B n:Nat} {v:Value} {L:List Wl} (h:WRow w B v L) (hb:Below n w w') (hn:n=w.heap.size):WRow w' B v L:=by
 refine ⟨h.1,?_⟩;rcases h.2 with h | ⟨g,cap,cur,h0,h1,h2,h3⟩
 ·exact .inl h
 ·refine .inr ⟨g,cap,cur,h0,h1,?_,h3⟩;have hl:g < w.heap.size:=(Q8.1 h2).1;rw [hb.block g (by omega)];exact h2
theorem WRow.ee {w w':World} {B:Nat} {v:Value} {L:List Wl} (h:WRow w B v L) (hb:Below w w w'):WRow w' B v L:=h.ext hb rfl
theorem WRow.box {w:World} {B:Nat} {v:Value} {L:List Wl} (h:WRow w B v L):(v=.slice none 0 0/\L=[])\/∃ g cap tl,v=.slice (some ⟨g,0,none⟩) L.length cap/\B<=g/\Box w g (L.flatMap cW ++ tl) 71/\L.length<=cap/\cap<=maxLen/\tl.length=(cap - L.length) * 5:=by
 rcases h.2 with ⟨h0,h1⟩ | ⟨g,cap,cur,h0,h1,h2,h3,h4,h5,h6⟩
 ·exact .inl ⟨h0,QW h1⟩
 ·refine .inr ⟨g,cap,cur.toList.drop (L.length * 5),h0,h1,?_,h3,h4,?_⟩
  ·rw [<-h6,Jj];exact h2
  ·rw [Ja,Vf,h5];omega
theorem WRow.of_box {w:World} {B g cap:Nat} {L:List Wl} {tl:List Value} (hB:B<=g) (h:Box w g (L.flatMap cW ++ tl) 71) (h1:L.length<=cap) (h2:cap<=maxLen) (h3:tl.length=(cap - L.length) * 5):WRow w B (.slice (some ⟨g,0,none⟩) L.length cap) L:=by
 have hl:=zS yS L;refine ⟨hl,.inr ⟨g,cap,(L.flatMap cW ++ tl).toArray,rfl,hB,h,h1,h2,?_,?_⟩⟩
 ·simp only [List.size_toArray,JC,hl,h3];omega
 ·simp only [<-hl];exact Vh
theorem flatK_list {α:Type} [Inhabited α] {c:α->List Value} {k:Nat} (hc:∀ x,(c x).length=k) (L:List α) (hk:0 < k):(flatK c k L.toArray).toList=L.flatMap c:=by
 apply VI;intro t;by_cases ht:t < L.length * k
 ·have hj:t / k < L.length:=by rwa [U3 hk]
  have e:=yL hc L (t / k) (t % k) L[t / k] (JG hj) (UV _ hk);rw [show t / k * k+t % k=t by rw [Vv];exact Nat.div_add_mod t k] at e;rw [e];have hs:t < (flatK c k L.toArray).toList.length:=by simpa using ht
  rw [JG hs];have g:=get_flatK c k L.toArray t (by simpa using ht);rw [getElem!_pos _ t (by simpa using ht)] at g;rw [Array.getElem_toList,g];have hm:t % k < (c L[t / k]).length:=by rw [hc];exact UV _ hk
  rw [getElem!_pos L.toArray (t / k) (by simpa using hj),List.getElem_toArray,U4,JG hm];rfl
 ·rw [Qo (by simpa using ht),Qo (by rw [zS hc];omega)]
theorem block_sortK {α:Type} [Inhabited α] {c:α->List Value} {k:Nat} {w:World} {g n:Nat} {os:Array Obj} {d:Array α} {cur:Array Value} {T:TypeId} {fr:Nat×Nat} (hb:w.heap[g]? = some (.cells cur T fr)):(sortWorldK c k w g 0 n d os).heap[g]? = some (.cells (putCells id 0 (flatK c k d) cur) T fr):=by
 have hl:g < w.heap.size:=(Q8.1 hb).1;unfold sortWorldK putRowK;rw [heap_grow_old _ _ (by simpa [putRow,mapBlock,Sort.ahead] using hl)];simp [putRow,mapBlock,Sort.ahead,V8,hb,onCells]
theorem cmpLaysW (blk off size:Nat) (w:World):CmpLays prog 51 #[] cW 5 cmpW blk off size w:=λ_ _ _ _ x y=>
 (YH x y _).mono λ_ _ ⟨he,hx⟩=>⟨he,hx.grown⟩
theorem enterW:∀ args w,(callFunc 51 args).run prog w=.ok (.enter 51 args) w:=enters_of func51 (by kernel_rfl) rfl
theorem Zb (B:Nat) (v:Value) (L:List Wl) (hL:L.length<=3000000) (w:World) (h:WRow w B v L):Calls prog 50 #[v,.func (.func 51) #[] #[]] w λe w'=>e=.returned (.tuple #[])/\w.grownBy w' v.ownBlock/\WRow w' B v (srt cmpW L):=by
 have h2:=h.2;have hlen:(srt cmpW L).length=L.length:=(zU (c:=cmpW) L).length_eq;rcases h2 with ⟨rfl,h0⟩ | ⟨g,cap,cur,rfl,hB,hb,h1,h2,h3,h4⟩
 ·have:L=[]:=QW h0;subst this;have hc:=AnyF.slices_SortFunc_none { sortWl with } none 0 (.func (.func 51) #[] #[]) w
  change Calls prog 50 _ _ _ at hc
  exact hc.mono λe w' ⟨he,hw⟩=>⟨he,hw▸⟨rfl,rfl,rfl,JJ _,λ_ _ _=>rfl⟩,by rw [hw,show srt cmpW ([]:List Wl)=[] by simp [srt]];exact WRow.nil0 _ _⟩
 ·obtain ⟨hH,hg⟩:=kK yS h;have hc:=AnyQ.slices_SortFunc_total sortWl 5 Tryz.isAgg71 Tryz.sizeOf71 cW yS jA cmpW wholeW.swo 51 #[] g 0 cap L.toArray w enterW (cmpLaysW g 0 _ w) hH hg (by simp;omega) wholeW.one
  change Calls prog 50 _ _ _ at hc
  rw [show L.toArray.size=L.length by simp] at hc;refine hc.mono λe w' ⟨he,n,os,hw⟩=>⟨he,?_,?_⟩
  ·rw [hw];exact qO _
  ·replace hw:w'=sortWorldK cW 5 w g 0 n (srt cmpW L).toArray os:=hw;rw [hw];refine ⟨zS yS _,.inr ⟨g,cap,_,by rw [hlen],hB,block_sortK hb,by rw [hlen];exact h1,h2,by simp [putCells,h3],?_⟩⟩;rw [<-flatK_list yS (srt cmpW L) (by omega)];have hF:(flatK cW 5 (srt cmpW L).toArray).size=L.length * 5:=by simp [hlen]
   have hcs:L.length * 5<=cur.size:=by rw [h3];omega
   rw [hlen];apply List.ext_getElem
   ·simp [putCells,hlen];omega
   ·intro t h5 h6;have h7:t < L.length * 5:=by simpa [hlen] using h6
    have h8:t < (flatK cW 5 (srt cmpW L).toArray).size:=by rw [hF];exact h7
    have h9:t < cur.size:=by omega
    simp only [Vy,Array.getElem_toList,putCells,Array.getElem_mapIdx,QJ,Nat.sub_zero,Jl,true_and,id];rw [JH h8,getElem!_pos _ t h8]
theorem xT:(prog.info? 71).map (λi=>(i.zero,i.size,i.bytes))=some (some (.agg #[(),(),(),(),()]),5,40):=by kernel_rfl
theorem RowAt.flat {w:World} {b off:Nat} {L:List Wl} (h:RowAt cW 5 w (some ⟨b,off,none⟩) L):∀ t u,(L.flatMap cW)[t]? = some u->b < w.heap.size/\w.cell? ⟨b,off+t,none⟩=some u:=λt u hu=>by
 have ht:t < L.length * 5:=by have:=(JR.1 hu).1;rwa [zS yS] at this
 have hj:t / 5 < L.length:=by omega
 have e:=yL yS L (t / 5) (t % 5) L[t / 5] (JG hj) (by omega);rw [show t / 5 * 5+t % 5=t by omega,hu] at e;obtain ⟨ad,h1,h2,h3⟩:=h (t / 5) L[t / 5] (JG hj);cases h1
 have h4:=h3 (t % 5) u e.symm;simp only [Addr.add_lit] at h4;rw [show off+t / 5 * 5+t % 5=off+t by omega] at h4;exact ⟨h2,h4⟩
theorem uc {a:Option Addr} (hf:Flat a):a=none\/∃ b off,a=some ⟨b,off,none⟩:=by
 cases a with
 | none=>exact .inl rfl
 | some ad=>obtain ⟨b,off,sp⟩:=ad;have:=hf _ rfl;simp at this;subst this;exact .inr ⟨b,off,rfl⟩
theorem tm (a:Option Addr) (c:Nat) (L:List Wl) (hL:L.length<=1000000) (w:World) (h:RowAt cW 5 w a L) (hf:Flat a) (hz:a=none->L=[]):Calls prog 31 #[.slice a L.length c] w λe w'=>∃ v',e=.returned v'/\WRow w' w.heap.size v' L/\Below w w w':=by
 rcases uc hf with rfl | ⟨b,off,rfl⟩
 ·have:=hz rfl;subst this;exact (AnyE.slices_Clone_nil cloneWl 0 c w).mono λe w' ⟨he,hw⟩=>⟨_,he,by rw [hw];exact WRow.nil0 _ _,by rw [hw];exact Below.refl _ _⟩
 ·obtain ⟨i0,hi,hz0,hz1,hz2⟩:=info_parts xT;refine (AnyE.slices_Clone cloneWl i0 _ 5 40 hi hz0 hz1 hz2 rfl (by decide) Tryz.sizeOf71 b off L.length c (L.flatMap cW) w (zS yS L) (by unfold maxLen;omega) (by omega) (λj u hu=>(h.flat j u hu).2) ?_).mono ?_
  ·intro u hu;obtain ⟨x,_,hx⟩:=JO.1 hu;exact jA x u hx
  ·rintro e w' ⟨v',he,ho,_,hb⟩;exact ⟨v',he,ho,hb⟩
theorem Xc (a:Option Addr) (c:Nat) (f:Value) (w:World):Calls prog 98 #[.slice a 0 c,f] w (Rt w (.int .i64 (-1))):=by
 go_enter func98,ntmps98
 go_wp2;refine wp_loop_rounds 1 ?_;try rw [rounds_succ]
 go_wp2
 go_ret
 exact ⟨rfl,by go_grown⟩
theorem conW_empty (a:Option Addr) (c:Nat) (f:Value) (w:World):Calls prog 48 #[.slice a 0 c,f] w (Rt w (.bool false)):=by
 have c1:=Xc a c f
 go_enter func48,ntmps48
 go_wp2_with fail;refine (c1 _).mono ?_;rintro e w1 ⟨rfl,hb⟩;go_wp2
 go_ret
 exact ⟨rfl,hb⟩
theorem Xd (p:Wl->Bool) (g:Nat) (lb:Array Value) (eg:∀ args w,(callFunc g args).run prog w=.ok (.enter g args) w) (a:Option Addr) (c:Nat) (L:List Wl) (hL:L.length<=1000000) (w:World) (h:RowAt cW 5 w a L) (hf:Flat a) (hp:PredBelow prog g lb (λx=>.agg (cW x).toArray) p w):Calls prog 48 #[.slice a L.length c,.func (.func g) #[] lb] w (Rt w (.bool (L.any p))):=by
 by_cases hn:L=[]
 ·subst hn;exact conW_empty a c _ w
 ·have h0:0 < L.length:=VK.2 hn;rcases uc hf with rfl | ⟨b,off,rfl⟩
  ·obtain ⟨ad,h1,_⟩:=h 0 L[0] (JG h0);cases h1
  ·have hb:b < w.heap.size:=by obtain ⟨ad,h1,h2,_⟩:=h 0 L[0] (JG h0);cases h1;exact h2
   have hc:=AnyQ.slices_ContainsFunc conWl 5 Tryz.isAgg71 Tryz.sizeOf71 cW yS p g lb eg b off L.length c L w hp (JJ _) (by omega) hb (λj hj i v hv=>by
    rw [getElem!_pos L j hj] at hv;obtain ⟨ad,h1,_,h3⟩:=h j L[j] (JG hj);cases h1
    have:=h3 i v hv
    simpa only [Addr.add_lit] using this)
   change Calls prog 48 _ _ _ at hc
   rwa [JV (JJ _)] at hc
end
def bsb (f:Wl->Int) (L:List Wl) (m:Nat):Bool:=match L[m]? with | some x=>f x == 0 | none=>false
theorem toExt2 {P:Program} {f:FuncId} {args:Array Value} {v:Value} {W:World} (c:∀ d os,Calls P f args (grow (redrawn W d) os) λe w'=>e=.returned v/\Below (grow (redrawn W d) os).heap.size (grow (redrawn W d) os) w'):∀ d os,Calls P f args (grow (redrawn W d) os) λe w'=>e=.returned v/\Ext (grow (redrawn W d) os) w':=c
def Five (w:World) (A:Addr) (p:Wl):Prop:=A.block < w.heap.size/\w.cell? A=some (.int .i64 p.A.x)/\w.cell? ⟨A.block,A.off+1,none⟩=some (.int .i64 p.A.y)/\w.cell? ⟨A.block,A.off+2,none⟩=some (.int .i64 p.B.x)/\w.cell? ⟨A.block,A.off+3,none⟩=some (.int .i64 p.B.y)/\w.cell? ⟨A.block,A.off+4,none⟩=some (.int .i64 p.K)
theorem RowAt.five {w:World} {a:Option Addr} {L:List Wl} (h:RowAt cW 5 w a L) {j:Nat} (hj:j < L.length):∃ ad A,a=some ad/\ad.add (j * 5)=A/\Five w A L[j]:=by
 obtain ⟨ad,A,h1,h2,_,h4,h5⟩:=h.wal hj;exact ⟨ad,A,h1,h2,h4,h5⟩
theorem Five.ext {w w':World} {A:Addr} {p:Wl} {n:Nat} (h:Five w A p) (hb:Below n w w') (hn:n=w.heap.size):Five w' A p:=by
 obtain ⟨h0,h1,h2,h3,h4,h5⟩:=h;have e:∀ q:Addr,q.block=A.block->w'.cell? q=w.cell? q:=λq hq=>hb.cell (by rw [hq,hn];exact h0);exact ⟨QN h0 hb.size,(e A rfl).trans h1,(e ⟨A.block,A.off+1,none⟩ rfl).trans h2,(e ⟨A.block,A.off+2,none⟩ rfl).trans h3,(e ⟨A.block,A.off+3,none⟩ rfl).trans h4,(e ⟨A.block,A.off+4,none⟩ rfl).trans h5⟩
theorem Five.ee {w w':World} {A:Addr} {p:Wl} (h:Five w A p) (hb:Below w w w'):Five w' A p:=h.ext hb rfl
theorem Five.f {w:World} {A:Addr} {p:Wl} (h:Five w A p):(A.block=w.heap.size)=False/\w.cell? A=some (.int .i64 p.A.x)/\w.cell? ⟨A.block,A.off+1,none⟩=some (.int .i64 p.A.y)/\w.cell? ⟨A.block,A.off+2,none⟩=some (.int .i64 p.B.x)/\w.cell? ⟨A.block,A.off+3,none⟩=some (.int .i64 p.B.y)/\w.cell? ⟨A.block,A.off+4,none⟩=some (.int .i64 p.K):=⟨by simp;have:=h.1;omega,h.2⟩
theorem Five.cells {w:World} {A:Addr} {p:Wl} (h:Five w A p):(∀ d os,(grow (redrawn w d) os).cell? A=some (.int .i64 p.A.x))/\(∀ d os,(grow (redrawn w d) os).cell? ⟨A.block,A.off+1,none⟩=some (.int .i64 p.A.y))/\(∀ d os,(grow (redrawn w d) os).cell? ⟨A.block,A.off+2,none⟩=some (.int .i64 p.B.x))/\(∀ d os,(grow (redrawn w d) os).cell? ⟨A.block,A.off+3,none⟩=some (.int .i64 p.B.y))/\(∀ d os,(grow (redrawn w d) os).cell? ⟨A.block,A.off+4,none⟩=some (.int .i64 p.K)):=by
 have e:=λd os=>(h.ext (below_regrown w d os) rfl).2;exact ⟨λd os=>(e d os).1,λd os=>(e d os).2.1,λd os=>(e d os).2.2.1,λd os=>(e d os).2.2.2.1,λd os=>(e d os).2.2.2.2⟩
theorem bsW_any (a:Option Addr) (c:Nat) (L:List Wl) (hL:L.length<=1000000) (T:Wl) (m:Nat) (hm:∀ (k:Nat) (hk:k < L.length),cmpW L[k] T < 0↔k < m) (hmn:m<=L.length) (w:World) (h:RowAt cW 5 w a L):Calls prog 74 #[.slice a L.length c,.agg #[T.A.x,T.A.y,T.B.x,T.B.y,T.K],.func (.func 51) #[] #[]] w (Rt w (.tuple #[m,.bool (bsb (λx=>cmpW x T) L m)])):=by
 obtain ⟨n,hn1⟩:∃ n,L.length=n:=⟨_,rfl⟩;have hn:n<=1000000:=hn1▸hL;have hmn':m<=n:=hn1▸hmn;have H1:=hdd hn1;have HM:=hdd hm;rw [hn1];clear hL hmn hm hn1;have hnl:n<=n:=JJ n
 go_enter func74,ntmps74
 go_wp2_with fail;refine zG λW1 hW=>?_;have BT:Box W1 w [T.A.x,T.A.y,T.B.x,T.B.y,T.K] 71:=by rw [hW];exact Box.new rfl
 have hw:Below w w W1:=by rw [hW];go_grown
 clear hW
 go_loopw [9,10,11] (λvi vj vh wr=>∃ i j:Nat,vi=.int .i64 i/\vj=.int .i64 j/\i<=m/\m<=j/\j<=n/\Below w w wr/\Box wr w [T.A.x,T.A.y,T.B.x,T.B.y,T.K] 71) (λvi vj _ _=>(intOf vj).toNat - (intOf vi).toNat)
 case atStart=>exact ⟨0,n,rfl,rfl,Jl _,hmn',hnl,hw,BT⟩
 case round=>
  clear BT hw;obtain ⟨i,j,rfl,rfl,h1,h2,h3,hwr,BT⟩:=hrel;by_cases hij:i < j
  ·have hh:i < (i+j) / 2+1/\(i+j) / 2 < j:=by omega
   obtain ⟨q,hq⟩:∃ q,(i+j) / 2=q:=⟨_,rfl⟩;rw [hq] at hh;obtain ⟨hh1,hh2⟩:=hh;have hqn:q < n:=by omega
   have hqi:((i:Int)+(j:Int)) / 2=(q:Int):=by omega
   have hmq:=HM.o q (by rw [H1.o];exact hqn);obtain ⟨ad,A,ea,eA,hA⟩:=(h.ee hwr).five (j:=q) (by rw [H1.o];exact hqn);have cc:=Xg (L[q]'(by rw [H1.o];exact hqn)) T;have gT:=BT.cells;obtain ⟨s0,s1,s2,s3,s4⟩:=hA.cells;generalize L[q]'(by rw [H1.o];exact hqn)=X at *
   generalize cmpW X T=z at *
   have HQ:=hdd hmq;have H12:=hdd (And.intro (And.intro h1 h2) (And.intro hh1 hh2));clear hmq h1 h2 hq hh1 hh2;subst ea;by_cases hz:z < 0
   ·have hd:decide (z < 0)=true:=by simpa using hz
    have HZ:=hdd (HQ.o.1 hz);clear hz;go_wp2_with fail;refine (wp_region_tail 7 (by kernel_rfl) (by kernel_rfl) (C:=λw'=>∃ p:Regrown,w'=grow (redrawn wr p.d) p.os) rgB ?_);simp only [tK1,tK0,dP1,dP0];refine wkx ?_;intro w2 hb;have hw2:=(upB hwr hb);have BT2:=BT.ee hb;clear gT s0 s1 s2 s3 s4 hA;go_wp2
    go_roundw
    case rel=>exact ⟨q+1,j,by go_num,rfl,HZ.o,H12.o.1.2,h3,hw2,BT2⟩
    case measure=>simp [intOf];have:=H12.o.2.1;have:=H12.o.2.2;omega
   ·have hd:decide (z < 0)=false:=by simpa using hz
    have HZ:=hdd (show m<=q from Nat.le_of_not_lt λe=>hz (HQ.o.2 e));clear hz;go_wp2_with fail;refine (wp_region_tail 7 (by kernel_rfl) (by kernel_rfl) (C:=λw'=>∃ p:Regrown,w'=grow (redrawn wr p.d) p.os) rgB ?_);simp only [tK1,tK0,dP1,dP0];refine wkx ?_;intro w2 hb;have hw2:=(upB hwr hb);have BT2:=BT.ee hb;clear gT s0 s1 s2 s3 s4 hA;go_wp2
    go_roundw
    case rel=>exact ⟨i,q,rfl,rfl,H12.o.1.1,HZ.o,by omega,hw2,BT2⟩
    case measure=>simp [intOf];have:=H12.o.2.1;have:=H12.o.2.2;omega
  ·obtain rfl:i=m:=by omega
   obtain rfl:j=i:=by omega
   have gT:=BT.cells;by_cases hlt:j < n
   ·obtain ⟨ad,A,ea,eA,hA⟩:=(h.ee hwr).five (j:=j) (by rw [H1.o];exact hlt);have cc:=Xg (L[j]'(by rw [H1.o];exact hlt)) T;have HB:Hi (bsb (λx=>cmpW x T) L j=(cmpW (L[j]'(by rw [H1.o];exact hlt)) T == 0)):=hdd (by unfold bsb;rw [JG (by rw [H1.o];exact hlt)]);generalize L[j]'(by rw [H1.o];exact hlt)=X at *
    generalize cmpW X T=z at *
    obtain ⟨s0,s1,s2,s3,s4⟩:=hA.cells;subst ea;go_wp2_with fail;refine (wp_region_tail 15 (by kernel_rfl) (by kernel_rfl) (C:=λw'=>∃ p:Regrown,w'=grow (redrawn wr p.d) p.os) rgB ?_);simp only [tK1,tK0,dP1,dP0];refine wkx ?_;intro w2 hb;have hw2:=(upB hwr hb);clear gT s0 s1 s2 s3 s4 hA;go_wp2_with fail;refine bodyPost_ret (v:=.tuple #[.int .i64 j,.bool (z == 0)]) (by simp [results,results74,go_sem]) rfl ⟨by rw [HB.o],hw2⟩
   ·have HB:Hi (bsb (λx=>cmpW x T) L j=false):=hdd (by unfold bsb;rw [Qo (by rw [H1.o];omega)]);go_wp2_with fail;refine (wp_region_tail 15 (by kernel_rfl) (by kernel_rfl) (C:=λw'=>∃ p:Regrown,w'=grow (redrawn wr p.d) p.os) rgB ?_);simp only [tK1,tK0,dP1,dP0];repeat (first | (refine zK (Eq.refl false) ?_;simp only [Act.put,sT2,sT1,sT0]) | (refine rWalk_step (λK hK=>?_);go_simp;refine hK _ ?_;clear hK K))
    refine rWalk_nil ?_;intro w2 hb;have hw2:=(upB hwr hb);clear gT;go_wp2_with fail;refine bodyPost_ret (v:=.tuple #[.int .i64 j,.bool false]) (by simp [results,results74,go_sem]) rfl ⟨by rw [HB.o],hw2⟩
def bgn (X:Wl) (p:Pt):Int:=if decide (0 < cmpP X.A p) then 1 else -1
theorem bgn_0 (X:Wl) (p:Pt) (h:decide (0 < cmpP X.A p)=false) (w:World):Calls prog 154 #[.agg #[X.A.x,X.A.y,X.B.x,X.B.y,X.K],p] w (Rt w (.int .i64 (bgn X p))):=by
 have c1:=zo X.A p;rw [show bgn X p = -1 by unfold bgn;rw [h];rfl];generalize cmpP X.A p=z at *
 go_enter func154,ntmps154
 go_wp2_with fail;refine qE2 λW1 Bx Bp hw=>?_;refine qC2 (c1 _) Bx Bp hw λw2 Bx Bp hw RY=>?_;go_wp2
 go_ret
 exact ⟨rfl,by have hl:=hw.size;go_grown⟩
theorem bgn_1 (X:Wl) (p:Pt) (h:decide (0 < cmpP X.A p)=true) (w:World):Calls prog 154 #[.agg #[X.A.x,X.A.y,X.B.x,X.B.y,X.K],p] w (Rt w (.int .i64 (bgn X p))):=by
 have c1:=zo X.A p;rw [show bgn X p=1 by unfold bgn;rw [h];rfl];generalize cmpP X.A p=z at *
 go_enter func154,ntmps154
 go_wp2_with fail;refine qE2 λW1 Bx Bp hw=>?_;refine qC2 (c1 _) Bx Bp hw λw2 Bx Bp hw RY=>?_;go_wp2
 go_ret
 exact ⟨rfl,by have hl:=hw.size;go_grown⟩
theorem Kf (X:Wl) (p:Pt) (w:World):Calls prog 154 #[.agg #[X.A.x,X.A.y,X.B.x,X.B.y,X.K],p] w (Rt w (.int .i64 (bgn X p))):=by
 cases h:decide (0 < cmpP X.A p) with
 | false=>exact bgn_0 X p h w
 | true=>exact bgn_1 X p h w
theorem bsP_any (a:Option Addr) (c:Nat) (L:List Wl) (hL:L.length<=1000000) (p:Pt) (m:Nat) (hm:∀ (k:Nat) (hk:k < L.length),bgn L[k] p < 0↔k < m) (hmn:m<=L.length) (w:World) (h:RowAt cW 5 w a L):Calls prog 153 #[.slice a L.length c,p,.func (.func 154) #[] #[]] w (Rt w (.tuple #[m,.bool (bsb (λx=>bgn x p) L m)])):=by
 obtain ⟨n,hn1⟩:∃ n,L.length=n:=⟨_,rfl⟩;have hn:n<=1000000:=hn1▸hL;have hmn':m<=n:=hn1▸hmn;have H1:=hdd hn1;have HM:=hdd hm;rw [hn1];clear hL hmn hm hn1;have hnl:n<=n:=JJ n
 go_enter func153,ntmps153
 go_wp2_with fail;refine zG λW1 hW=>?_;have BT:Box W1 w [p.x,p.y] 34:=by rw [hW];exact Box.new rfl
 have hw:Below w w W1:=by rw [hW];go_grown
 clear hW
 go_loopw [9,10,11] (λvi vj vh wr=>∃ i j:Nat,vi=.int .i64 i/\vj=.int .i64 j/\i<=m/\m<=j/\j<=n/\Below w w wr/\Box wr w [p.x,p.y] 34) (λvi vj _ _=>(intOf vj).toNat - (intOf vi).toNat)
 case atStart=>exact ⟨0,n,rfl,rfl,Jl _,hmn',hnl,hw,BT⟩
 case round=>
  clear BT hw;obtain ⟨i,j,rfl,rfl,h1,h2,h3,hwr,BT⟩:=hrel;by_cases hij:i < j
  ·have hh:i < (i+j) / 2+1/\(i+j) / 2 < j:=by omega
   obtain ⟨q,hq⟩:∃ q,(i+j) / 2=q:=⟨_,rfl⟩;rw [hq] at hh;obtain ⟨hh1,hh2⟩:=hh;have hqn:q < n:=by omega
   have hqi:((i:Int)+(j:Int)) / 2=(q:Int):=by omega
   have hmq:=HM.o q (by rw [H1.o];exact hqn);obtain ⟨ad,A,ea,eA,hA⟩:=(h.ee hwr).five (j:=q) (by rw [H1.o];exact hqn);have cc:=Kf (L[q]'(by rw [H1.o];exact hqn)) p;have gT:=BT.cells;obtain ⟨s0,s1,s2,s3,s4⟩:=hA.cells;generalize L[q]'(by rw [H1.o];exact hqn)=X at *
   generalize bgn X p=z at *
   have HQ:=hdd hmq;have H12:=hdd (And.intro (And.intro h1 h2) (And.intro hh1 hh2));clear hmq h1 h2 hq hh1 hh2;subst ea;by_cases hz:z < 0
   ·have hd:decide (z < 0)=true:=by simpa using hz
    have HZ:=hdd (HQ.o.1 hz);clear hz;go_wp2_with fail;refine (wp_region_tail 7 (by kernel_rfl) (by kernel_rfl) (C:=λw'=>∃ p:Regrown,w'=grow (redrawn wr p.d) p.os) rgB ?_);simp only [tK1,tK0,dP1,dP0];refine wkx ?_;intro w2 hb;have hw2:=(upB hwr hb);have BT2:=BT.ee hb;clear gT s0 s1 s2 s3 s4 hA;go_wp2
    go_roundw
    case rel=>exact ⟨q+1,j,by go_num,rfl,HZ.o,H12.o.1.2,h3,hw2,BT2⟩
    case measure=>simp [intOf];have:=H12.o.2.1;have:=H12.o.2.2;omega
   ·have hd:decide (z < 0)=false:=by simpa using hz
    have HZ:=hdd (show m<=q from Nat.le_of_not_lt λe=>hz (HQ.o.2 e));clear hz;go_wp2_with fail;refine (wp_region_tail 7 (by kernel_rfl) (by kernel_rfl) (C:=λw'=>∃ p:Regrown,w'=grow (redrawn wr p.d) p.os) rgB ?_);simp only [tK1,tK0,dP1,dP0];refine wkx ?_;intro w2 hb;have hw2:=(upB hwr hb);have BT2:=BT.ee hb;clear gT s0 s1 s2 s3 s4 hA;go_wp2
    go_roundw
    case rel=>exact ⟨i,q,rfl,rfl,H12.o.1.1,HZ.o,by omega,hw2,BT2⟩
    case measure=>simp [intOf];have:=H12.o.2.1;have:=H12.o.2.2;omega
  ·obtain rfl:i=m:=by omega
   obtain rfl:j=i:=by omega
   have gT:=BT.cells;by_cases hlt:j < n
   ·obtain ⟨ad,A,ea,eA,hA⟩:=(h.ee hwr).five (j:=j) (by rw [H1.o];exact hlt);have cc:=Kf (L[j]'(by rw [H1.o];exact hlt)) p;have HB:Hi (bsb (λx=>bgn x p) L j=(bgn (L[j]'(by rw [H1.o];exact hlt)) p == 0)):=hdd (by unfold bsb;rw [JG (by rw [H1.o];exact hlt)]);generalize L[j]'(by rw [H1.o];exact hlt)=X at *
    generalize bgn X p=z at *
    obtain ⟨s0,s1,s2,s3,s4⟩:=hA.cells;subst ea;go_wp2_with fail;refine (wp_region_tail 15 (by kernel_rfl) (by kernel_rfl) (C:=λw'=>∃ p:Regrown,w'=grow (redrawn wr p.d) p.os) rgB ?_);simp only [tK1,tK0,dP1,dP0];refine wkx ?_;intro w2 hb;have hw2:=(upB hwr hb);clear gT s0 s1 s2 s3 s4 hA;go_wp2_with fail;refine bodyPost_ret (v:=.tuple #[.int .i64 j,.bool (z == 0)]) (by simp [results,results153,go_sem]) rfl ⟨by rw [HB.o],hw2⟩
   ·have HB:Hi (bsb (λx=>bgn x p) L j=false):=hdd (by unfold bsb;rw [Qo (by rw [H1.o];omega)]);go_wp2_with fail;refine (wp_region_tail 15 (by kernel_rfl) (by kernel_rfl) (C:=λw'=>∃ p:Regrown,w'=grow (redrawn wr p.d) p.os) rgB ?_);simp only [tK1,tK0,dP1,dP0];repeat (first | (refine zK (Eq.refl false) ?_;simp only [Act.put,sT2,sT1,sT0]) | (refine rWalk_step (λK hK=>?_);go_simp;refine hK _ ?_;clear hK K))
    refine rWalk_nil ?_;intro w2 hb;have hw2:=(upB hwr hb);clear gT;go_wp2_with fail;refine bodyPost_ret (v:=.tuple #[.int .i64 j,.bool false]) (by simp [results,results153,go_sem]) rfl ⟨by rw [HB.o],hw2⟩
def bar1 (X V:Wl):Bool := !bsd X V.A V.B && decide (meetS X.A X.B V.A V.B≠0)
theorem bar1_0 (X V:Wl) (bv:Nat) (h:bsd X V.A V.B) (w:World) (Hv:Box w bv [V.A.x,V.A.y,V.B.x,V.B.y,V.K] 71):Calls prog 150 #[.agg #[X.A.x,X.A.y,X.B.x,X.B.y,X.K],pt0 bv] w (Rt w (.bool (bar1 X V))):=by
 have c1:=Xk X V.A V.B;have c2:=uR X.A X.B V.A V.B;have HE:Hi (bar1 X V=false):=hdd (by unfold bar1;rw [h];rfl);rw [h] at c1;clear h;generalize meetS X.A X.B V.A V.B=z at *
 go_enter func150,ntmps150
 have Fh:=Hv.f;go_wp2_with fail;clear Fh;refine qE1 λW1 Bx hw=>?_;have BV:Box W1 bv [V.A.x,V.A.y,V.B.x,V.B.y,V.K] 71:=Hv.ee hw;have GY:=J2 Bx.f BV.f;clear GY;refine qC2 (c1 _) Bx BV hw λw2 Bx BV hw GY=>?_;go_wp2
 go_ret
 exact ⟨yO (by rw [HE.o]),by have hl:=hw.size;go_grown⟩
theorem bar1_1 (X V:Wl) (bv:Nat) (h:bsd X V.A V.B=false) (w:World) (Hv:Box w bv [V.A.x,V.A.y,V.B.x,V.B.y,V.K] 71):Calls prog 150 #[.agg #[X.A.x,X.A.y,X.B.x,X.B.y,X.K],pt0 bv] w (Rt w (.bool (bar1 X V))):=by
 have c1:=Xk X V.A V.B;have c2:=uR X.A X.B V.A V.B;have HE:Hi (bar1 X V=(meetS X.A X.B V.A V.B != 0)):=hdd (by unfold bar1;rw [h];rw [Bool.not_false,Qq,Qm];simp);rw [h] at c1;clear h;generalize meetS X.A X.B V.A V.B=z at *
 go_enter func150,ntmps150
 have Fh:=Hv.f;go_wp2_with fail;clear Fh;refine qE1 λW1 Bx hw=>?_;have BV:Box W1 bv [V.A.x,V.A.y,V.B.x,V.B.y,V.K] 71:=Hv.ee hw;have GY:=J2 Bx.f BV.f;clear GY;refine qC2 (c1 _) Bx BV hw λw2 Bx BV hw GY=>?_;go_wp2_with fail;clear GY;refine qC2 (c2 _) Bx BV hw λw3 Bx BV hw GY=>?_;go_wp2
 go_ret
 exact ⟨yO (by rw [HE.o]),by have hl:=hw.size;go_grown⟩
theorem bar1_any (X V:Wl) (bv:Nat) (w:World) (Hv:Box w bv [V.A.x,V.A.y,V.B.x,V.B.y,V.K] 71):Calls prog 150 #[.agg #[X.A.x,X.A.y,X.B.x,X.B.y,X.K],pt0 bv] w (Rt w (.bool (bar1 X V))):=by
 cases h:bsd X V.A V.B with
 | true=>exact bar1_0 X V bv h w Hv
 | false=>exact bar1_1 X V bv h w Hv
theorem bar1_enter:∀ args w,(callFunc 150 args).run prog w=.ok (.enter 150 args) w:=enters_of func150 (by kernel_rfl) rfl
theorem bar1_pred (V:Wl) (bv:Nat) (w:World) (Hv:Box w bv [V.A.x,V.A.y,V.B.x,V.B.y,V.K] 71):PredBelow prog 150 #[pt0 bv] (λx=>.agg (cW x).toArray) (λx=>bar1 x V) w:=λW x hb=>
 (bar1_any x V bv W (Hv.ee hb)).mono λ_ _ ⟨he,hx⟩=>⟨he,(upB hb hx)⟩
theorem uq (V:Wl) (a:Option Addr) (c n:Nat) (L:List Wl) (hn:L.length=n) (hL:L.length<=1000000) (hf:Flat a) (w:World) (h:RowAt cW 5 w a L):Calls prog 104 #[.slice a n c,.agg #[V.A.x,V.A.y,V.B.x,V.B.y,V.K]] w (Rt w (.bool (L.any λx=>bar1 x V))):=by
 go_enter func104,ntmps104
 go_wp2_with fail;refine qE1 λW1 Bv hw=>?_;have c1:=Xd (λx=>bar1 x V) _ _ bar1_enter a c L hL _ (h.ee hw) hf (bar1_pred V _ _ Bv);rw [hn] at c1;refine qC1 (c1) Bv hw λw2 Bv hw Fv=>?_;go_wp2
 go_ret
 exact ⟨rfl,by have hl:=hw.size;go_grown⟩
theorem begun_some (sb:Nat) (a:Option Addr) (c n:Nat) (L:List Wl) (hn:L.length=n) (hL:L.length<=1000000) (hnc:n<=c) (p:Pt) (m:Nat) (hm:∀ (k:Nat) (hk:k < L.length),bgn L[k] p < 0↔k < m) (hmn:m<=L.length) (w:World) (Bs:Box w sb [.slice a n c] 74) (h:RowAt cW 5 w a L):Calls prog 106 #[pt0 sb,p] w (Rt w (.slice a m c)):=by
 go_enter func106,ntmps106
 go_wp2_with fail;refine qD1 λW1 Bp hw=>?_;have BS:Box W1 (sb) [.slice a n c] 74:=Bs.ee hw;have cc:∀ d os,Calls prog 153 #[.slice a n c,p,.func (.func 154) #[] #[]] (grow (redrawn W1 d) os) λe w'=>e=.returned (.tuple #[m,.bool (bsb (λx=>bgn x p) L m)])/\Below (grow (redrawn W1 d) os).heap.size (grow (redrawn W1 d) os) w':=λd os=>by
  have:=bsP_any a c L hL p m hm hmn _ ((h.ee hw).ext (below_regrown W1 d os) rfl)
  rwa [hn] at this
 generalize bsb (λx=>bgn x p) L m=bb at *
 have RX:=J2 Bp.cells BS.cells;refine wrt 10 (by kernel_rfl) (by kernel_rfl) ?_;simp only [tK1,tK0,dP1,dP0];refine wkx ?_;intro w2 hb;clear RX;obtain ⟨Bp,BS,hw,-⟩:=qX2 Bp BS hw hb;have hmn2:m<=n:=by rw [<-hn];exact hmn
 have hnc2:=hnc;have Sz:=J2 Bp.f BS.f;go_wp2
 go_ret
 exact ⟨rfl,by have hl:=hw.size;go_grown⟩
def fnd (L:List Wl) (m:Nat) (p q:Pt):Bool:=match L[m]? with | some x=>decide (x.A=p) && decide (x.B=q) | none=>false
theorem find_some (sb:Nat) (a0:Option Addr) (c n:Nat) (L:List Wl) (hn:L.length=n) (hL:L.length<=1000000) (a b:Pt) (m:Nat) (hm:∀ (k:Nat) (hk:k < L.length),cmpW L[k] ⟨lo2 a b,hi2 a b,0⟩ < 0↔k < m) (hmn:m<=L.length) (w:World) (Bs:Box w sb [.slice a0 n c] 74) (h:RowAt cW 5 w a0 L):Calls prog 37 #[pt0 sb,a,b] w (Rt w (.tuple #[m,.bool (fnd L m (lo2 a b) (hi2 a b))])):=by
 have c1:=XE a b;generalize lo2 a b=p at *
 generalize hi2 a b=q at *
 go_enter func37,ntmps37
 have hsb:=Bs.lt;go_wp2_with fail;refine qE3 λW1 Ba Bb Bv hw=>?_;refine qK3 (c1 _) Ba Bb Bv hw λw2 Ba Bb Bv hw=>?_;have BS:Box w2 (sb) [.slice a0 n c] 74:=Bs.ee hw;have Kz:=J4 Ba.f Bb.f Bv.f BS.f;go_wp2_with fail;refine zG λW3 hW=>?_;replace Ba:=sto Ba hW;replace Bb:=sto Bb hW;replace Bv:=sto Bv hW;replace BS:=sto BS hW;replace hw:=stw hw hW;clear Kz;clear hW;have cc:∀ d os,Calls prog 74 #[.slice a0 n c,.agg #[p.x,p.y,q.x,q.y,()],.func (.func 51) #[] #[]] (grow (redrawn W3 d) os) λe w'=>e=.returned (.tuple #[m,.bool (bsb (λx=>cmpW x ⟨p,q,0⟩) L m)])/\Below (grow (redrawn W3 d) os).heap.size (grow (redrawn W3 d) os) w':=λd os=>by
  have:=bsW_any a0 c L hL ⟨p,q,0⟩ m hm hmn _ ((h.ee hw).ext (below_regrown W3 d os) rfl)
  rwa [hn] at this
 generalize bsb (λx=>cmpW x ⟨p,q,0⟩) L m=bb at *
 have GJ:=J4 Ba.cells Bb.cells Bv.cells BS.cells;refine wrt 10 (by kernel_rfl) (by kernel_rfl) ?_;simp only [tK1,tK0,dP1,dP0];refine wkx ?_;intro w4 hb;clear GJ;obtain ⟨Ba,Bb,Bv,BS,hw,-⟩:=qX4 Ba Bb Bv BS hw hb;clear cc;have Kz:=J4 Ba.f Bb.f Bv.f BS.f;go_wp2_with fail;clear Kz;by_cases hlt:m < n
 ·have hmL:m < L.length:=by rw [hn];exact hlt
  obtain ⟨ad,A,ea,eA,hA⟩:=(h.ee hw).five (j:=m) hmL;have HB0:Hi (fnd L m p q=(decide (L[m].A=p) && decide (L[m].B=q))):=hdd (by unfold fnd;rw [JG hmL]);generalize L[m]=X at *
  obtain ⟨s0,s1,s2,s3,s4⟩:=hA.cells;subst ea;cases e1:peqI X.A.x X.A.y p.x p.y with
  | false=>
   have HB:Hi (fnd L m p q=false):=hdd (by rw [HB0.o,<-zq,<-zq,e1];rfl);clear HB0;clear hA;have GJ:=J4 Ba.cells Bb.cells Bv.cells BS.cells;refine rgn 35 (λw5 hb=>?_);clear GJ;obtain ⟨Ba,Bb,Bv,BS,hw,Kz⟩:=qX4 Ba Bb Bv BS hw hb;go_wp2_with fail;refine bodyPost_ret (v:=.tuple #[m,.bool false]) (by simp [results,results37,go_sem]) rfl ⟨by rw [HB.o],by have hl:=hw.size;go_grown⟩
  | true=>
   have HB:Hi (fnd L m p q=peqI X.B.x X.B.y q.x q.y):=hdd (by rw [HB0.o,<-zq,<-zq,e1];rfl);clear HB0;clear hA;have GJ:=J4 Ba.cells Bb.cells Bv.cells BS.cells;refine rgn 35 (λw5 hb=>?_);clear GJ;obtain ⟨Ba,Bb,Bv,BS,hw,Kz⟩:=qX4 Ba Bb Bv BS hw hb;go_wp2_with fail;refine bodyPost_ret (v:=.tuple #[m,.bool (peqI X.B.x X.B.y q.x q.y)]) (by simp [results,results37,go_sem]) rfl ⟨by rw [HB.o],by have hl:=hw.size;go_grown⟩
 ·have HB:Hi (fnd L m p q=false):=hdd (by unfold fnd;rw [Qo (by rw [hn];omega)])
  skip
  have GJ:=J4 Ba.cells Bb.cells Bv.cells BS.cells;refine rgn 35 (λw5 hb=>?_);clear GJ;obtain ⟨Ba,Bb,Bv,BS,hw,Kz⟩:=qX4 Ba Bb Bv BS hw hb;go_wp2_with fail;refine bodyPost_ret (v:=.tuple #[m,.bool false]) (by simp [results,results37,go_sem]) rfl ⟨by rw [HB.o],by have hl:=hw.size;go_grown⟩
section
variable {α:Type} {c:α->α->Int}
def Rising (c:α->α->Int) (L:List α):Prop:=L.Pairwise λx y=>c x y < 0
theorem yB (W:Whole c):∀ {L M:List α},Rising c L->Rising c M->(∀ p,p∈L↔p∈M)->L=M
 | [],M,_,_,h=>by
  cases M with
  | nil=>rfl
  | cons y M=>exact absurd ((h y).2 (by simp)) (by simp)
 | x :: L,M,h1,h2,h=>by
  cases M with
  | nil=>exact absurd ((h x).1 (by simp)) (by simp)
  | cons y M=>
   unfold Rising at h1 h2;rw [Q6] at h1 h2;have irr:∀ z,¬ c z z < 0:=λz=>by have:=(W.eq0 (x:=z) (y:=z)).2 rfl;omega
   have e:x=y:=by
    rcases J1.1 ((h x).1 (by simp)) with e | hx
    ·exact e
    ·rcases J1.1 ((h y).2 (by simp)) with e | hy
     ·exact e.symm
     ·exact absurd (W.trans (h1.1 y hy) (h2.1 x hx)) (irr _)
   subst e;rw [yB W h1.2 h2.2 (λp=>⟨λhp=>?_,λhp=>?_⟩)]
   ·rcases J1.1 ((h p).1 (by simp [hp])) with e | h'
    ·subst e;exact absurd (h1.1 p hp) (irr p)
    ·exact h'
   ·rcases J1.1 ((h p).2 (by simp [hp])) with e | h'
    ·subst e;exact absurd (h2.1 p hp) (irr p)
    ·exact h'
theorem xR (W:Whole c) {M:List α} {x:α} {k:Nat} (h:Rising c M) (hk:k<=M.length) (hlo:∀ (i:Nat) (hi:i < k),c (M[i]'(by omega)) x < 0) (hhi:∀ (i:Nat) (_:k<=i) (h2:i < M.length),0 < c (M[i]'h2) x):Rising c (M.take k ++ x :: M.drop k)/\∀ p,p∈M.take k ++ x :: M.drop k↔p∈M\/p=x:=by
 unfold Rising at *;have hs:M.take k ++ M.drop k=M:=Jj k M;rw [<-hs,V1] at h;have g1:∀ y∈M.take k,c y x < 0:=λy hy=>by
  obtain ⟨i,hi,e⟩:=List.getElem_of_mem hy;simp only [Jc] at hi;rw [<-e,Vy];exact hlo i (by omega)
 have g2:∀ y∈M.drop k,c x y < 0:=λy hy=>by
  obtain ⟨i,hi,e⟩:=List.getElem_of_mem hy;simp only [Ja] at hi;rw [<-e,U1];have:=hhi (k+i) (by omega) (by omega);have:=W.neg (M[k+i]'(by omega)) x;omega
 refine ⟨?_,λp=>?_⟩
 ·rw [V1,Q6];exact ⟨h.1,⟨g2,h.2.1⟩,λa ha b hb=>by
   rcases J1.1 hb with rfl | hb
   ·exact g1 a ha
   ·exact h.2.2 a ha b hb⟩
 ·constructor
  ·intro hp;rcases JM.1 hp with hp | hp
   ·exact .inl (QU hp)
   ·rcases J1.1 hp with rfl | hp
    ·exact .inr rfl
    ·exact .inl (Qc hp)
  ·rintro (hp | rfl)
   ·rw [<-hs] at hp;rcases JM.1 hp with hp | hp
    ·exact JM.2 (.inl hp)
    ·exact JM.2 (.inr (JN _ hp))
   ·exact JM.2 (.inr JT)
theorem uH {M:List α} (h:Rising c M) {i j:Nat} (hi:i < M.length) (hj:j < M.length) (hij:i < j):c M[i] M[j] < 0:=by
 unfold Rising at h;rw [Jd] at h;exact h i j hi hj hij
theorem rising_below (W:Whole c) {M:List α} {x:α} {k:Nat} (h:Rising c M) (hk:k < M.length) (hx:c M[k] x < 0):∀ (i:Nat) (hi:i < k+1),c (M[i]'(by omega)) x < 0:=λi hi=>by
 by_cases e:i=k
 ·subst e;exact hx
 ·exact W.trans (uH h (by omega) hk (by omega)) hx
structure Moved (M S:List α) (k:Nat):Prop where
 len:S.length=M.length+1
 lo:S.take k=M.take k
 hi:S.drop (k+1)=M.drop k
theorem vP (M:List α) (x:α):Moved M (M ++ [x]) M.length:=⟨by simp,by simp,by simp⟩
theorem Moved.get {M S:List α} {k:Nat} (h:Moved M S (k+1)) (hk:k < M.length):S[k]'(by rw [h.len];omega)=M[k]:=by
 have:=congrArg (λl=>l[k]?) h.lo;simp only [QX,show k < k+1 by omega,VZ] at this;rw [JG (by rw [h.len];omega),JG hk] at this;exact JU this
theorem Moved.step {M S:List α} {k:Nat} (h:Moved M S (k+1)) (hk:k < M.length):Moved M (S.set (k+1) M[k]) k:=by
 refine ⟨by simp [h.len],?_,?_⟩
 ·rw [List.take_set_of_le (by omega)];have:=congrArg (List.take k) h.lo
  simpa [List.take_take,Nat.min_eq_left (Nat.le_succ k)] using this
 ·rw [List.drop_set,J0 (by omega),Nat.sub_self,Q9 (by rw [h.len];omega),UH,h.hi];exact (Q9 hk).symm
theorem Moved.done {M S:List α} {k:Nat} (h:Moved M S k) (hk:k<=M.length) (x:α):S.set k x=M.take k ++ x :: M.drop k:=by
 rw [List.set_eq_take_append_cons_drop,JH (by rw [h.len];omega),h.lo,h.hi]
end
abbrev Ris (L:List Wl):Prop:=Rising cmpW L
def posW (L:List Wl) (p q:Pt):Nat:=(L.filter λx=>decide (cmpW x ⟨p,q,0⟩ < 0)).length
def bgL (L:List Wl) (p:Pt):List Wl:=L.filter λx=>decide (cmpP x.A p<=0)
def isW (p q:Pt) (x:Wl):Bool:=decide (x.A=p) && decide (x.B=q)
def kindW (L:List Wl) (p q:Pt):Int:=match L.find? (isW p q) with | some x=>x.K | none=>0
structure GoodW (x:Wl):Prop where
 va:vld x.A=true
 vb:vld x.B=true
 ab:cmpP x.A x.B < 0
 k:x.K=1\/x.K=2
theorem xK {p q:Pt} {x:Wl}:isW p q x=true↔x.A=p/\x.B=q:=by simp [isW]
theorem xS {q : Wl -> Bool} : ∀ {L : List Wl}, L.Pairwise (λx y => q y = true -> q x = true) ->
    (∀ (k:Nat) (hk:k < L.length),q L[k]=true↔k < (L.filter q).length)/\(L.filter q).length<=L.length/\L.take (L.filter q).length=L.filter q/\L.drop (L.filter q).length=L.filter λx => !q x
 | [],_=>by simp
 | x :: L,h=>by
  rw [Q6] at h;obtain ⟨h1,h2,h3,h4⟩:=xS h.2;cases hq:q x with
  | true=>
   rw [Jo hq,Jv (by rw [hq];simp)];refine ⟨λk hk=>?_,by simp;omega,by simp [h3],by simp [h4]⟩;cases k with
   | zero=>simp [hq]
   | succ k=>simpa using h1 k (by simpa using hk)
  | false=>
   have hn:∀ y∈L,q y=false:=λy hy=>by
    cases e:q y with
    | false=>rfl
    | true=>have:=h.1 y hy e;rw [hq] at this;cases this
   have e0:L.filter q=[]:=VL.2 λy hy=>by rw [hn y hy];simp
   rw [Jv (by rw [hq];simp),Jo (by rw [hq];rfl),e0];refine ⟨λk hk=>?_,by simp,by simp,?_⟩
   ·cases k with
    | zero=>simp [hq]
    | succ k=>
     have:q (L[k]'(by simpa using hk))=false:=hn _ (JX _);simp [this]
   ·rw [Qs,QZ,Qv.2 λy hy=>by rw [hn y hy];rfl]
theorem Yn {L:List Wl} (h:Ris L) {q:Wl->Bool} (hq:∀ x y,cmpW x y < 0->q y=true->q x=true):L.Pairwise (λx y=>q y=true->q x=true):=
 h.imp λhxy=>hq _ _ hxy
theorem jV {L:List Wl} (h:Ris L) (p q:Pt):(∀ (k:Nat) (hk:k < L.length),cmpW L[k] ⟨p,q,0⟩ < 0↔k < posW L p q)/\posW L p q<=L.length:=by
 obtain ⟨h1,h2,_⟩:=xS (Yn h (q:=λx=>decide (cmpW x ⟨p,q,0⟩ < 0)) λx y hxy hy=>by
  simp only [JA] at hy ⊢;exact tk hxy hy)
 exact ⟨λk hk=>by have:=h1 k hk;rw [JA] at this;exact this,h2⟩
theorem bgn_lt {x:Wl} {p:Pt}:bgn x p < 0↔cmpP x.A p<=0:=by unfold bgn;split <;> simp_all <;> omega
theorem cmpA_le {x y:Wl} (h:cmpW x y < 0):cmpP x.A y.A<=0:=by
 rw [jn] at h;rcases h with h | ⟨h,_⟩
 ·omega
 ·rw [h,zP.2 rfl];omega
theorem vs {L:List Wl} (h:Ris L) (p:Pt):(∀ (k:Nat) (hk:k < L.length),bgn L[k] p < 0↔k < (bgL L p).length)/\(bgL L p).length<=L.length/\L.take (bgL L p).length=bgL L p:=by
 obtain ⟨h1,h2,h3,_⟩:=xS (Yn h (q:=λx=>decide (cmpP x.A p<=0)) λx y hxy hy=>by
  simp only [JA] at hy ⊢;exact wholeP.le_trans (cmpA_le hxy) hy)
 exact ⟨λk hk=>by have:=h1 k hk;rw [JA] at this;rw [bgn_lt];exact this,h2,h3⟩
theorem je {L:List Wl} (h:Ris L) {p q:Pt} (hf:fnd L (posW L p q) p q) (hg:∀ x∈L,0 < x.K):∃ hm:posW L p q < L.length,L.find? (isW p q)=some L[posW L p q]/\L[posW L p q].A=p/\L[posW L p q].B=q:=by
 obtain ⟨h1,h2⟩:=jV h p q;unfold fnd at hf;rcases Qb (posW L p q) L.length with hm | hm
 ·rw [JG hm] at hf;refine ⟨hm,?_,by simpa using hf⟩;refine Vg.2 ⟨hf,L.take (posW L p q),L.drop (posW L p q+1),?_,λy hy=>?_⟩
  ·rw [VN hm,Jj]
  ·obtain ⟨k,hk,rfl⟩:=VX.1 hy;have hk':k < posW L p q:=by omega
   have:=(h1 k (by omega)).2 hk';cases e:isW p q L[k] with
   | false=>rfl
   | true=>
    rw [xK] at e;rw [jn] at this;have hK:=hg _ (JX (show k < L.length by omega));simp only [e.1,e.2,zP.2 rfl] at this;omega
 ·rw [Qo hm] at hf;cases hf
theorem ub {L:List Wl} (h:Ris L) {p q:Pt} (hf:fnd L (posW L p q) p q=false) (hg:∀ x∈L,0 < x.K):L.find? (isW p q)=none:=by
 obtain ⟨h1,h2⟩:=jV h p q;rw [QH];intro y hy e;obtain ⟨k,hk,rfl⟩:=QD.1 hy;rw [xK] at e;have hK:=hg _ (JX hk);have n1:¬ cmpW L[k] ⟨p,q,0⟩ < 0:=λn=>by
  rw [jn] at n;simp only [e.1,e.2,zP.2 rfl] at n;omega
 have hkm:posW L p q<=k:=Nat.le_of_not_lt λn=>n1 ((h1 k hk).2 n);have hm:posW L p q < L.length:=by omega
 unfold fnd at hf;rw [JG hm] at hf;have n2:¬ cmpW L[posW L p q] ⟨p,q,0⟩ < 0:=λn=>by have:=(h1 _ hm).1 n;omega
 rcases Nat.eq_or_lt_of_le hkm with hkm | hkm
 ·have:isW p q L[posW L p q]=true:=by rw [xK];simp only [hkm];exact e
  unfold isW at this;simp only at hf;rw [hf] at this;cases this
 ·have n3:=uH h hm hk hkm;rw [jn] at n2 n3;rw [e.1,e.2] at n3;have e1:L[posW L p q].A=p:=by
   rcases n3 with n3 | n3
   ·exact absurd (.inl n3) n2
   ·exact n3.1
  have e2:L[posW L p q].B=q:=by
   rcases n3 with n3 | ⟨_,n3 | n3⟩
   ·exact absurd (.inl n3) n2
   ·exact absurd (.inr ⟨e1,.inl n3⟩) n2
   ·exact n3.1
  simp [e1,e2] at hf
theorem tO {L:List Wl} (h:Ris L) {p q:Pt} (hf:fnd L (posW L p q) p q) (hg:∀ x∈L,0 < x.K) (hm:posW L p q < L.length):kindW L p q=L[posW L p q].K:=by
 obtain ⟨_,h1,_⟩:=je h hf hg;unfold kindW;rw [h1]
theorem kindW_false {L:List Wl} (h:Ris L) {p q:Pt} (hf:fnd L (posW L p q) p q=false) (hg:∀ x∈L,0 < x.K):kindW L p q=0:=by
 unfold kindW;rw [ub h hf hg]
theorem RowAt.take {α:Type} {c:α->List Value} {k:Nat} {w:World} {a:Option Addr} {L:List α} (h:RowAt c k w a L) (m:Nat):RowAt c k w a (L.take m):=λj x hx=>h j x (by
 rw [QX] at hx;split at hx
 ·exact hx
 ·cases hx)
structure SetRd (w:World) (sb:Nat) (a0:Option Addr) (c n:Nat) (L:List Wl):Prop where
 box:Box w sb [.slice a0 n c] 74
 row:RowAt cW 5 w a0 L
 len:L.length=n
 le:L.length<=1000000
 nc:n<=c
 flat:Flat a0
 nil0:a0=none->L=[]
 ris:Ris L
 good:∀ x∈L,GoodW x
theorem SetRd.ext {w w':World} {sb c n m:Nat} {a0:Option Addr} {L:List Wl} (S:SetRd w sb a0 c n L) (hb:Below m w w') (hm:m=w.heap.size):SetRd w' sb a0 c n L:=
 ⟨S.box.ext hb hm,S.row.ext hb hm,S.len,S.le,S.nc,S.flat,S.nil0,S.ris,S.good⟩
theorem SetRd.ee {w w':World} {sb c n:Nat} {a0:Option Addr} {L:List Wl} (S:SetRd w sb a0 c n L) (hb:Below w w w'):SetRd w' sb a0 c n L:=S.ext hb rfl
theorem SetRd.pos {w:World} {sb c n:Nat} {a0:Option Addr} {L:List Wl} (S:SetRd w sb a0 c n L):∀ x∈L,0 < x.K:=λx hx=>by have:=(S.good x hx).k;omega
theorem jh (sb:Nat) (a0:Option Addr) (c n:Nat) (L:List Wl) (a b:Pt) (w:World) (S:SetRd w sb a0 c n L):Calls prog 37 #[pt0 sb,a,b] w (Rt w (.tuple #[.int .i64 (posW L (lo2 a b) (hi2 a b):Nat),.bool (fnd L (posW L (lo2 a b) (hi2 a b)) (lo2 a b) (hi2 a b))])):=
 let ⟨h1,h2⟩:=jV S.ris (lo2 a b) (hi2 a b)
 find_some sb a0 c n L S.len S.le a b _ h1 h2 w S.box S.row
theorem uo (sb:Nat) (a0:Option Addr) (c n:Nat) (L:List Wl) (p:Pt) (w:World) (S:SetRd w sb a0 c n L):Calls prog 106 #[pt0 sb,p] w (Rt w (.slice a0 (bgL L p).length c)):=
 let ⟨h1,h2,_⟩:=vs S.ris p
 begun_some sb a0 c n L S.len S.le S.nc p _ h1 h2 w S.box S.row
theorem kind_0 (sb:Nat) (a0:Option Addr) (c n:Nat) (L:List Wl) (a b:Pt) (hf:(fnd L (posW L (lo2 a b) (hi2 a b)) (lo2 a b) (hi2 a b))=false) (w:World) (S:SetRd w sb a0 c n L):Calls prog 17 #[pt0 sb,a,b] w (Rt w (.int .i64 0)):=by
 go_enter func17,ntmps17
 have hsb:=S.box.lt;go_wp2_with fail;refine qE2 λW1 Ba Bb hw=>?_;have SS:=S.ee hw;have BS:=SS.box;have cf:=jh sb a0 c n L a b W1 SS;rw [hf] at cf;refine qC3 (cf) Ba Bb BS hw λw2 Ba Bb BS hw Rj=>?_;go_wp2
 go_ret
 exact ⟨rfl,by have hl:=hw.size;go_grown⟩
theorem kind_1 (sb:Nat) (a0:Option Addr) (c n:Nat) (L:List Wl) (a b:Pt) (hf:(fnd L (posW L (lo2 a b) (hi2 a b)) (lo2 a b) (hi2 a b))=true) (m:Nat) (hm0:posW L (lo2 a b) (hi2 a b)=m) (hm:m < L.length) (X:Wl) (hX:L[m]=X) (w:World) (S:SetRd w sb a0 c n L):Calls prog 17 #[pt0 sb,a,b] w (Rt w (.int .i64 X.K)):=by
 go_enter func17,ntmps17
 have hsb:=S.box.lt;go_wp2_with fail;refine qE2 λW1 Ba Bb hw=>?_;have SS:=S.ee hw;have BS:=SS.box;have cf:=jh sb a0 c n L a b W1 SS;rw [hf] at cf;rw [hm0] at cf;refine qK3 (cf) Ba Bb BS hw λw2 Ba Bb BS hw=>?_;have SS2:=SS.ext (Below.refl _ _) rfl;obtain ⟨ad,A,ea,eA,hA⟩:=(S.row.ee hw).five (j:=m) hm;have hmn:m < n:=by rw [<-S.len];exact hm
 rw [hX] at hA;obtain ⟨u0,u1,u2,u3,u4,u5⟩:=hA.f;subst ea;clear SS SS2 hA;have Rj:=J3 Ba.f Bb.f BS.f;go_wp2
 go_ret
 exact ⟨rfl,by have hl:=hw.size;go_grown⟩
theorem qN (sb:Nat) (a0:Option Addr) (c n:Nat) (L:List Wl) (a b:Pt) (w:World) (S:SetRd w sb a0 c n L):Calls prog 17 #[pt0 sb,a,b] w (Rt w (.int .i64 (kindW L (lo2 a b) (hi2 a b)))):=by
 cases hf:(fnd L (posW L (lo2 a b) (hi2 a b)) (lo2 a b) (hi2 a b)) with
 | false=>rw [kindW_false S.ris hf S.pos];exact kind_0 sb a0 c n L a b hf w S
 | true=>
  obtain ⟨hm,_⟩:=je S.ris hf S.pos;rw [tO S.ris hf S.pos hm];exact kind_1 sb a0 c n L a b hf _ rfl hm _ rfl w S
theorem len_any (sb:Nat) (a0:Option Addr) (c n:Nat) (L:List Wl) (w:World) (S:SetRd w sb a0 c n L):Calls prog 16 #[pt0 sb] w (Rt w (.int .i64 L.length)):=by
 go_enter func16,ntmps16
 have Fs:=S.box.f;have HN:=hdd S.len;go_wp2
 go_ret
 exact ⟨by rw [HN.o];rfl,Below.refl _ _⟩
theorem Kh (sb:Nat) (a0:Option Addr) (c n:Nat) (L:List Wl) (w:World) (S:SetRd w sb a0 c n L):Calls prog 13 #[pt0 sb] w λe w'=>∃ v',e=.returned v'/\WRow w' w.heap.size v' L/\Below w w w':=by
 go_enter func13,ntmps13
 have Fs:=S.box.f;have cc:=tm a0 c L S.le w S.row S.flat S.nil0;rw [S.len] at cc;go_wp2_with fail;refine cc.mono ?_;rintro e w1 ⟨v',rfl,ho,hb⟩;go_wp2
 go_ret
 exact ⟨v',rfl,ho,hb⟩
def clashW (L:List Wl) (a b:Pt):Int:=if mkOk a b 1=true then (if kindW L (lo2 a b) (hi2 a b)=0 then (if (bgL L (hi2 a b)).any (λx=>bar1 x ⟨lo2 a b,hi2 a b,1⟩) then 7 else 0) else 5) else 2
theorem clash_0 (sb:Nat) (a0:Option Addr) (c n:Nat) (L:List Wl) (a b:Pt) (ho:mkOk a b 1=false) (w:World) (S:SetRd w sb a0 c n L):Calls prog 110 #[pt0 sb,a,b] w (Rt w (.int .i64 2)):=by
 go_enter func110,ntmps110
 have hsb:=S.box.lt;have c1:=qt a b 1;rw [ho] at c1;go_wp2_with fail;refine qE2 λW1 Ba Bb hw=>?_;refine qC2 (c1 _) Ba Bb hw λw2 Ba Bb hw Gq=>?_;go_wp2
 go_ret
 exact ⟨rfl,by have hl:=hw.size;go_grown⟩
theorem clash_1 (sb:Nat) (a0:Option Addr) (c n:Nat) (L:List Wl) (a b:Pt) (ho:mkOk a b 1) (hk:(kindW L (lo2 a b) (hi2 a b) != 0)=true) (w:World) (S:SetRd w sb a0 c n L):Calls prog 110 #[pt0 sb,a,b] w (Rt w (.int .i64 5)):=by
 go_enter func110,ntmps110
 have hsb:=S.box.lt;have c1:=qt a b 1;rw [ho] at c1;go_wp2_with fail;refine qE2 λW1 Ba Bb hw=>?_;refine qC2 (c1 _) Ba Bb hw λw2 Ba Bb hw Gq=>?_;go_wp2_with fail;clear Gq;refine zI λW3 hW=>?_;obtain ⟨bkv,hbv⟩:∃ b,w2.heap.size=b:=⟨_,rfl⟩;rw [hbv];obtain ⟨lav,lbv,fv,Bv,Ba,Bb,hw⟩:=qM2 hW hbv Ba Bb hw;clear hW hbv;have SS:=S.ee hw;have ck:=qN sb a0 c n L a b W3 SS;generalize kindW L (lo2 a b) (hi2 a b)=kk at *
 refine qC3 (ck) Ba Bb Bv hw λw4 Ba Bb Bv hw GZ=>?_;go_wp2
 go_ret
 exact ⟨rfl,by have hl:=hw.size;go_grown⟩
theorem clash_2 (sb:Nat) (a0:Option Addr) (c n:Nat) (L:List Wl) (a b:Pt) (ho:mkOk a b 1) (hk:(kindW L (lo2 a b) (hi2 a b) != 0)=false) (hx7:(bgL L (hi2 a b)).any (λx=>bar1 x ⟨lo2 a b,hi2 a b,1⟩)=true) (w:World) (S:SetRd w sb a0 c n L):Calls prog 110 #[pt0 sb,a,b] w (Rt w (.int .i64 7)):=by
 go_enter func110,ntmps110
 have hsb:=S.box.lt;have c1:=qt a b 1;rw [ho] at c1;go_wp2_with fail;refine qE2 λW1 Ba Bb hw=>?_;refine qC2 (c1 _) Ba Bb hw λw2 Ba Bb hw Gq=>?_;go_wp2_with fail;clear Gq;refine zI λW3 hW=>?_;obtain ⟨bkv,hbv⟩:∃ b,w2.heap.size=b:=⟨_,rfl⟩;rw [hbv];obtain ⟨lav,lbv,fv,Bv,Ba,Bb,hw⟩:=qM2 hW hbv Ba Bb hw;clear hW hbv;have SS:=S.ee hw;have ck:=qN sb a0 c n L a b W3 SS;generalize kindW L (lo2 a b) (hi2 a b)=kk at *
 refine qC3 (ck) Ba Bb Bv hw λw4 Ba Bb Bv hw GZ=>?_;rw [show mkW a b 1=⟨lo2 a b,hi2 a b,1⟩ by unfold mkW;rw [ho];rfl] at *;generalize lo2 a b=p at *
 generalize hi2 a b=q at *
 go_wp2_with fail;clear GZ;have cc:∀ d os,Calls prog 106 #[pt0 sb,q] (grow (redrawn w4 d) os) λe w'=>e=.returned (.slice a0 (bgL L q).length c)/\Below (grow (redrawn w4 d) os).heap.size (grow (redrawn w4 d) os) w':=λd os=>uo sb a0 c n L q _ ((S.ee hw).ext (below_regrown w4 d os) rfl);obtain ⟨_,hb2,hb3⟩:=vs S.ris q;have hLb:(bgL L q).length<=1000000:=JY hb2 S.le;have hR:∀ W,Below w w W->RowAt cW 5 W a0 (bgL L q):=λW hW=>by rw [<-hb3];exact (S.row.ee hW).take _
 generalize bgL L q=L2 at *
 have Rz:=J3 Ba.cells Bb.cells Bv.cells;refine wrt 5 (by kernel_rfl) (by kernel_rfl) ?_;simp only [tK1,tK0,dP1,dP0];refine wkx ?_;intro w5 hb;clear Rz;obtain ⟨Ba,Bb,Bv,hw,GZ⟩:=qX3 Ba Bb Bv hw hb;go_wp2_with fail;clear GZ;have cb:=uq ⟨p,q,1⟩ a0 c L2.length L2 rfl hLb S.flat _ (hR _ hw);rw [hx7] at cb;refine qC3 (cb) Ba Bb Bv hw λw6 Ba Bb Bv hw GZ=>?_;go_wp2
 go_ret
 exact ⟨rfl,by have hl:=hw.size;go_grown⟩
theorem clash_3 (sb:Nat) (a0:Option Addr) (c n:Nat) (L:List Wl) (a b:Pt) (ho:mkOk a b 1) (hk:(kindW L (lo2 a b) (hi2 a b) != 0)=false) (hx7:(bgL L (hi2 a b)).any (λx=>bar1 x ⟨lo2 a b,hi2 a b,1⟩)=false) (w:World) (S:SetRd w sb a0 c n L):Calls prog 110 #[pt0 sb,a,b] w (Rt w (.int .i64 0)):=by
 go_enter func110,ntmps110
 have hsb:=S.box.lt;have c1:=qt a b 1;rw [ho] at c1;go_wp2_with fail;refine qE2 λW1 Ba Bb hw=>?_;refine qC2 (c1 _) Ba Bb hw λw2 Ba Bb hw Gq=>?_;go_wp2_with fail;clear Gq;refine zI λW3 hW=>?_;obtain ⟨bkv,hbv⟩:∃ b,w2.heap.size=b:=⟨_,rfl⟩;rw [hbv];obtain ⟨lav,lbv,fv,Bv,Ba,Bb,hw⟩:=qM2 hW hbv Ba Bb hw;clear hW hbv;have SS:=S.ee hw;have ck:=qN sb a0 c n L a b W3 SS;generalize kindW L (lo2 a b) (hi2 a b)=kk at *
 refine qC3 (ck) Ba Bb Bv hw λw4 Ba Bb Bv hw GZ=>?_;rw [show mkW a b 1=⟨lo2 a b,hi2 a b,1⟩ by unfold mkW;rw [ho];rfl] at *;generalize lo2 a b=p at *
 generalize hi2 a b=q at *
 go_wp2_with fail;clear GZ;have cc:∀ d os,Calls prog 106 #[pt0 sb,q] (grow (redrawn w4 d) os) λe w'=>e=.returned (.slice a0 (bgL L q).length c)/\Below (grow (redrawn w4 d) os).heap.size (grow (redrawn w4 d) os) w':=λd os=>uo sb a0 c n L q _ ((S.ee hw).ext (below_regrown w4 d os) rfl);obtain ⟨_,hb2,hb3⟩:=vs S.ris q;have hLb:(bgL L q).length<=1000000:=JY hb2 S.le;have hR:∀ W,Below w w W->RowAt cW 5 W a0 (bgL L q):=λW hW=>by rw [<-hb3];exact (S.row.ee hW).take _
 generalize bgL L q=L2 at *
 have Rz:=J3 Ba.cells Bb.cells Bv.cells;refine wrt 5 (by kernel_rfl) (by kernel_rfl) ?_;simp only [tK1,tK0,dP1,dP0];refine wkx ?_;intro w5 hb;clear Rz;obtain ⟨Ba,Bb,Bv,hw,GZ⟩:=qX3 Ba Bb Bv hw hb;go_wp2_with fail;clear GZ;have cb:=uq ⟨p,q,1⟩ a0 c L2.length L2 rfl hLb S.flat _ (hR _ hw);rw [hx7] at cb;refine qC3 (cb) Ba Bb Bv hw λw6 Ba Bb Bv hw GZ=>?_;go_wp2
 go_ret
 exact ⟨rfl,by have hl:=hw.size;go_grown⟩
theorem YO (sb:Nat) (a0:Option Addr) (c n:Nat) (L:List Wl) (a b:Pt) (w:World) (S:SetRd w sb a0 c n L):Calls prog 110 #[pt0 sb,a,b] w (Rt w (.int .i64 (clashW L a b))):=by
 unfold clashW;cases ho:mkOk a b 1 with
 | false=>rw [J0 (by simp)];exact clash_0 sb a0 c n L a b ho w S
 | true=>
  rw [JH rfl];cases hk:kindW L (lo2 a b) (hi2 a b) != 0 with
  | true=>rw [J0 (by simpa using hk)];exact clash_1 sb a0 c n L a b ho hk w S
  | false=>
   rw [JH (by simpa using hk)];cases hb:(bgL L (hi2 a b)).any (λx=>bar1 x ⟨lo2 a b,hi2 a b,1⟩) with
   | true=>rw [JH rfl];exact clash_2 sb a0 c n L a b ho hk hb w S
   | false=>rw [J0 (by simp)];exact clash_3 sb a0 c n L a b ho hk hb w S
theorem jQ {w:World} {ops:Array Oper} {rest:List Oper} {o:Oper} {a:Act} {Q:Exit->Act->World->Prop} (hgd:o.guard=none) (s x:Operand) (ho:o.op=.call { callee:=.builtin .append,args:=#[s,x],argTypes:=#[41,41] }) (B:Nat) (v:Value) (L:List Wl) (hs:a.eval s=v) (hown:WRow w B v L) (bx:Nat) (X:Wl) (hx:a.eval x=.slice (some ⟨bx,0,none⟩) 1 1) (hbx:Box w bx (cW X) 71) (hn:L.length<=1000000) (hbase:B<=w.heap.size) (h:∀ w' v',WRow w' B v' (L ++ [X])->w.grownBy w' v.ownBlock->v'≠.slice none 0 0->wpList prog ops Q rest (a.put o.dst v') w'):wpList prog ops Q (o :: rest) a w:=by
 obtain ⟨i0,hi,hz0,hz1,hz2⟩:=info_parts xT;refine wpList_append_own w hgd s x 41 ho B 71 i0 _ 5 40 underlying41 hi hz0 hz1 hz2 rfl (by decide) v L.length _ hs hown ⟨bx,0,none⟩ 1 1 (cW X) hx rfl ?_ (jA X) ?_ ?_ hbase ?_
 ·intro j u hj;have:=hbx.f.1 j;rw [hj] at this;rw [Addr.add_lit,QJ];exact this
 ·unfold maxLen;omega
 ·omega
 ·intro v' w' hown' hg hnil;refine h w' v' ?_ hg (λe=>by have:=(hnil.1 e).2;omega);unfold WRow;rw [JC,QB,Je]
  simpa using hown'
theorem Box.grownBy {w w':World} {b:Nat} {cs:List Value} {T:TypeId} {row:Option Nat} (h:Box w b cs T) (hg:w.grownBy w' row) (hne:some b≠row):Box w' b cs T:=by
 have hl:=h.lt;unfold Box at *;rw [hg.block b hl hne];exact h
theorem WRow.alloc {w:World} {B:Nat} {v:Value} {L:List Wl} (h:WRow w B v L) (o:Obj):WRow (w.alloc o) B v L:=World.ownsRow.alloc h o
def onW (p:Pt) (x:Wl):Bool := !decide (x.A=p) && (!decide (x.B=p) && (!bsd x p p && onS p x.A x.B))
theorem Yw (p:Pt) (x:Wl):onW p x=(!peqI x.A.x x.A.y p.x p.y && (!peqI x.B.x x.B.y p.x p.y && (!bsd x p p && onS p x.A x.B))):=by rw [zq,zq];rfl
def onV (o:Option Wl):Value:=match o with | some x=>.tuple #[.agg #[x.A.x,x.A.y,x.B.x,x.B.y,x.K],.bool true] | none=>.tuple #[.agg #[(),(),(),(),()],.bool false]
theorem tG (sb:Nat) (a0:Option Addr) (c n:Nat) (L:List Wl) (p:Pt) (w:World) (S:SetRd w sb a0 c n L):Calls prog 56 #[pt0 sb,p] w (Rt w (onV ((bgL L p).find? (onW p)))):=by
 have hsb:=S.box.lt;obtain ⟨_,hb2,hb3⟩:=vs S.ris p;have hLb:(bgL L p).length<=1000000:=JY hb2 S.le;have hR:∀ W,Below w w W->RowAt cW 5 W a0 (bgL L p):=λW hW=>by rw [<-hb3];exact (S.row.ee hW).take _
 have cb:∀ W,Below w w W->Calls prog 106 #[pt0 sb,p] W λe w'=>e=.returned (.slice a0 (bgL L p).length c)/\Below W W w':=λW hW=>uo sb a0 c n L p W (S.ee hW);clear hb2 hb3;generalize bgL L p=L2 at *
 obtain ⟨m,hm⟩:∃ m,L2.length=m:=⟨_,rfl⟩;rw [hm] at cb hLb;have HM:=hdd hm;clear S hm
 go_enter func56,ntmps56
 go_wp2_with fail;refine zI λW1 hW=>?_;have BP:Box W1 w [p.x,p.y] 34:=by rw [hW];exact (Box.new rfl).old _
 have BR:Box W1 (w+1) [(),(),(),(),()] 71:=by rw [hW];exact Box.new (by simp)
 have hw:Below w w W1:=by rw [hW];go_grown
 clear hW;refine (cb W1 hw).mono ?_;rintro e w1 ⟨rfl,hb⟩;obtain ⟨BP,BR,hw,-⟩:=qX2 BP BR hw hb;clear hb cb;go_wp2_with fail
 go_loopw [7,12] (λ_ vi wr=>∃ k:Nat,k<=m/\vi=.int .i64 k/\Hi ((L2.take k).find? (onW p)=none)/\Below w w wr/\Box wr w [p.x,p.y] 34/\Box wr (w+1) [(),(),(),(),()] 71) (λ_ vi _=>m - (intOf vi).toNat)
 case atStart=>exact ⟨0,Jl _,rfl,hdd rfl,hw,BP,BR⟩
 case round=>
  clear BP BR hw;obtain ⟨k,hk,rfl,HI,hwr,BP,BR⟩:=hrel;by_cases hlt:k < m
  ·have hkL:k < L2.length:=by rw [HM.o];exact hlt
   obtain ⟨ad,A,ea,eA,hA⟩:=(hR wr hwr).five (j:=k) hkL;have HT:Hi (L2.take (k+1)=L2.take k ++ [L2[k]]):=hdd (JK hkL);generalize L2[k]=X at *
   obtain ⟨u0,u1,u2,u3,u4,u5⟩:=hA.f;obtain ⟨y0,y1,y2,y3⟩:=BP.f;obtain ⟨z0,z1,z2,z3⟩:=BR.f;subst ea;have c1:=Xk X p p;have c2:=on_any p X.A X.B;cases e1:peqI X.A.x X.A.y p.x p.y with
   | true=>
    have HE:Hi (onW p X=false):=hdd (by rw [Yw,e1];rfl);have HF:Hi ((L2.take (k+1)).find? (onW p)=none):=hdd (by rw [HT.o,Ve,HI.o,VO (by rw [HE.o];simp)];rfl);clear HE HT HI;have HP:=hdd BP;have HR:=hdd BR;clear BP BR;go_wp2
    go_roundw
    case rel=>exact ⟨k+1,hlt,by go_num,HF,by have hl:=hwr.size;go_grown,HP.o.old _,HR.o.old _⟩
    case measure=>simp [intOf];omega
   | false=>
    cases e2:peqI X.B.x X.B.y p.x p.y with
    | true=>
     have HE:Hi (onW p X=false):=hdd (by rw [Yw,e1,e2];rfl);have HF:Hi ((L2.take (k+1)).find? (onW p)=none):=hdd (by rw [HT.o,Ve,HI.o,VO (by rw [HE.o];simp)];rfl);clear HE HT HI;have HP:=hdd BP;have HR:=hdd BR;clear BP BR;go_wp2
     go_roundw
     case rel=>exact ⟨k+1,hlt,by go_num,HF,by have hl:=hwr.size;go_grown,HP.o.old _,HR.o.old _⟩
     case measure=>simp [intOf];omega
    | false=>
     cases e3:bsd X p p with
     | true=>
      have HE:Hi (onW p X=false):=hdd (by rw [Yw,e1,e2,e3];rfl);rw [e3] at c1;clear e3;have HF:Hi ((L2.take (k+1)).find? (onW p)=none):=hdd (by rw [HT.o,Ve,HI.o,VO (by rw [HE.o];simp)];rfl);clear HE HT HI;have HP:=hdd BP;have HR:=hdd BR;have HW:=hdd hwr;go_wp2_with fail;refine zI λW2 hW=>?_;have BP2:Box W2 w [p.x,p.y] 34:=by rw [hW];exact HP.o.old _
      have BR2:Box W2 (w+1) [(),(),(),(),()] 71:=by rw [hW];exact HR.o.old _
      have BX2:Box W2 wr [X.A.x,X.A.y,X.B.x,X.B.y,X.K] 71:=by rw [hW];exact Box.new rfl
      have hw2:Below w w W2:=by have hl:=hwr.size;rw [hW];go_grown
      clear hW BP BR hwr y0 y1 y2 y3 z0 z1 z2 z3 u0 u1 u2 u3 u4 u5 hA;refine (c1 W2).mono ?_;rintro e w3 ⟨rfl,hb⟩;have l1:w.heap.size+1 < wr.heap.size:=HR.o.lt;replace BP2:=BP2.ee hb;replace BR2:=BR2.ee hb;replace BX2:=BX2.ee hb;replace hw2:=upB hw2 hb;clear hb;obtain ⟨y0,y1,y2,y3⟩:=BP2.f;obtain ⟨z0,z1,z2,z3⟩:=BR2.f;obtain ⟨u0,u1,u2,u3⟩:=BX2.f;go_wp2
      go_roundw
      case rel=>exact ⟨k+1,hlt,by go_num,HF,hw2,BP2,BR2⟩
      case measure=>simp [intOf];omega
     | false=>
      cases e4:onS p X.A X.B with
      | false=>
       have HE:Hi (onW p X=false):=hdd (by rw [Yw,e1,e2,e3,e4];rfl);rw [e3] at c1;rw [e4] at c2;clear e3 e4;have HF:Hi ((L2.take (k+1)).find? (onW p)=none):=hdd (by rw [HT.o,Ve,HI.o,VO (by rw [HE.o];simp)];rfl);clear HE HT HI;have HP:=hdd BP;have HR:=hdd BR;have HW:=hdd hwr;go_wp2_with fail;refine zI λW2 hW=>?_;have BP2:Box W2 w [p.x,p.y] 34:=by rw [hW];exact HP.o.old _
       have BR2:Box W2 (w+1) [(),(),(),(),()] 71:=by rw [hW];exact HR.o.old _
       have BX2:Box W2 wr [X.A.x,X.A.y,X.B.x,X.B.y,X.K] 71:=by rw [hW];exact Box.new rfl
       have hw2:Below w w W2:=by have hl:=hwr.size;rw [hW];go_grown
       clear hW BP BR hwr y0 y1 y2 y3 z0 z1 z2 z3 u0 u1 u2 u3 u4 u5 hA;refine (c1 W2).mono ?_;rintro e w3 ⟨rfl,hb⟩;have l1:w.heap.size+1 < wr.heap.size:=HR.o.lt;replace BP2:=BP2.ee hb;replace BR2:=BR2.ee hb;replace BX2:=BX2.ee hb;replace hw2:=upB hw2 hb;clear hb;obtain ⟨y0,y1,y2,y3⟩:=BP2.f;obtain ⟨z0,z1,z2,z3⟩:=BR2.f;obtain ⟨u0,u1,u2,u3⟩:=BX2.f;go_wp2_with fail;refine (c2 w3).mono ?_;rintro e w4 ⟨rfl,hb⟩;have BP3:=BP2.ee hb;have BR3:=BR2.ee hb;have BX3:=BX2.ee hb;have hw3:=(upB hw2 hb);clear hb y0 y1 y2 y3 z0 z1 z2 z3 u0 u1 u2 u3 BP2 BR2 BX2 hw2;obtain ⟨y0,y1,y2,y3⟩:=BP3.f;obtain ⟨z0,z1,z2,z3⟩:=BR3.f;obtain ⟨u0,u1,u2,u3⟩:=BX3.f;go_wp2
       go_roundw
       case rel=>exact ⟨k+1,hlt,by go_num,HF,hw3,BP3,BR3⟩
       case measure=>simp [intOf];omega
      | true=>
       have HE:Hi (onW p X=true):=hdd (by rw [Yw,e1,e2,e3,e4];rfl);rw [e3] at c1;rw [e4] at c2;clear e3 e4;have HP:=hdd BP;have HR:=hdd BR;have HW:=hdd hwr;go_wp2_with fail;refine zI λW2 hW=>?_;have BP2:Box W2 w [p.x,p.y] 34:=by rw [hW];exact HP.o.old _
       have BR2:Box W2 (w+1) [(),(),(),(),()] 71:=by rw [hW];exact HR.o.old _
       have BX2:Box W2 wr [X.A.x,X.A.y,X.B.x,X.B.y,X.K] 71:=by rw [hW];exact Box.new rfl
       have hw2:Below w w W2:=by have hl:=hwr.size;rw [hW];go_grown
       clear hW BP BR hwr y0 y1 y2 y3 z0 z1 z2 z3 u0 u1 u2 u3 u4 u5 hA;refine (c1 W2).mono ?_;rintro e w3 ⟨rfl,hb⟩;have l1:w.heap.size+1 < wr.heap.size:=HR.o.lt;replace BP2:=BP2.ee hb;replace BR2:=BR2.ee hb;replace BX2:=BX2.ee hb;replace hw2:=upB hw2 hb;clear hb;obtain ⟨y0,y1,y2,y3⟩:=BP2.f;obtain ⟨z0,z1,z2,z3⟩:=BR2.f;obtain ⟨u0,u1,u2,u3⟩:=BX2.f;go_wp2_with fail;refine (c2 w3).mono ?_;rintro e w4 ⟨rfl,hb⟩;have BP3:=BP2.ee hb;have BR3:=BR2.ee hb;have BX3:=BX2.ee hb;have hw3:=(upB hw2 hb);clear hb y0 y1 y2 y3 z0 z1 z2 z3 u0 u1 u2 u3 BP2 BR2 BX2 hw2;obtain ⟨y0,y1,y2,y3⟩:=BP3.f;obtain ⟨z0,z1,z2,z3⟩:=BR3.f;obtain ⟨u0,u1,u2,u3⟩:=BX3.f;have HF:Hi (L2.find? (onW p)=some X):=hdd (by
        rw [Vg];refine ⟨HE.o,L2.take k,L2.drop (k+1),?_,λx hx=>by have:=QH.1 HI.o x hx;simpa using this⟩;rw [<-Qx,<-JL,<-HT.o,Jj])
       clear HE HT HI;go_wp2_with fail;refine bodyPost_ret (v:=.tuple #[.agg #[X.A.x,X.A.y,X.B.x,X.B.y,X.K],.bool true]) (by simp [results,results56,go_sem,z0]) rfl ⟨?_,by have hl:=hw3.size;go_grown⟩;rw [HF.o];rfl
  ·obtain rfl:k=m:=by omega
   have HF:Hi (L2.find? (onW p)=none):=hdd (by rw [<-HI.o,JV (by rw [HM.o];omega)]);clear HI;obtain ⟨z0,z1,z2,z3⟩:=BR.f;go_wp2_with fail;refine bodyPost_ret (v:=.tuple #[.agg #[(),(),(),(),()],.bool false]) (by simp [results,results56,go_sem,z0]) rfl ⟨?_,by have hl:=hwr.size;go_grown⟩;rw [HF.o];rfl
structure DocRd (w:World) (db:Nat) (a0:Option Addr) (c n:Nat) (L:List Wl):Prop where
 box:Box w db [.slice a0 n c] 62
 row:RowAt cW 5 w a0 L
 len:L.length=n
 le:L.length<=1000000
 nc:n<=c
 flat:Flat a0
theorem DocRd.ext {w w':World} {db c n m:Nat} {a0:Option Addr} {L:List Wl} (S:DocRd w db a0 c n L) (hb:Below m w w') (hm:m=w.heap.size):DocRd w' db a0 c n L:=
 ⟨S.box.ext hb hm,S.row.ext hb hm,S.len,S.le,S.nc,S.flat⟩
theorem DocRd.ee {w w':World} {db c n:Nat} {a0:Option Addr} {L:List Wl} (S:DocRd w db a0 c n L) (hb:Below w w w'):DocRd w' db a0 c n L:=S.ext hb rfl
def isE (p q:Pt) (x:Wl):Bool:=(decide (x.A=p) && decide (x.B=q)) || (decide (x.A=q) && decide (x.B=p))
theorem ZK (p q:Pt) (x:Wl):isE p q x=((peqI x.A.x x.A.y p.x p.y && peqI x.B.x x.B.y q.x q.y) || (peqI x.A.x x.A.y q.x q.y && peqI x.B.x x.B.y p.x p.y)):=by rw [zq,zq,zq,zq];rfl
def kindD (L:List Wl) (p q:Pt):Int:=match L.find? (isE p q) with | some x=>x.K | none=>0
theorem YC {p:Wl->Bool} {L:List Wl} {k:Nat} (hk:k < L.length) (h0:(L.take k).find? p=none) (h1:p L[k]=true):L.find? p=some L[k]:=by
 refine Vg.2 ⟨h1,L.take k,L.drop (k+1),?_,λy hy=>?_⟩
 ·rw [VN hk,Jj]
 ·simpa using QH.1 h0 y hy
theorem xv {p:Wl->Bool} {L:List Wl} {k:Nat} (hk:k < L.length) (h0:(L.take k).find? p=none) (h1:p L[k]=false):(L.take (k+1)).find? p=none:=by
 rw [JK hk,Ve,h0,VO (by rw [h1];simp)];rfl
theorem XW {p:Wl->Bool} {L:List Wl} (h0:(L.take L.length).find? p=none):L.find? p=none:=by rwa [JV (JJ _)] at h0
theorem qY (db:Nat) (a0:Option Addr) (c n:Nat) (L:List Wl) (a b:Pt) (w:World) (D:DocRd w db a0 c n L):Calls prog 133 #[pt0 db,a,b] w (Rt w (.int .i64 (kindD L a b))):=by
 have hdb:=D.box.lt;have HM:=hdd D.len;have hn:n<=1000000:=D.len▸D.le;have HD:=hdd D;clear D
 go_enter func133,ntmps133
 go_wp2;refine zG λW1 hW=>?_;have BA:Box W1 w [a.x,a.y] 34:=by rw [hW];exact (Box.new rfl).old _
 have BB:Box W1 (w+1) [b.x,b.y] 34:=by rw [hW];exact Box.new (by simp)
 have hw:Below w w W1:=by rw [hW];go_grown
 clear hW
 go_loopw [7] (λvi wr=>∃ k:Nat,k<=n/\vi=.int .i64 k/\Hi ((L.take k).find? (isE a b)=none)/\Below w w wr/\Box wr w [a.x,a.y] 34/\Box wr (w+1) [b.x,b.y] 34) (λvi _=>n - (intOf vi).toNat)
 case atStart=>exact ⟨0,Jl _,rfl,hdd rfl,hw,BA,BB⟩
 case round=>
  clear BA BB hw;obtain ⟨k,hk,rfl,HF,hwr,BA,BB⟩:=hrel;have BD:=(HD.o.ee hwr).box;by_cases hlt:k < n
  ·have hkL:k < L.length:=by rw [HM.o];exact hlt
   obtain ⟨ad,A,ea,eA,hA⟩:=(HD.o.ee hwr).row.five (j:=k) hkL;have HX:Hi (L[k]=L[k]):=hdd rfl;generalize hX:L[k]=X at hA HX
   clear HX;have HX:=hdd hX;clear hX;obtain ⟨u0,u1,u2,u3,u4,u5⟩:=hA.f;obtain ⟨y0,y1,y2,y3⟩:=BA.f;obtain ⟨z0,z1,z2,z3⟩:=BB.f;obtain ⟨d0,d1,d2,d3⟩:=BD.f;subst ea;clear hA;cases e1:peqI X.A.x X.A.y a.x a.y with
   | true=>
    cases e2:peqI X.B.x X.B.y b.x b.y with
    | true=>
     have HE:Hi (isE a b X=true):=hdd (by rw [ZK,e1,e2];first | rfl | simp);have HK:Hi (kindD L a b=X.K):=hdd (by unfold kindD;rw [YC hkL HF.o (by rw [HX.o];exact HE.o)];show L[k].K=_;rw [HX.o]);have HW:=hdd hwr;clear HE HF HX hwr;go_wp2
     go_quiet (fail)
     go_wp2
     go_ret
     exact ⟨zi HK.o.symm,HW.o.trans ⟨rfl,rfl,rfl,JJ _,λ_ _=>rfl⟩⟩
    | false=>
     cases e3:peqI X.A.x X.A.y b.x b.y with
     | true=>
      cases e4:peqI X.B.x X.B.y a.x a.y with
      | true=>
       have HE:Hi (isE a b X=true):=hdd (by rw [ZK,e1,e2,e3,e4];first | rfl | simp);have HK:Hi (kindD L a b=X.K):=hdd (by unfold kindD;rw [YC hkL HF.o (by rw [HX.o];exact HE.o)];show L[k].K=_;rw [HX.o]);have HW:=hdd hwr;clear HE HF HX hwr;go_wp2
       go_quiet (fail)
       go_wp2
       go_ret
       exact ⟨zi HK.o.symm,HW.o.trans ⟨rfl,rfl,rfl,JJ _,λ_ _=>rfl⟩⟩
      | false=>
       have HE:Hi (isE a b X=false):=hdd (by rw [ZK,e1,e2,e3,e4];first | rfl | simp);have HG:Hi ((L.take (k+1)).find? (isE a b)=none):=hdd (xv hkL HF.o (by rw [HX.o];exact HE.o));have HW:=hdd hwr;have HA:=hdd BA;have HB:=hdd BB;clear HE HF HX hwr BA BB;go_wp2
       go_quiet (fail)
       go_wp2
       go_roundw
       case rel=>exact ⟨k+1,hlt,by go_num,HG,HW.o.trans ⟨rfl,rfl,rfl,JJ _,λ_ _=>rfl⟩,by first | exact HA.o | exact HA.o.drew,by first | exact HB.o | exact HB.o.drew⟩
       case measure=>simp [intOf];omega
     | false=>
      have HE:Hi (isE a b X=false):=hdd (by rw [ZK,e1,e2,e3];first | rfl | simp);have HG:Hi ((L.take (k+1)).find? (isE a b)=none):=hdd (xv hkL HF.o (by rw [HX.o];exact HE.o));have HW:=hdd hwr;have HA:=hdd BA;have HB:=hdd BB;clear HE HF HX hwr BA BB;go_wp2
      go_quiet (fail)
      go_wp2
      go_roundw
      case rel=>exact ⟨k+1,hlt,by go_num,HG,HW.o.trans ⟨rfl,rfl,rfl,JJ _,λ_ _=>rfl⟩,by first | exact HA.o | exact HA.o.drew,by first | exact HB.o | exact HB.o.drew⟩
      case measure=>simp [intOf];omega
   | false=>
    cases e3:peqI X.A.x X.A.y b.x b.y with
    | true=>
     cases e4:peqI X.B.x X.B.y a.x a.y with
     | true=>
      have HE:Hi (isE a b X=true):=hdd (by rw [ZK,e1,e3,e4];first | rfl | simp);have HK:Hi (kindD L a b=X.K):=hdd (by unfold kindD;rw [YC hkL HF.o (by rw [HX.o];exact HE.o)];show L[k].K=_;rw [HX.o]);have HW:=hdd hwr;clear HE HF HX hwr;go_wp2
      go_quiet (fail)
      go_wp2
      go_ret
      exact ⟨zi HK.o.symm,HW.o.trans ⟨rfl,rfl,rfl,JJ _,λ_ _=>rfl⟩⟩
     | false=>
      have HE:Hi (isE a b X=false):=hdd (by rw [ZK,e1,e3,e4];first | rfl | simp);have HG:Hi ((L.take (k+1)).find? (isE a b)=none):=hdd (xv hkL HF.o (by rw [HX.o];exact HE.o));have HW:=hdd hwr;have HA:=hdd BA;have HB:=hdd BB;clear HE HF HX hwr BA BB;go_wp2
      go_quiet (fail)
      go_wp2
      go_roundw
      case rel=>exact ⟨k+1,hlt,by go_num,HG,HW.o.trans ⟨rfl,rfl,rfl,JJ _,λ_ _=>rfl⟩,by first | exact HA.o | exact HA.o.drew,by first | exact HB.o | exact HB.o.drew⟩
      case measure=>simp [intOf];omega
    | false=>
     have HE:Hi (isE a b X=false):=hdd (by rw [ZK,e1,e3];first | rfl | simp);have HG:Hi ((L.take (k+1)).find? (isE a b)=none):=hdd (xv hkL HF.o (by rw [HX.o];exact HE.o));have HW:=hdd hwr;have HA:=hdd BA;have HB:=hdd BB;clear HE HF HX hwr BA BB;go_wp2
     go_quiet (fail)
     go_wp2
     go_roundw
     case rel=>exact ⟨k+1,hlt,by go_num,HG,HW.o.trans ⟨rfl,rfl,rfl,JJ _,λ_ _=>rfl⟩,by first | exact HA.o | exact HA.o.drew,by first | exact HB.o | exact HB.o.drew⟩
     case measure=>simp [intOf];omega
  ·obtain rfl:k=n:=by omega
   have hK:kindD L a b=0:=by
    unfold kindD;rw [XW (by rw [HM.o];exact HF.o)]
   obtain ⟨d0,d1,d2,d3⟩:=BD.f;have HK:=hdd hK;clear hK;go_wp2
   go_ret
   exact ⟨zi HK.o.symm,hwr⟩
end
section
open Go.RowKit Go.Sort
attribute [local go_sem] rOper rAt rUpon cell_set sg_i64 sg_u64 alloc_cell alloc_frozen
attribute [local go_sem 10000] pt_eql pt_neq tri_eql
attribute [local irreducible] rWalk
def badD (E:Es) (D:List Wl) (p q:Pt):Bool:=(lftE E p q).2 && ((lftE E q p).2 && (decide (kindD D p q=0) && decide (circ (lftE E p q).1.A (lftE E p q).1.B (lftE E p q).1.C (apx (lftE E q p).1 p q)=1)))
theorem rbad_a (mb b db:Nat) (a0:Option Addr) (c n:Nat) (E:Es) (D:List Wl) (p q:Pt) (hk:okW (p,q)) (X Y:Tri3) (h1:lftE E p q=(X,false)) (v2:Bool) (h2:lftE E q p=(Y,v2)) (w:World) (Bm:Box w mb [.map (some b)] 98) (Hm:Hs w b E) (Dw:DocRd w db a0 c n D):Calls prog 84 #[pt0 mb,pt0 db,p,q] w (Rt w (.bool false)):=by
 have cl:=zZ mb b E p q hk;have cl':=zZ mb b E q p ⟨hk.2,hk.1⟩;have ck:=qY db a0 c n D p q;have cf:=xB Y p q;have cc:=λz=>qa X.A X.B X.C z;rw [h1] at cl;rw [h2] at cl';clear h1 h2 hk;generalize kindD D p q=k at *
 generalize apx Y p q=z at *
 replace cc:=cc z;generalize circ X.A X.B X.C z=ci at *
 go_enter func84,ntmps84
 go_wp2_with fail;refine qE2 λW1 Ba Bb hw=>?_;refine qC2 (cl _ (Bm.ee hw) (Hm.ee hw)) Ba Bb hw λw2 Ba Bb hw Gq=>?_;go_wp2_with fail;clear Gq;refine zI λW3 hW=>?_;obtain ⟨bkx,hbx⟩:∃ b,w2.heap.size=b:=⟨_,rfl⟩;rw [hbx];obtain ⟨lax,lbx,fx,Bx,Ba,Bb,hw⟩:=qM2 hW hbx Ba Bb hw;clear hW hbx;refine qC3 (cl' _ (Bm.ee hw) (Hm.ee hw)) Ba Bb Bx hw λw4 Ba Bb Bx hw GQ=>?_;go_wp2_with fail;clear GQ;refine zG λW5 hW=>?_;obtain ⟨bky,hby⟩:∃ b,w4.heap.size=b:=⟨_,rfl⟩;rw [hby];obtain ⟨lay,lby,lxy,fy,By,Ba,Bb,Bx,hw⟩:=qM3 hW hby Ba Bb Bx hw;clear hW hby;have d1:∀ d os,Calls prog 133 #[pt0 db,p,q] (grow (redrawn W5 d) os) λe w'=>e=.returned (.int .i64 k)/\Below (grow (redrawn W5 d) os).heap.size (grow (redrawn W5 d) os) w':=λd os=>ck _ ((Dw.ee hw).ext (below_regrown W5 d os) rfl);clear cl cl' ck Bm Hm Dw;have GV:=J4 Ba.cells Bb.cells Bx.cells By.cells;refine wrt 25 (by kernel_rfl) (by kernel_rfl) ?_;simp only [tK1,tK0,dP1,dP0];refine wkx ?_;intro w6 hb;clear GV;obtain ⟨Ba,Bb,Bx,By,hw,Ry⟩:=qX4 Ba Bb Bx By hw hb;go_wp2
 go_ret
 exact ⟨rfl,hw⟩
theorem rbad_b (mb b db:Nat) (a0:Option Addr) (c n:Nat) (E:Es) (D:List Wl) (p q:Pt) (hk:okW (p,q)) (X Y:Tri3) (h1:lftE E p q=(X,true)) (h2:lftE E q p=(Y,false)) (w:World) (Bm:Box w mb [.map (some b)] 98) (Hm:Hs w b E) (Dw:DocRd w db a0 c n D):Calls prog 84 #[pt0 mb,pt0 db,p,q] w (Rt w (.bool false)):=by
 have cl:=zZ mb b E p q hk;have cl':=zZ mb b E q p ⟨hk.2,hk.1⟩;have ck:=qY db a0 c n D p q;have cf:=xB Y p q;have cc:=λz=>qa X.A X.B X.C z;rw [h1] at cl;rw [h2] at cl';clear h1 h2 hk;generalize kindD D p q=k at *
 generalize apx Y p q=z at *
 replace cc:=cc z;generalize circ X.A X.B X.C z=ci at *
 go_enter func84,ntmps84
 go_wp2_with fail;refine qE2 λW1 Ba Bb hw=>?_;refine qC2 (cl _ (Bm.ee hw) (Hm.ee hw)) Ba Bb hw λw2 Ba Bb hw Gq=>?_;go_wp2_with fail;clear Gq;refine zI λW3 hW=>?_;obtain ⟨bkx,hbx⟩:∃ b,w2.heap.size=b:=⟨_,rfl⟩;rw [hbx];obtain ⟨lax,lbx,fx,Bx,Ba,Bb,hw⟩:=qM2 hW hbx Ba Bb hw;clear hW hbx;refine qC3 (cl' _ (Bm.ee hw) (Hm.ee hw)) Ba Bb Bx hw λw4 Ba Bb Bx hw GQ=>?_;go_wp2_with fail;clear GQ;refine zG λW5 hW=>?_;obtain ⟨bky,hby⟩:∃ b,w4.heap.size=b:=⟨_,rfl⟩;rw [hby];obtain ⟨lay,lby,lxy,fy,By,Ba,Bb,Bx,hw⟩:=qM3 hW hby Ba Bb Bx hw;clear hW hby;have d1:∀ d os,Calls prog 133 #[pt0 db,p,q] (grow (redrawn W5 d) os) λe w'=>e=.returned (.int .i64 k)/\Below (grow (redrawn W5 d) os).heap.size (grow (redrawn W5 d) os) w':=λd os=>ck _ ((Dw.ee hw).ext (below_regrown W5 d os) rfl);clear cl cl' ck Bm Hm Dw;have GV:=J4 Ba.cells Bb.cells Bx.cells By.cells;refine wrt 25 (by kernel_rfl) (by kernel_rfl) ?_;simp only [tK1,tK0,dP1,dP0];refine wkx ?_;intro w6 hb;clear GV;obtain ⟨Ba,Bb,Bx,By,hw,Ry⟩:=qX4 Ba Bb Bx By hw hb;go_wp2
 go_ret
 exact ⟨rfl,hw⟩
theorem rbad_c (mb b db:Nat) (a0:Option Addr) (c n:Nat) (E:Es) (D:List Wl) (p q:Pt) (hk:okW (p,q)) (X Y:Tri3) (h1:lftE E p q=(X,true)) (h2:lftE E q p=(Y,true)) (h3:decide (kindD D p q=0)=false) (w:World) (Bm:Box w mb [.map (some b)] 98) (Hm:Hs w b E) (Dw:DocRd w db a0 c n D):Calls prog 84 #[pt0 mb,pt0 db,p,q] w (Rt w (.bool false)):=by
 have cl:=zZ mb b E p q hk;have cl':=zZ mb b E q p ⟨hk.2,hk.1⟩;have ck:=qY db a0 c n D p q;have cf:=xB Y p q;have cc:=λz=>qa X.A X.B X.C z;rw [h1] at cl;rw [h2] at cl';clear h1 h2 hk;generalize kindD D p q=k at *
 generalize apx Y p q=z at *
 replace cc:=cc z;generalize circ X.A X.B X.C z=ci at *
 have h3:(k == 0)=false:=by simpa using h3
 go_enter func84,ntmps84
 go_wp2_with fail;refine qE2 λW1 Ba Bb hw=>?_;refine qC2 (cl _ (Bm.ee hw) (Hm.ee hw)) Ba Bb hw λw2 Ba Bb hw Gq=>?_;go_wp2_with fail;clear Gq;refine zI λW3 hW=>?_;obtain ⟨bkx,hbx⟩:∃ b,w2.heap.size=b:=⟨_,rfl⟩;rw [hbx];obtain ⟨lax,lbx,fx,Bx,Ba,Bb,hw⟩:=qM2 hW hbx Ba Bb hw;clear hW hbx;refine qC3 (cl' _ (Bm.ee hw) (Hm.ee hw)) Ba Bb Bx hw λw4 Ba Bb Bx hw GQ=>?_;go_wp2_with fail;clear GQ;refine zG λW5 hW=>?_;obtain ⟨bky,hby⟩:∃ b,w4.heap.size=b:=⟨_,rfl⟩;rw [hby];obtain ⟨lay,lby,lxy,fy,By,Ba,Bb,Bx,hw⟩:=qM3 hW hby Ba Bb Bx hw;clear hW hby;have d1:∀ d os,Calls prog 133 #[pt0 db,p,q] (grow (redrawn W5 d) os) λe w'=>e=.returned (.int .i64 k)/\Below (grow (redrawn W5 d) os).heap.size (grow (redrawn W5 d) os) w':=λd os=>ck _ ((Dw.ee hw).ext (below_regrown W5 d os) rfl);clear cl cl' ck Bm Hm Dw;have GV:=J4 Ba.cells Bb.cells Bx.cells By.cells;refine wrt 25 (by kernel_rfl) (by kernel_rfl) ?_;simp only [tK1,tK0,dP1,dP0];refine wkx ?_;intro w6 hb;clear GV;obtain ⟨Ba,Bb,Bx,By,hw,Ry⟩:=qX4 Ba Bb Bx By hw hb;go_wp2
 go_ret
 exact ⟨rfl,hw⟩
theorem rbad_d (mb b db:Nat) (a0:Option Addr) (c n:Nat) (E:Es) (D:List Wl) (p q:Pt) (hk:okW (p,q)) (X Y:Tri3) (h1:lftE E p q=(X,true)) (h2:lftE E q p=(Y,true)) (h3:kindD D p q=0) (w:World) (Bm:Box w mb [.map (some b)] 98) (Hm:Hs w b E) (Dw:DocRd w db a0 c n D):Calls prog 84 #[pt0 mb,pt0 db,p,q] w (Rt w (.bool (circ X.A X.B X.C (apx Y p q) == 1))):=by
 have cl:=zZ mb b E p q hk;have cl':=zZ mb b E q p ⟨hk.2,hk.1⟩;have ck:=qY db a0 c n D p q;have cf:=xB Y p q;have cc:=λz=>qa X.A X.B X.C z;rw [h1] at cl;rw [h2] at cl';clear h1 h2 hk;generalize kindD D p q=k at *
 generalize apx Y p q=z at *
 replace cc:=cc z;generalize circ X.A X.B X.C z=ci at *
 subst h3
 go_enter func84,ntmps84
 go_wp2_with fail;refine qE2 λW1 Ba Bb hw=>?_;refine qC2 (cl _ (Bm.ee hw) (Hm.ee hw)) Ba Bb hw λw2 Ba Bb hw Gq=>?_;go_wp2_with fail;clear Gq;refine zI λW3 hW=>?_;obtain ⟨bkx,hbx⟩:∃ b,w2.heap.size=b:=⟨_,rfl⟩;rw [hbx];obtain ⟨lax,lbx,fx,Bx,Ba,Bb,hw⟩:=qM2 hW hbx Ba Bb hw;clear hW hbx;refine qC3 (cl' _ (Bm.ee hw) (Hm.ee hw)) Ba Bb Bx hw λw4 Ba Bb Bx hw GQ=>?_;go_wp2_with fail;clear GQ;refine zG λW5 hW=>?_;obtain ⟨bky,hby⟩:∃ b,w4.heap.size=b:=⟨_,rfl⟩;rw [hby];obtain ⟨lay,lby,lxy,fy,By,Ba,Bb,Bx,hw⟩:=qM3 hW hby Ba Bb Bx hw;clear hW hby;have d1:∀ d os,Calls prog 133 #[pt0 db,p,q] (grow (redrawn W5 d) os) λe w'=>e=.returned (.int .i64 0)/\Below (grow (redrawn W5 d) os).heap.size (grow (redrawn W5 d) os) w':=λd os=>ck _ ((Dw.ee hw).ext (below_regrown W5 d os) rfl);clear cl cl' ck Bm Hm Dw;have GV:=J4 Ba.cells Bb.cells Bx.cells By.cells;refine wrt 25 (by kernel_rfl) (by kernel_rfl) ?_;simp only [tK1,tK0,dP1,dP0];refine wkx ?_;intro w6 hb;clear GV;obtain ⟨Ba,Bb,Bx,By,hw,Ry⟩:=qX4 Ba Bb Bx By hw hb;go_wp2
 go_ret
 exact ⟨rfl,hw⟩
theorem Yp (mb b db:Nat) (a0:Option Addr) (c n:Nat) (E:Es) (D:List Wl) (p q:Pt) (hk:okW (p,q)) (w:World) (Bm:Box w mb [.map (some b)] 98) (Hm:Hs w b E) (Dw:DocRd w db a0 c n D):Calls prog 84 #[pt0 mb,pt0 db,p,q] w (Rt w (.bool (badD E D p q))):=by
 unfold badD;cases h1:lftE E p q with
 | mk X v1=>
  cases h2:lftE E q p with
  | mk Y v2=>
   cases v1 with
   | false=>exact rbad_a mb b db a0 c n E D p q hk X Y h1 v2 h2 w Bm Hm Dw
   | true=>
    cases v2 with
    | false=>exact rbad_b mb b db a0 c n E D p q hk X Y h1 h2 w Bm Hm Dw
    | true=>
     by_cases h3:kindD D p q=0
     ·have k:=rbad_d mb b db a0 c n E D p q hk X Y h1 h2 h3 w Bm Hm Dw;have e:(circ X.A X.B X.C (apx Y p q) == 1)=decide (circ X.A X.B X.C (apx Y p q)=1):=rfl;rw [e] at k
      simpa [h3] using k
     ·simpa [h3] using rbad_c mb b db a0 c n E D p q hk X Y h1 h2 (by simpa using h3) w Bm Hm Dw
attribute [local go_sem] rmap_nil
theorem rput_0 (mb b:Nat) (E:Es) (T:Tri3) (S:Tri3) (hg0:getE E (T.A,T.B)=some S) (hk:okT T) (w:World) (Bm:Box w mb [.map (some b)] 98) (Hm:Hs w b E):Calls prog 78 #[pt0 mb,T] w (Rt w (.bool false)):=by
 have ce:=qE T
 go_enter func78,ntmps78
 go_wp2_with fail;refine qE1 λW1 Bt hw=>?_;refine qC1 (ce _) Bt hw λw2 Bt hw Ft=>?_;go_wp2_with fail;refine zG λW3 hW=>?_;obtain ⟨bke,hbe⟩:∃ b,w2.heap.size=b:=⟨_,rfl⟩;rw [hbe];obtain ⟨lte,fe,Be,Bt,hw⟩:=qM1 hW hbe Bt hw;clear hW hbe;have BM:Box W3 (mb) [.map (some b)] 98:=Bm.ee hw;refine wp_loop_rounds 5 ?_;try rw [rounds_succ]
 have Ft:=Bt.f;have Fe:=Be.f;have FM:=BM.f;go_wp2_with fail;refine zG λW4 hW=>?_;subst hW;clear Ft Fe FM;have hl:∀ d os,(Instr.lookup 96 (.map (some b)) (.agg #[T.A.x,T.A.y,T.B.x,T.B.y]) true).run prog (grow (redrawn W4 d) os)=.ok (.tuple #[S,.bool true]) (grow (redrawn W4 d) os):=λd os=>((Hm.ee hw).ext (below_regrown W4 d os) rfl).look_some kvR y9 (okT_w hk).1 hg0;clear hg0;have Gz:=J3 Bt.cells Be.cells BM.cells;refine rgl 11 7 25 (λw5 bks0 hb h1b h2b Bs0=>?_);have lts0:=Bt.lt;have les0:=Be.lt;have lMs0:=BM.lt;have hw0z:=hw.size;clear Gz;obtain ⟨Bt,Be,BM,hw,-⟩:=qX3 Bt Be BM hw hb;have fs0:=h1b;have hwz:w.heap.size<=W4.heap.size:=hw0z;clear hb h1b h2b hw0z;simp only [Act.put];clear hl;have Ft:=Bt.f;have Fe:=Be.f;have FM:=BM.f;have Fs0:=Bs0.f;go_wp2
 go_ret
 exact ⟨rfl,hw⟩
theorem rput_1 (mb b:Nat) (E:Es) (T:Tri3) (S:Tri3) (hg0:getE E (T.A,T.B)=none) (hg1:getE E (T.B,T.C)=some S) (hk:okT T) (w:World) (Bm:Box w mb [.map (some b)] 98) (Hm:Hs w b E):Calls prog 78 #[pt0 mb,T] w (Rt w (.bool false)):=by
 have ce:=qE T
 go_enter func78,ntmps78
 go_wp2_with fail;refine qE1 λW1 Bt hw=>?_;refine qC1 (ce _) Bt hw λw2 Bt hw Ft=>?_;go_wp2_with fail;refine zG λW3 hW=>?_;obtain ⟨bke,hbe⟩:∃ b,w2.heap.size=b:=⟨_,rfl⟩;rw [hbe];obtain ⟨lte,fe,Be,Bt,hw⟩:=qM1 hW hbe Bt hw;clear hW hbe;have BM:Box W3 (mb) [.map (some b)] 98:=Bm.ee hw;refine wp_loop_rounds 5 ?_;try rw [rounds_succ]
 have Ft:=Bt.f;have Fe:=Be.f;have FM:=BM.f;go_wp2_with fail;refine zG λW4 hW=>?_;subst hW;clear Ft Fe FM;have hl:∀ d os,(Instr.lookup 96 (.map (some b)) (.agg #[T.A.x,T.A.y,T.B.x,T.B.y]) true).run prog (grow (redrawn W4 d) os)=.ok (.tuple #[.agg #[(),(),(),(),(),()],.bool false]) (grow (redrawn W4 d) os):=λd os=>((Hm.ee hw).ext (below_regrown W4 d os) rfl).look_none kvR y9 (okT_w hk).1 hg0;clear hg0;have Gz:=J3 Bt.cells Be.cells BM.cells;refine rgl 11 7 25 (λw5 bks0 hb h1b h2b Bs0=>?_);have lts0:=Bt.lt;have les0:=Be.lt;have lMs0:=BM.lt;have hw0z:=hw.size;clear Gz;obtain ⟨Bt,Be,BM,hw,-⟩:=qX3 Bt Be BM hw hb;have fs0:=h1b;have hwz:w.heap.size<=W4.heap.size:=hw0z;clear hb h1b h2b hw0z;simp only [Act.put];clear hl;have Hx:=J4 Bt.f Be.f BM.f Bs0.f;go_wp2_with fail;clear Hx;clear Bs0;try rw [rounds_succ]
 have Ft:=Bt.f;have Fe:=Be.f;have FM:=BM.f;go_wp2_with fail;refine zG λW6 hW=>?_;subst hW;clear Ft Fe FM;have hl:∀ d os,(Instr.lookup 96 (.map (some b)) (.agg #[T.B.x,T.B.y,T.C.x,T.C.y]) true).run prog (grow (redrawn W6 d) os)=.ok (.tuple #[S,.bool true]) (grow (redrawn W6 d) os):=λd os=>((Hm.ee hw).ext (below_regrown W6 d os) rfl).look_some kvR y9 (okT_w hk).2.1 hg1;clear hg1;have Gz:=J3 Bt.cells Be.cells BM.cells;refine rgl 11 7 25 (λw7 bks1 hb h1b h2b Bs1=>?_);have lts1:=Bt.lt;have les1:=Be.lt;have lMs1:=BM.lt;have hw0z:=hw.size;clear Gz;obtain ⟨Bt,Be,BM,hw,-⟩:=qX3 Bt Be BM hw hb;have fs1:=h1b;have hwz:w.heap.size<=W6.heap.size:=hw0z;clear hb h1b h2b hw0z;simp only [Act.put];clear hl;have Ft:=Bt.f;have Fe:=Be.f;have FM:=BM.f;have Fs1:=Bs1.f;go_wp2
 go_ret
 exact ⟨rfl,hw⟩
theorem rput_2 (mb b:Nat) (E:Es) (T:Tri3) (S:Tri3) (hg0:getE E (T.A,T.B)=none) (hg1:getE E (T.B,T.C)=none) (hg2:getE E (T.C,T.A)=some S) (hk:okT T) (w:World) (Bm:Box w mb [.map (some b)] 98) (Hm:Hs w b E):Calls prog 78 #[pt0 mb,T] w (Rt w (.bool false)):=by
 have ce:=qE T
 go_enter func78,ntmps78
 go_wp2_with fail;refine qE1 λW1 Bt hw=>?_;refine qC1 (ce _) Bt hw λw2 Bt hw Ft=>?_;go_wp2_with fail;refine zG λW3 hW=>?_;obtain ⟨bke,hbe⟩:∃ b,w2.heap.size=b:=⟨_,rfl⟩;rw [hbe];obtain ⟨lte,fe,Be,Bt,hw⟩:=qM1 hW hbe Bt hw;clear hW hbe;have BM:Box W3 (mb) [.map (some b)] 98:=Bm.ee hw;refine wp_loop_rounds 5 ?_;try rw [rounds_succ]
 have Ft:=Bt.f;have Fe:=Be.f;have FM:=BM.f;go_wp2_with fail;refine zG λW4 hW=>?_;subst hW;clear Ft Fe FM;have hl:∀ d os,(Instr.lookup 96 (.map (some b)) (.agg #[T.A.x,T.A.y,T.B.x,T.B.y]) true).run prog (grow (redrawn W4 d) os)=.ok (.tuple #[.agg #[(),(),(),(),(),()],.bool false]) (grow (redrawn W4 d) os):=λd os=>((Hm.ee hw).ext (below_regrown W4 d os) rfl).look_none kvR y9 (okT_w hk).1 hg0;clear hg0;have Gz:=J3 Bt.cells Be.cells BM.cells;refine rgl 11 7 25 (λw5 bks0 hb h1b h2b Bs0=>?_);have lts0:=Bt.lt;have les0:=Be.lt;have lMs0:=BM.lt;have hw0z:=hw.size;clear Gz;obtain ⟨Bt,Be,BM,hw,-⟩:=qX3 Bt Be BM hw hb;have fs0:=h1b;have hwz:w.heap.size<=W4.heap.size:=hw0z;clear hb h1b h2b hw0z;simp only [Act.put];clear hl;have Hx:=J4 Bt.f Be.f BM.f Bs0.f;go_wp2_with fail;clear Hx;clear Bs0;try rw [rounds_succ]
 have Ft:=Bt.f;have Fe:=Be.f;have FM:=BM.f;go_wp2_with fail;refine zG λW6 hW=>?_;subst hW;clear Ft Fe FM;have hl:∀ d os,(Instr.lookup 96 (.map (some b)) (.agg #[T.B.x,T.B.y,T.C.x,T.C.y]) true).run prog (grow (redrawn W6 d) os)=.ok (.tuple #[.agg #[(),(),(),(),(),()],.bool false]) (grow (redrawn W6 d) os):=λd os=>((Hm.ee hw).ext (below_regrown W6 d os) rfl).look_none kvR y9 (okT_w hk).2.1 hg1;clear hg1;have Gz:=J3 Bt.cells Be.cells BM.cells;refine rgl 11 7 25 (λw7 bks1 hb h1b h2b Bs1=>?_);have lts1:=Bt.lt;have les1:=Be.lt;have lMs1:=BM.lt;have hw0z:=hw.size;clear Gz;obtain ⟨Bt,Be,BM,hw,-⟩:=qX3 Bt Be BM hw hb;have fs1:=h1b;have hwz:w.heap.size<=W6.heap.size:=hw0z;clear hb h1b h2b hw0z;simp only [Act.put];clear hl;have Rx:=J4 Bt.f Be.f BM.f Bs1.f;go_wp2_with fail;clear Rx;clear Bs1;try rw [rounds_succ]
 have Ft:=Bt.f;have Fe:=Be.f;have FM:=BM.f;go_wp2_with fail;refine zG λW8 hW=>?_;subst hW;clear Ft Fe FM;have hl:∀ d os,(Instr.lookup 96 (.map (some b)) (.agg #[T.C.x,T.C.y,T.A.x,T.A.y]) true).run prog (grow (redrawn W8 d) os)=.ok (.tuple #[S,.bool true]) (grow (redrawn W8 d) os):=λd os=>((Hm.ee hw).ext (below_regrown W8 d os) rfl).look_some kvR y9 (okT_w hk).2.2 hg2;clear hg2;have Gz:=J3 Bt.cells Be.cells BM.cells;refine rgl 11 7 25 (λw9 bks2 hb h1b h2b Bs2=>?_);have lts2:=Bt.lt;have les2:=Be.lt;have lMs2:=BM.lt;have hw0z:=hw.size;clear Gz;obtain ⟨Bt,Be,BM,hw,-⟩:=qX3 Bt Be BM hw hb;have fs2:=h1b;have hwz:w.heap.size<=W8.heap.size:=hw0z;clear hb h1b h2b hw0z;simp only [Act.put];clear hl;have Ft:=Bt.f;have Fe:=Be.f;have FM:=BM.f;have Fs2:=Bs2.f;go_wp2
 go_ret
 exact ⟨rfl,hw⟩
theorem rput_3 (mb b:Nat) (E:Es) (T:Tri3) (hg0:getE E (T.A,T.B)=none) (hg1:getE E (T.B,T.C)=none) (hg2:getE E (T.C,T.A)=none) (hk:okT T) (w:World) (Bm:Box w mb [.map (some b)] 98) (Hm:Hs w b E):Calls prog 78 #[pt0 mb,T] w λe w'=>e=.returned (.bool true)/\w.grownBy w' (some b)/\Hs w' b (putT E T):=by
 have ce:=qE T
 go_enter func78,ntmps78
 go_wp2_with fail;refine qE1 λW1 Bt hw=>?_;refine qC1 (ce _) Bt hw λw2 Bt hw Ft=>?_;go_wp2_with fail;refine zG λW3 hW=>?_;obtain ⟨bke,hbe⟩:∃ b,w2.heap.size=b:=⟨_,rfl⟩;rw [hbe];obtain ⟨lte,fe,Be,Bt,hw⟩:=qM1 hW hbe Bt hw;clear hW hbe;have BM:Box W3 (mb) [.map (some b)] 98:=Bm.ee hw;refine wp_loop_rounds 5 ?_;try rw [rounds_succ]
 have Ft:=Bt.f;have Fe:=Be.f;have FM:=BM.f;go_wp2_with fail;refine zG λW4 hW=>?_;subst hW;clear Ft Fe FM;have hl:∀ d os,(Instr.lookup 96 (.map (some b)) (.agg #[T.A.x,T.A.y,T.B.x,T.B.y]) true).run prog (grow (redrawn W4 d) os)=.ok (.tuple #[.agg #[(),(),(),(),(),()],.bool false]) (grow (redrawn W4 d) os):=λd os=>((Hm.ee hw).ext (below_regrown W4 d os) rfl).look_none kvR y9 (okT_w hk).1 hg0;clear hg0;have Gz:=J3 Bt.cells Be.cells BM.cells;refine rgl 11 7 25 (λw5 bks0 hb h1b h2b Bs0=>?_);have lts0:=Bt.lt;have les0:=Be.lt;have lMs0:=BM.lt;have hw0z:=hw.size;clear Gz;obtain ⟨Bt,Be,BM,hw,-⟩:=qX3 Bt Be BM hw hb;have fs0:=h1b;have hwz:w.heap.size<=W4.heap.size:=hw0z;clear hb h1b h2b hw0z;simp only [Act.put];clear hl;have Hx:=J4 Bt.f Be.f BM.f Bs0.f;go_wp2_with fail;clear Hx;clear Bs0;try rw [rounds_succ]
 have Ft:=Bt.f;have Fe:=Be.f;have FM:=BM.f;go_wp2_with fail;refine zG λW6 hW=>?_;subst hW;clear Ft Fe FM;have hl:∀ d os,(Instr.lookup 96 (.map (some b)) (.agg #[T.B.x,T.B.y,T.C.x,T.C.y]) true).run prog (grow (redrawn W6 d) os)=.ok (.tuple #[.agg #[(),(),(),(),(),()],.bool false]) (grow (redrawn W6 d) os):=λd os=>((Hm.ee hw).ext (below_regrown W6 d os) rfl).look_none kvR y9 (okT_w hk).2.1 hg1;clear hg1;have Gz:=J3 Bt.cells Be.cells BM.cells;refine rgl 11 7 25 (λw7 bks1 hb h1b h2b Bs1=>?_);have lts1:=Bt.lt;have les1:=Be.lt;have lMs1:=BM.lt;have hw0z:=hw.size;clear Gz;obtain ⟨Bt,Be,BM,hw,-⟩:=qX3 Bt Be BM hw hb;have fs1:=h1b;have hwz:w.heap.size<=W6.heap.size:=hw0z;clear hb h1b h2b hw0z;simp only [Act.put];clear hl;have Rx:=J4 Bt.f Be.f BM.f Bs1.f;go_wp2_with fail;clear Rx;clear Bs1;try rw [rounds_succ]
 have Ft:=Bt.f;have Fe:=Be.f;have FM:=BM.f;go_wp2_with fail;refine zG λW8 hW=>?_;subst hW;clear Ft Fe FM;have hl:∀ d os,(Instr.lookup 96 (.map (some b)) (.agg #[T.C.x,T.C.y,T.A.x,T.A.y]) true).run prog (grow (redrawn W8 d) os)=.ok (.tuple #[.agg #[(),(),(),(),(),()],.bool false]) (grow (redrawn W8 d) os):=λd os=>((Hm.ee hw).ext (below_regrown W8 d os) rfl).look_none kvR y9 (okT_w hk).2.2 hg2;clear hg2;have Gz:=J3 Bt.cells Be.cells BM.cells;refine rgl 11 7 25 (λw9 bks2 hb h1b h2b Bs2=>?_);have lts2:=Bt.lt;have les2:=Be.lt;have lMs2:=BM.lt;have hw0z:=hw.size;clear Gz;obtain ⟨Bt,Be,BM,hw,-⟩:=qX3 Bt Be BM hw hb;have fs2:=h1b;have hwz:w.heap.size<=W8.heap.size:=hw0z;clear hb h1b h2b hw0z;simp only [Act.put];clear hl;have RK:=J4 Bt.f Be.f BM.f Bs2.f;go_wp2_with fail;clear RK;clear Bs2;try rw [rounds_succ]
 have Ft:=Bt.f;have Fe:=Be.f;have FM:=BM.f;go_wp2_with fail;refine zG λW10 hW=>?_;subst hW;clear Ft Fe FM;refine wp_loop_rounds 5 ?_;have HF:=Hm.ee hw;have hg:w.grownBy W10 (some b):=zM hw _;clear hw;try rw [rounds_succ]
 have Ft:=Bt.f;have Fe:=Be.f;have FM:=BM.f;go_wp2_with fail;have hw:Below W10 W10 W10:=Below.refl _ _;have Gz:=J3 Bt.cells Be.cells BM.cells;refine rgn 8 (λw11 hb=>?_);clear Gz;clear Ft Fe FM;obtain ⟨Bt,Be,BM,hw,-⟩:=qX3 Bt Be BM hw hb;replace HF:=HF.ee hw;replace hg:=zO hg hw;clear hw;refine yq _ rfl _ _ _ rfl kvR rfl HF (T.A,T.B) T rfl rfl (okT_w hk).1 ?_;intro c0 HG hh hs;replace Bt:=Bt.turn HF hh;replace Be:=Be.turn HF hh;replace BM:=BM.turn HF hh;replace hg:=zR hg hh;clear HF hh hs;have HF:=HG;clear HG;have G8:=J3 Bt.f Be.f BM.f;go_wp2_with fail;clear G8;try rw [rounds_succ]
 have Ft:=Bt.f;have Fe:=Be.f;have FM:=BM.f;go_wp2_with fail;have hw:Below c0 c0 c0:=Below.refl _ _;have Gz:=J3 Bt.cells Be.cells BM.cells;refine rgn 8 (λw12 hb=>?_);clear Gz;clear Ft Fe FM;obtain ⟨Bt,Be,BM,hw,-⟩:=qX3 Bt Be BM hw hb;replace HF:=HF.ee hw;replace hg:=zO hg hw;clear hw;refine yq _ rfl _ _ _ rfl kvR rfl HF (T.B,T.C) T rfl rfl (okT_w hk).2.1 ?_;intro c1 HG hh hs;replace Bt:=Bt.turn HF hh;replace Be:=Be.turn HF hh;replace BM:=BM.turn HF hh;replace hg:=zR hg hh;clear HF hh hs;have HF:=HG;clear HG;have G8:=J3 Bt.f Be.f BM.f;go_wp2_with fail;clear G8;try rw [rounds_succ]
 have Ft:=Bt.f;have Fe:=Be.f;have FM:=BM.f;go_wp2_with fail;have hw:Below c1 c1 c1:=Below.refl _ _;have Gz:=J3 Bt.cells Be.cells BM.cells;refine rgn 8 (λw13 hb=>?_);clear Gz;clear Ft Fe FM;obtain ⟨Bt,Be,BM,hw,-⟩:=qX3 Bt Be BM hw hb;replace HF:=HF.ee hw;replace hg:=zO hg hw;clear hw;refine yq _ rfl _ _ _ rfl kvR rfl HF (T.C,T.A) T rfl rfl (okT_w hk).2.2 ?_;intro c2 HG hh hs;replace Bt:=Bt.turn HF hh;replace Be:=Be.turn HF hh;replace BM:=BM.turn HF hh;replace hg:=zR hg hh;clear HF hh hs;have HF:=HG;clear HG;have G8:=J3 Bt.f Be.f BM.f;go_wp2_with fail;clear G8;try rw [rounds_succ]
 have Ft:=Bt.f;have Fe:=Be.f;have FM:=BM.f;go_wp2
 go_ret
 exact ⟨rfl,hg,HF⟩
def freeE (E:Es) (T:Tri3):Bool:=(getE E (T.A,T.B)).isNone && ((getE E (T.B,T.C)).isNone && (getE E (T.C,T.A)).isNone)
theorem ud (E:Es) (T:Tri3):fitsE E T=(freeE E T && valT T):=by unfold fitsE freeE;simp only [Bool.and_assoc]
theorem KG (mb b:Nat) (E:Es) (T:Tri3) (hf:freeE E T=false) (hk:okT T) (w:World) (Bm:Box w mb [.map (some b)] 98) (Hm:Hs w b E):Calls prog 78 #[pt0 mb,T] w (Rt w (.bool false)):=by
 unfold freeE at hf;cases h0:getE E (T.A,T.B) with
 | some S=>exact rput_0 mb b E T S h0 hk w Bm Hm
 | none=>
  cases h1:getE E (T.B,T.C) with
  | some S=>exact rput_1 mb b E T S h0 h1 hk w Bm Hm
  | none=>
   cases h2:getE E (T.C,T.A) with
   | some S=>exact rput_2 mb b E T S h0 h1 h2 hk w Bm Hm
   | none=>rw [h0,h1,h2] at hf;simp at hf
theorem uF (mb b:Nat) (E:Es) (T:Tri3) (hf:freeE E T) (hk:okT T) (w:World) (Bm:Box w mb [.map (some b)] 98) (Hm:Hs w b E):Calls prog 78 #[pt0 mb,T] w λe w'=>e=.returned (.bool true)/\w.grownBy w' (some b)/\Hs w' b (putT E T):=by
 unfold freeE at hf;simp only [JB,Vr] at hf;exact rput_3 mb b E T hf.1 hf.2.1 hf.2.2 hk w Bm Hm
attribute [local go_sem] run_makeMap
def Six (w : World) (A : Addr) (T : Tri3) : Prop := A.block < w.heap.size /\ (w.cell? A = some (.int .i64 T.A.x) /\ w.cell? ⟨A.block, A.off + 1, none⟩ = some (.int .i64 T.A.y) /\ w.cell? ⟨A.block, A.off + 2, none⟩ = some (.int .i64 T.B.x) /\
      w.cell? ⟨A.block,A.off+3,none⟩=some (.int .i64 T.B.y)/\w.cell? ⟨A.block,A.off+4,none⟩=some (.int .i64 T.C.x)/\w.cell? ⟨A.block,A.off+5,none⟩=some (.int .i64 T.C.y))
theorem RowAt.six {w:World} {a:Option Addr} {L:List Tri3} (h:RowAt cT 6 w a L) {j:Nat} (hj:j < L.length):∃ ad A,a=some ad/\ad.add (j * 6)=A/\Six w A L[j]:=by
 obtain ⟨ad,A,h1,h2,_,h4,h5⟩:=h.tri hj;exact ⟨ad,A,h1,h2,h4,h5⟩
theorem Six.ext {w w':World} {A:Addr} {T:Tri3} {n:Nat} (h:Six w A T) (hb:Below n w w') (hn:n=w.heap.size):Six w' A T:=by
 obtain ⟨h0,h1,h2,h3,h4,h5,h6⟩:=h;have e:∀ p:Addr,p.block=A.block->w'.cell? p=w.cell? p:=λp hp=>hb.cell (by rw [hp,hn];exact h0);exact ⟨QN h0 hb.size,(e A rfl).trans h1,(e ⟨A.block,A.off+1,none⟩ rfl).trans h2,(e ⟨A.block,A.off+2,none⟩ rfl).trans h3,(e ⟨A.block,A.off+3,none⟩ rfl).trans h4,(e ⟨A.block,A.off+4,none⟩ rfl).trans h5,(e ⟨A.block,A.off+5,none⟩ rfl).trans h6⟩
theorem Six.ee {w w':World} {A:Addr} {T:Tri3} (h:Six w A T) (hb:Below w w w'):Six w' A T:=h.ext hb rfl
theorem Six.f {w : World} {A : Addr} {T : Tri3} (h : Six w A T) : (A.block = w.heap.size) = False /\ w.cell? A = some (.int .i64 T.A.x) /\ w.cell? ⟨A.block, A.off + 1, none⟩ = some (.int .i64 T.A.y) /\ w.cell? ⟨A.block, A.off + 2, none⟩ = some (.int .i64 T.B.x) /\
      w.cell? ⟨A.block,A.off+3,none⟩=some (.int .i64 T.B.y)/\w.cell? ⟨A.block,A.off+4,none⟩=some (.int .i64 T.C.x)/\w.cell? ⟨A.block,A.off+5,none⟩=some (.int .i64 T.C.y):=⟨by simp;have:=h.1;omega,h.2⟩
def RNewPost (w:World) (n:Nat) (L:List Tri3) (e:Ending) (w':World):Prop:=
 (∃ mb b,e=.returned (.pointer (some ⟨mb,0,none⟩))/\Box w' mb [.map (some b)] 98/\Hs w' b (putRun [] L).2/\w.heap.size<=b/\w.heap.size<=mb/\Below w w w'/\(putRun [] L).1=n) \/
 (e=.returned (.pointer none)/\Below w w w'/\(putRun [] L).1 < n)
theorem rnew_any (a:Option Addr) (cap n:Nat) (L:List Tri3) (hn:Hi (L.length=n)) (hn1:n<=1000000) (hok:∀ T∈L,okT T) (w:World) (Hr:RowAt cT 6 w a L):Calls prog 40 #[.slice a n cap] w (RNewPost w n L):=by
 go_enter func40,ntmps40
 go_wp2_with fail;refine zG λW1 hW=>?_;have BM:Box W1 (w+1) [.map (some w.heap.size)] 98:=by rw [hW];exact Box.new (by simp)
 have HM:Hs W1 w.heap.size ([]:Es):=by rw [hW];exact (HoldsMap.made w).alloc _
 have hw:Below w w W1:=by rw [hW];go_grown
 clear hW
 go_loopw [4] (λi wr=>∃ (k:Nat) (F:Es),k<=n/\i=.int .i64 k/\Hi (putRun [] L=(k+(putRun F (L.drop k)).1,(putRun F (L.drop k)).2))/\Box wr (w+1) [.map (some w.heap.size)] 98/\Hs wr w.heap.size F/\Below w w wr) (λi _=>n - (intOf i).toNat)
 case atStart=>exact ⟨0,[],Jl _,rfl,hdd (by simp),BM,HM,hw⟩
 case round=>
  clear BM HM hw;obtain ⟨k,F,hk,rfl,hR,BM,HF,hw⟩:=hrel;by_cases hlt:k < n
  ·have hlk:k < L.length:=hn.o▸hlt;have hokk:=hok L[k] (JX hlk);have hst:=λhf=>vK hlk hR.o hf;have hsp:=λhf=>vJ hlk hR.o hf;obtain ⟨ad,A,ea,eA,hA⟩:=(Hr.ee hw).six hlk;generalize L[k]=T at *
   have cv:=qW T;cases hv:valT T with
   | false=>
    have HP:=hdd (hsp (by rw [ud,hv,Bool.and_false]));rw [hv] at cv;clear hst hsp hv;obtain ⟨zA,q0,q1,q2,q3,q4,q5⟩:=hA.f;go_wp2_with fail;refine (cv _).mono ?_;rintro e w2 ⟨rfl,hb⟩;clear zA q0 q1 q2 q3 q4 q5;go_wp2
    go_ret
    exact .inr ⟨rfl,(upB hw hb),by rw [HP.o];exact hlt⟩
   | true=>
    rw [hv] at cv;cases hf:freeE F T with
    | false=>
     have HP:=hdd (hsp (by rw [ud,hf,Bool.false_and]));have cp:=KG (w.heap.size+1) w.heap.size F T hf hokk;clear hst hsp hv hf;obtain ⟨zA,q0,q1,q2,q3,q4,q5⟩:=hA.f;go_wp2_with fail;refine (cv _).mono ?_;rintro e w2 ⟨rfl,hb⟩;clear zA q0 q1 q2 q3 q4 q5;obtain ⟨zA,q0,q1,q2,q3,q4,q5⟩:=(hA.ee hb).f;replace hw:=upB hw hb;go_wp2_with fail;refine (cp _ (BM.ee hb) (HF.ee hb)).mono ?_;rintro e w3 ⟨rfl,hb2⟩;clear zA q0 q1 q2 q3 q4 q5;go_wp2
     go_ret
     exact .inr ⟨rfl,(upB hw hb2),by rw [HP.o];exact hlt⟩
    | true=>
     have HP:=hdd (hst (by rw [ud,hf,hv];rfl));have cp:=uF (w.heap.size+1) w.heap.size F T hf hokk;clear hst hsp hv hf;obtain ⟨zA,q0,q1,q2,q3,q4,q5⟩:=hA.f;go_wp2_with fail;refine (cv _).mono ?_;rintro e w2 ⟨rfl,hb⟩;clear zA q0 q1 q2 q3 q4 q5;obtain ⟨zA,q0,q1,q2,q3,q4,q5⟩:=(hA.ee hb).f;replace hw:=upB hw hb;replace BM:=BM.ee hb;replace HF:=HF.ee hb;go_wp2_with fail;refine (cp _ BM HF).mono ?_;rintro e w3 ⟨rfl,hg,HG⟩;clear zA q0 q1 q2 q3 q4 q5;replace BM:=BM.turn HF hg;replace hw:=vu hw hg hw.size (JJ _);clear HF hg hb hA;go_wp2;rw [<-ea]
     go_roundw
     case rel=>exact ⟨k+1,putT F T,by omega,by go_num,HP,BM,HG,hw⟩
     case measure=>simp [intOf];omega
  ·have HP:=hdd (tD (by rw [hn.o];omega) hR.o);go_wp2
   go_ret
   exact .inl ⟨_,_,rfl,BM,by rw [HP.o];exact HF,JJ _,by omega,hw,by rw [HP.o];omega⟩
end
end Go.Proofs.YthhcehmmglmlfaaGreat
