import Derived.Test.YthhcehmmglmlfaaGreatPgo9
set_option maxRecDepth 100000
set_option maxHeartbeats 8000000
set_option linter.all false
namespace Go.Proofs.YthhcehmmglmlfaaGreat
open _root_.Go.Proofs.Tryz
section
open Go.RowKit
def P4 (a b c d:Pt) (x y z v:Int):Int:=det d b c * x+det a d c * y+det a b d * z - det a b c * v
theorem P4_cyc (a b c d:Pt) (x y z v:Int):P4 b c a d y z x v=P4 a b c d x y z v:=by
 unfold P4;have e1:det d c a=det a d c:=by unfold det;grind
 have e2:det b d a=det a b d:=by unfold det;grind
 have e3:det b c d=det d b c:=by unfold det;grind
 have e4:det b c a=det a b c:=zX a b c;rw [e1,e2,e3,e4];omega
def mid (a b:Pt) (s t:Int):Pt:=⟨s * a.x+t * b.x,s * a.y+t * b.y⟩
theorem X4 (a b:Pt) (s t:Int):mid b a t s=mid a b s t:=by unfold mid;rw [UK,UK (t * b.y)]
def low (h:Pt->Int) (M s t:Int) (a b:Pt) (T:Tri3):Prop:=P4 (sc M T.A) (sc M T.B) (sc M T.C) (mid a b s t) (M * h T.A) (M * h T.B) (M * h T.C) (s * h a+t * h b) < 0
theorem j0 {h:Pt->Int} {M s t:Int} {a b x y z:Pt} {T:Tri3} (hc:Cyc T x y z):low h M s t a b T↔P4 (sc M x) (sc M y) (sc M z) (mid a b s t) (M * h x) (M * h y) (M * h z) (s * h a+t * h b) < 0:=by
 unfold low;rcases hc with ⟨rfl,rfl,rfl⟩ | ⟨rfl,rfl,rfl⟩ | ⟨rfl,rfl,rfl⟩
 ·exact Vw
 ·rw [P4_cyc (sc M T.A) (sc M T.B) (sc M T.C)]
 ·rw [P4_cyc (sc M T.C) (sc M T.A) (sc M T.B)]
def dead (h:Pt->Int) (L:List Tri3) (a b:Pt):Prop:=∃ s t:Int,0 < s/\0 < t/\∃ T∈L,hasM (s+t) T (mid a b s t)/\low h (s+t) s t a b T
theorem near3_add {M N:Int} {a b c p v u:Pt} (hN:0<=N) (h:near3 M a b c p v) (h1:det (sc M a) (sc M b) p=0->0<=crd a b u) (h2:det (sc M b) (sc M c) p=0->0<=crd b c u) (h3:det (sc M c) (sc M a) p=0->0<=crd c a u):near3 M a b c p ⟨v.x+N * u.x,v.y+N * u.y⟩:=by
 have key:∀ x y:Pt,crd x y ⟨v.x+N * u.x,v.y+N * u.y⟩=crd x y v+N * crd x y u:=λx y=>by unfold crd;grind
 have one:∀ x y:Pt,(0 < det (sc M x) (sc M y) p\/(det (sc M x) (sc M y) p=0/\0 < crd x y v))->(det (sc M x) (sc M y) p=0->0<=crd x y u)->(0 < det (sc M x) (sc M y) p\/(det (sc M x) (sc M y) p=0/\0 < crd x y ⟨v.x+N * u.x,v.y+N * u.y⟩)):=by
  intro x y k1 k2;rcases k1 with k | ⟨k,k3⟩
  ·exact .inl k
  ·refine .inr ⟨k,?_⟩;have:=JD hN (k2 k);rw [key];omega
 exact ⟨one _ _ h.1 h1,one _ _ h.2.1 h2,one _ _ h.2.2 h3⟩
theorem sc_crd (M:Int) (x y p q:Pt):det (sc M x) (sc M y) (sc M q)=det (sc M x) (sc M y) p+M * crd x y ⟨M * q.x - p.x,M * q.y - p.y⟩:=by unfold det sc crd;grind
section
variable {W H:Int} {L:List Tri3} (t:Tiles W H L) {h:Pt->Int}
include t
theorem Tiles.alive_left {a b q:Pt} {s r:Int} (hs:0 < s) (hr:0 < r) (hm:(a,b)∈L.flatMap ways) {T:Tri3} (hT:T∈L) (hq:isCnr T q) (h1:0 < det a b q) (h2:hasM (s+r) T (mid a b s r)) (h3:low h (s+r) s r a b T):False:=by
 obtain ⟨X,hX,c,cX,pX⟩:=t.way_of hm;obtain ⟨M,eM⟩:∃ M,s+r=M:=⟨_,rfl⟩;have hM:0 < M:=by omega
 obtain ⟨m,em⟩:∃ m,mid a b s r=m:=⟨_,rfl⟩;have e1:det (sc M a) (sc M b) m=0:=by rw [<-em,<-eM];unfold det sc mid;grind
 have e2:det (sc M b) (sc M c) m=M * (s * det a b c):=by rw [<-em,<-eM];unfold det sc mid;grind
 have e3:det (sc M c) (sc M a) m=M * (r * det a b c):=by rw [<-em,<-eM];unfold det sc mid;grind
 rw [eM,em] at h2;rw [eM] at h3;have pT:=t.pos T hT;have n0:=uP hM pT h2;obtain ⟨v0,ev0⟩:∃ v0:Pt,(⟨M * (T.A.x+T.B.x+T.C.x) - 3 * m.x,M * (T.A.y+T.B.y+T.C.y) - 3 * m.y⟩:Pt)=v0:=⟨_,rfl⟩;rw [ev0] at n0;obtain ⟨u,eu⟩:∃ u:Pt,(⟨M * q.x - m.x,M * q.y - m.y⟩:Pt)=u:=⟨_,rfl⟩;have sgn2:∀ x y:Pt,0<=det x y q->det (sc M x) (sc M y) m=0->0<=crd x y u:=by
  intro x y k1 k2;have k3:=sc_crd M x y m q;rw [eu,k2,Xy,Vn] at k3;have k4:=JD (Jb hM) k1;have k5:M * det x y q=crd x y u:=Int.eq_of_mul_eq_mul_left (by omega) k3;omega
 obtain ⟨N,eN⟩:∃ N:Int,((crd a b v0).natAbs:Int)+1=N:=⟨_,rfl⟩;have hN:0<=N:=by omega
 have hcA:0<=det T.A T.B q/\0<=det T.B T.C q/\0<=det T.C T.A q:=(YL pT hq).1;have n1:near M T m ⟨v0.x+N * u.x,v0.y+N * u.y⟩:=near3_add hN n0 (sgn2 _ _ hcA.1) (sgn2 _ _ hcA.2.1) (sgn2 _ _ hcA.2.2);have hcu:0 < crd a b u:=by
  have k3:=sc_crd M a b m q;rw [eu,e1,Xy,Vn] at k3;have k5:M * det a b q=crd a b u:=Int.eq_of_mul_eq_mul_left (by omega) k3;have:=JP hM h1;omega
 have hcv:0 < crd a b ⟨v0.x+N * u.x,v0.y+N * u.y⟩:=by
  have e:crd a b ⟨v0.x+N * u.x,v0.y+N * u.y⟩=crd a b v0+N * crd a b u:=by unfold crd;grind
  have k:N<=N * crd a b u:=by
   have:=QI (show 1<=crd a b u by omega) hN;omega
  omega
 have n2:near M X m ⟨v0.x+N * u.x,v0.y+N * u.y⟩:=cX.near ⟨.inr ⟨e1,hcv⟩,.inl (by rw [e2];exact JP hM (JP hs pX)),.inl (by rw [e3];exact JP hM (JP hr pX))⟩;have e:=t.same hX hT hM n2 n1;subst e;rw [j0 cX] at h3;have z:P4 (sc M a) (sc M b) (sc M c) (mid a b s r) (M * h a) (M * h b) (M * h c) (s * h a+r * h b)=0:=by
  rw [<-eM];generalize h a=x
  generalize h b=y
  generalize h c=z
  unfold P4 det sc mid;grind
 rw [z] at h3;omega
theorem Tiles.not_dead {a b:Pt} (he:edgeL L a b):¬ dead h L a b:=by
 rintro ⟨s,r,hs,hr,T,hT,h2,h3⟩;obtain ⟨⟨ba,bb⟩,_,nab⟩:=t.edge_box he;have main:∀ {a b q:Pt} {s r:Int},edgeL L a b->0 < s->0 < r->isCnr T q->0 < det a b q->hasM (s+r) T (mid a b s r)->low h (s+r) s r a b T->False:=by
  intro a b q s r he hs hr hq hd h2 h3;rcases he with he | he
  ·exact t.alive_left hs hr he hT hq hd h2 h3
  ·rcases t.rim _ he with k | k
   ·exact t.alive_left hs hr k hT hq hd h2 h3
   ·obtain ⟨X,hX,c,cX,pX⟩:=t.way_of he;obtain ⟨y,z,k2⟩:=qo hq;have k3:0<=det b a q:=uI k pX (t.cyc_box hX cX.turn.turn) (t.cyc_box hT k2);have e:=zW a b q;omega
 have nz:∃ q,isCnr T q/\det a b q≠0:=by
  refine QL λhn=>?_;have z:∀ q,isCnr T q->det a b q=0:=λq hq=>QL λk=>hn ⟨q,hq,k⟩;have zA:=z T.A (.inl rfl);have zB:=z T.B (.inr (.inl rfl));have zC:=z T.C (.inr (.inr rfl));have e:∀ x:Pt,crd a b ⟨x.x - T.A.x,x.y - T.A.y⟩=det a b x - det a b T.A:=λx=>by unfold crd det;grind
  exact ZD nab (t.pos T hT) (by rw [e];omega) (by rw [e];omega)
 obtain ⟨q,hq,hd⟩:=nz;by_cases hp:0 < det a b q
 ·exact main he hs hr hq hp h2 h3
 ·refine main he.turn hr hs hq (by have:=zW a b q;omega) ?_ ?_
  ·rw [X4,UK];exact h2
  ·unfold low at *;rw [X4,UK r s,UK (r * h b)];exact h3
end
theorem KZ {h:Pt->Int} {p q c d:Pt} (hS:0 < det p q c) (hR:0 < det q p d) (hU:0 < det c p d) (hV:0 < det d q c) (hP:0 < PH h p q c d) {M v:Int} {m:Pt} (hM:0 < M) (m1:0<=det (sc M p) (sc M q) m) (m2:0<=det (sc M q) (sc M c) m) (m3:0<=det (sc M c) (sc M p) m) (hl:P4 (sc M p) (sc M q) (sc M c) m (M * h p) (M * h q) (M * h c) v < 0):((0<=det (sc M c) (sc M p) m/\0<=det (sc M p) (sc M d) m/\0<=det (sc M d) (sc M c) m)/\P4 (sc M c) (sc M p) (sc M d) m (M * h c) (M * h p) (M * h d) v < 0)\/((0<=det (sc M d) (sc M q) m/\0<=det (sc M q) (sc M c) m/\0<=det (sc M c) (sc M d) m)/\P4 (sc M d) (sc M q) (sc M c) m (M * h d) (M * h q) (M * h c) v < 0):=by
 by_cases hd:0<=det (sc M d) (sc M c) m
 ·refine .inl ⟨⟨m3,?_,hd⟩,?_⟩
  ·refine (zd hS).1 ?_;have e:det p q c * det (sc M p) (sc M d) m=det (sc M c) (sc M p) m * det q p d+det (sc M p) (sc M q) m * det c p d:=by unfold det sc;grind
   rw [e];exact UN (JD m3 (Jb hR)) (JD m1 (Jb hU))
  ·refine (yP hS).1 ?_;have e:det p q c * P4 (sc M c) (sc M p) (sc M d) m (M * h c) (M * h p) (M * h d) v=det c p d * P4 (sc M p) (sc M q) (sc M c) m (M * h p) (M * h q) (M * h c) v - M * (PH h p q c d * det (sc M c) (sc M p) m):=by
    unfold PH;generalize h p=x
    generalize h q=y
    generalize h c=z
    generalize h d=w
    unfold P4 det sc;grind
   have k1:=(yP hU).2 hl;have k2:=JD (Jb hM) (JD (Jb hP) m3);omega
 ·have hd2:0<=det (sc M c) (sc M d) m:=by have:=zW (sc M d) (sc M c) m;omega
  refine .inr ⟨⟨?_,m2,hd2⟩,?_⟩
  ·refine (zd hS).1 ?_;have e:det p q c * det (sc M d) (sc M q) m=det (sc M q) (sc M c) m * det q p d+det (sc M p) (sc M q) m * det d q c:=by unfold det sc;grind
   rw [e];exact UN (JD m2 (Jb hR)) (JD m1 (Jb hV))
  ·refine (yP hS).1 ?_;have e:det p q c * P4 (sc M d) (sc M q) (sc M c) m (M * h d) (M * h q) (M * h c) v=det d q c * P4 (sc M p) (sc M q) (sc M c) m (M * h p) (M * h q) (M * h c) v - M * (PH h p q c d * det (sc M q) (sc M c) m):=by
    unfold PH;generalize h p=x
    generalize h q=y
    generalize h c=z
    generalize h d=w
    unfold P4 det sc;grind
   have k1:=(yP hV).2 hl;have k2:=JD (Jb hM) (JD (Jb hP) m2);omega
theorem Kl (h:Pt->Int) (p q c d:Pt):PH h q p d c=PH h p q c d:=by
 unfold PH;generalize h p=x
 generalize h q=y
 generalize h c=z
 generalize h d=w
 unfold det;grind
theorem dead_flip {h:Pt->Int} {L L':List Tri3} {S R U V:Tri3} {p q c d:Pt} (hk:∀ T∈L,T≠S->T≠R->T∈L') (hU:U∈L') (hV:V∈L') (cS:Cyc S p q c) (cR:Cyc R q p d) (cU:Cyc U c p d) (cV:Cyc V d q c) (dS:0 < det p q c) (dR:0 < det q p d) (dU:0 < det c p d) (dV:0 < det d q c) (hP:0 < PH h p q c d) {a b:Pt} (hd:dead h L a b):dead h L' a b:=by
 obtain ⟨s,r,hs,hr,T,hT,h2,h3⟩:=hd;have hM:0 < s+r:=by omega
 by_cases e1:T=S
 ·subst e1;rw [xW cS] at h2;rw [j0 cS] at h3;rcases KZ dS dR dU dV hP hM h2.1 h2.2.1 h2.2.2 h3 with ⟨k1,k2⟩ | ⟨k1,k2⟩
  ·exact ⟨s,r,hs,hr,U,hU,(xW cU).2 k1,(j0 cU).2 k2⟩
  ·exact ⟨s,r,hs,hr,V,hV,(xW cV).2 k1,(j0 cV).2 k2⟩
 ·by_cases e2:T=R
  ·subst e2;rw [xW cR] at h2;rw [j0 cR] at h3;rcases KZ dR dS dV dU (by rw [Kl];exact hP) hM h2.1 h2.2.1 h2.2.2 h3 with ⟨k1,k2⟩ | ⟨k1,k2⟩
   ·exact ⟨s,r,hs,hr,V,hV,(xW cV).2 k1,(j0 cV).2 k2⟩
   ·exact ⟨s,r,hs,hr,U,hU,(xW cU).2 k1,(j0 cU).2 k2⟩
  ·exact ⟨s,r,hs,hr,T,hk T hT e1 e2,h2,h3⟩
theorem det_mid (p q c d:Pt) (s t:Int):det (sc (s+t) d) (sc (s+t) c) (mid p q s t)=(s+t) * (s * det c p d - t * det d q c):=by unfold det sc mid;grind
theorem P4_mid (p q c d:Pt) (s t x y z w:Int):P4 (sc (s+t) c) (sc (s+t) p) (sc (s+t) d) (mid p q s t) ((s+t) * z) ((s+t) * x) ((s+t) * w) (s * x+t * y) = -((s+t) * ((s+t) * (t * P4 p q c d x y z w))):=by unfold P4 det sc mid;grind
theorem dead_new {h:Pt->Int} {L':List Tri3} {U:Tri3} {p q c d:Pt} (hU:U∈L') (cU:Cyc U c p d) (dS:0 < det p q c) (dR:0 < det q p d) (dU:0 < det c p d) (dV:0 < det d q c) (hP:0 < PH h p q c d):dead h L' p q:=by
 have hM:0 < det d q c+det c p d:=by omega
 have g1:∀ s t:Int,det (sc (s+t) c) (sc (s+t) p) (mid p q s t)=(s+t) * (t * det p q c):=λs t=>by unfold det sc mid;grind
 have g2:∀ s t:Int,det (sc (s+t) p) (sc (s+t) d) (mid p q s t)=(s+t) * (t * det q p d):=λs t=>by unfold det sc mid;grind
 refine ⟨det d q c,det c p d,dV,dU,U,hU,(xW cU).2 ⟨?_,?_,?_⟩,(j0 cU).2 ?_⟩
 ·rw [g1];exact JD (Jb hM) (JD (Jb dU) (Jb dS))
 ·rw [g2];exact JD (Jb hM) (JD (Jb dU) (Jb dR))
 ·rw [det_mid,VQ (det d q c) (det c p d),VB,Jh];exact Vm _
 ·rw [P4_mid];have hP':0 < P4 p q c d (h p) (h q) (h c) (h d):=hP;have:=JP hM (JP hM (JP dU hP'));omega
open Go.Sort
attribute [local go_sem] rOper rAt rUpon cell_set sg_i64 sg_u64 alloc_cell alloc_frozen
attribute [local go_sem 10000] pt_eql pt_neq tri_eql
attribute [local irreducible] rWalk
attribute [local go_sem 10000] run_upto_tri
theorem Ze {w:World} {a:Option Addr} {L:List Tri3} (h:RowAt cT 6 w a L) (k:Nat):RowAt cT 6 w a (L.take k):=λj x hx=>by
 refine h j x ?_;rw [QX] at hx;split at hx
 ·exact hx
 ·cases hx
theorem uv:∀ (L:List Tri3) (E:Es),(takeRun E L).1<=L.length
 | [],_=>JJ _
 | T :: L,E=>by
  unfold takeRun;split
  ·have:=uv L (takeT E T);simp only [JW];omega
  ·exact Jl _
theorem tC:∀ (L:List Tri3) (E:Es),(putRun E L).1<=L.length
 | [],_=>JJ _
 | T :: L,E=>by
  unfold putRun;split
  ·have:=tC L (putT E T);simp only [JW];omega
  ·exact Jl _
theorem replace_none (mb b:Nat) (E:Es) (a1 a2:Option Addr) (cap1 cap2 n1 n2:Nat) (L1:List Tri3) (hn1:L1.length=n1) (hc1:n1<=cap1) (hm1:n1<=1000000) (hok1:∀ T∈L1,okT T) (h1:(takeRun E L1).1 < n1) (w:World) (Bm:Box w mb [.map (some b)] 83) (Hm:Hs w b E) (Hr1:RowAt cT 6 w a1 L1):Calls prog 26 #[pt0 mb,.slice a1 n1 cap1,.slice a2 n2 cap2] w λe w'=>e=.returned (.int .i64 16)/\w.grownBy w' (some b)/\Hs w' b (putRun (takeRun E L1).2 (L1.take (takeRun E L1).1)).2:=by
 have c1:=jI mb b E a1 cap1 n1 L1 (hdd hn1) hm1 hok1;generalize hk:(takeRun E L1).1=k at *
 generalize (takeRun E L1).2=F at *
 have c2:=jX mb b F a1 cap1 k (L1.take k) (hdd (by rw [Jc];omega)) (by omega) (λT hT=>hok1 T (QU hT));generalize (putRun F (L1.take k)).1=j at *
 generalize hL2:L1.take k=L2 at *
 have HL2:=hdd hL2;generalize (putRun F L2).2=G at *
 have d1:decide ((k:Int) < (n1:Int))=true:=by simp;omega
 have d2:(k:Int) < (n1:Int):=by omega
 have hkc:k<=cap1:=by omega
 clear hok1 hn1 hL2 hk
 go_enter func26,ntmps26
 go_wp2_with fail;refine (c1 _ Bm Hm Hr1).mono ?_;rintro e w1 ⟨rfl,hg,H1⟩;replace Bm:=Bm.turn Hm hg;have Hr2:=Ze (Hr1.turn cT_ne Hm hg) k;rw [HL2.o] at Hr2;clear Hm Hr1 c1 HL2;go_wp2_with fail;refine (c2 _ Bm H1 Hr2).mono ?_;rintro e w2 ⟨rfl,hh,H2⟩;replace hg:=zR hg hh;clear hh;go_wp2
 go_ret
 exact ⟨rfl,hg,H2⟩
theorem replace_bad (mb b:Nat) (E:Es) (a1 a2:Option Addr) (cap1 cap2 n1 n2:Nat) (L1 L2:List Tri3) (hn1:L1.length=n1) (hm1:n1<=1000000) (hok1:∀ T∈L1,okT T) (hn2:L2.length=n2) (hc2:n2<=cap2) (hm2:n2<=1000000) (hok2:∀ T∈L2,okT T) (h1:(takeRun E L1).1=n1) (h2:(putRun (takeRun E L1).2 L2).1 < n2) (w:World) (Bm:Box w mb [.map (some b)] 83) (Hm:Hs w b E) (Hr1:RowAt cT 6 w a1 L1) (Hr2:RowAt cT 6 w a2 L2):Calls prog 26 #[pt0 mb,.slice a1 n1 cap1,.slice a2 n2 cap2] w λe w'=>e=.returned (.int .i64 2)/\w.grownBy w' (some b)/\Hs w' b (putRun (takeRun (putRun (takeRun E L1).2 L2).2 (L2.take (putRun (takeRun E L1).2 L2).1)).2 L1).2:=by
 have c1:=jI mb b E a1 cap1 n1 L1 (hdd hn1) hm1 hok1;rw [h1] at c1;generalize (takeRun E L1).2=F at *
 have c2:=jX mb b F a2 cap2 n2 L2 (hdd hn2) hm2 hok2;generalize (putRun F L2).1=k at *
 generalize (putRun F L2).2=G at *
 have c3:=jI mb b G a2 cap2 k (L2.take k) (hdd (by rw [Jc];omega)) (by omega) (λT hT=>hok2 T (QU hT));generalize hL3:L2.take k=L3 at *
 have HL3:=hdd hL3;generalize (takeRun G L3).1=j3 at *
 generalize (takeRun G L3).2=G3 at *
 have c4:=jX mb b G3 a1 cap1 n1 L1 (hdd hn1) hm1 hok1;generalize (putRun G3 L1).1=j4 at *
 generalize (putRun G3 L1).2=G4 at *
 have d0:decide ((n1:Int) < (n1:Int))=false:=by simp
 have d1:decide ((k:Int) < (n2:Int))=true:=by simp;omega
 have d2:(k:Int) < (n2:Int):=by omega
 have hkc:k<=cap2:=by omega
 clear hok1 hok2 hn1 hn2 hL3 h1
 go_enter func26,ntmps26
 go_wp2_with fail;refine (c1 _ Bm Hm Hr1).mono ?_;rintro e w1 ⟨rfl,hg,H1⟩;replace Bm:=Bm.turn Hm hg;replace Hr1:=Hr1.turn cT_ne Hm hg;replace Hr2:=Hr2.turn cT_ne Hm hg;clear Hm c1;go_wp2_with fail;refine (c2 _ Bm H1 Hr2).mono ?_;rintro e w2 ⟨rfl,hh,H2⟩;replace hg:=zR hg hh;replace Bm:=Bm.turn H1 hh;replace Hr1:=Hr1.turn cT_ne H1 hh;have Hr3:=Ze (Hr2.turn cT_ne H1 hh) k;rw [HL3.o] at Hr3;clear hh H1 c2 Hr2 HL3;go_wp2_with fail;refine (c3 _ Bm H2 Hr3).mono ?_;rintro e w3 ⟨rfl,hh,H3⟩;replace hg:=zR hg hh;replace Bm:=Bm.turn H2 hh;replace Hr1:=Hr1.turn cT_ne H2 hh;clear hh H2 c3 Hr3;go_wp2_with fail;refine (c4 _ Bm H3 Hr1).mono ?_;rintro e w4 ⟨rfl,hh,H4⟩;replace hg:=zR hg hh;clear hh;go_wp2
 go_ret
 exact ⟨rfl,hg,H4⟩
theorem Good.takeUp:∀ {L1:List Tri3} {E:Es} {L:List Tri3},Good E L->∃ M,L.Perm (L1.take (takeRun E L1).1 ++ M)/\Good (takeRun E L1).2 M
 | [],E,L,h=>⟨L,by simp,h⟩
 | T :: L1,E,L,h=>by
  unfold takeRun;by_cases hh:hasE E T=true
  ·rw [JH hh];have hm:=h.has.1 hh;obtain ⟨M0,hM0⟩:∃ M0,L.Perm (T :: M0):=⟨L.erase T,U9 hm⟩;obtain ⟨_,h2⟩:=Good.take (h.order hM0);obtain ⟨M,p,g⟩:=Good.takeUp (L1:=L1) h2;exact ⟨M,by simp only [Q5,Jw];exact hM0.trans (p.cons T),g⟩
  ·rw [J0 hh];exact ⟨L,by simp,h⟩
theorem fits_free {E:Es} {M:List Tri3} (h:Good E M) {T:Tri3} (hf:fitsE E T):valT T=true/\∀ w∈ways T,w ∉ M.flatMap ways:=by
 obtain ⟨h1,h2,h3,hv⟩:=tY hf;refine ⟨hv,λw hw=>?_⟩;simp only [ways,J1,JI,Jp] at hw;rcases hw with rfl | rfl | rfl
 ·exact h.get_none.1 h1
 ·exact h.get_none.1 h2
 ·exact h.get_none.1 h3
theorem Good.putUp:∀ {L2:List Tri3} {E:Es} {M:List Tri3},Good E M->Good (putRun E L2).2 (L2.take (putRun E L2).1 ++ M)
 | [],E,M,h=>by simpa [putRun] using h
 | T :: L2,E,M,h=>by
  unfold putRun;by_cases hh:fitsE E T=true
  ·rw [JH hh];obtain ⟨hv,hn⟩:=fits_free h hh;have h2:=(Good.put h hv hn).2;have:=Good.putUp (L2:=L2) h2;simp only [Q5,Jw];exact this.order QM
  ·rw [J0 hh]
   simpa using h
def Repl (E:Es) (L L1 L2:List Tri3) (r:Int) (L':List Tri3):Prop:=
 (r=16/\(takeRun E L1).1 < L1.length/\L'.Perm L) \/
 (r=2/\(takeRun E L1).1=L1.length/\(putRun (takeRun E L1).2 L2).1 < L2.length/\L'.Perm L) \/
 (r=0/\(takeRun E L1).1=L1.length/\(putRun (takeRun E L1).2 L2).1=L2.length/\∃ M,L.Perm (L1 ++ M)/\L'.Perm (L2 ++ M))
theorem mreplace_any (mb b:Nat) (E:Es) (L:List Tri3) (g:Good E L) (a1 a2:Option Addr) (cap1 cap2 n1 n2:Nat) (L1 L2:List Tri3) (hn1:L1.length=n1) (hc1:n1<=cap1) (hm1:n1<=1000000) (hok1:∀ T∈L1,okT T) (hn2:L2.length=n2) (hc2:n2<=cap2) (hm2:n2<=1000000) (hok2:∀ T∈L2,okT T) (w:World) (Bm:Box w mb [.map (some b)] 83) (Hm:Hs w b E) (Hr1:RowAt cT 6 w a1 L1) (Hr2:RowAt cT 6 w a2 L2):Calls prog 26 #[pt0 mb,.slice a1 n1 cap1,.slice a2 n2 cap2] w λe w'=>∃ r E' L',e=.returned (.int .i64 r)/\w.grownBy w' (some b)/\Hs w' b E'/\Good E' L'/\Repl E L L1 L2 r L':=by
 obtain ⟨M,pM,gM⟩:=Good.takeUp (L1:=L1) g;have tl:=uv L1 E;by_cases h1:(takeRun E L1).1=n1
 ·have e1:L1.take (takeRun E L1).1=L1:=JV (by omega);rw [e1] at pM;have pl:=tC L2 (takeRun E L1).2;have gG:=Good.putUp (L2:=L2) gM;by_cases h2:(putRun (takeRun E L1).2 L2).1=n2
  ·have e2:L2.take (putRun (takeRun E L1).2 L2).1=L2:=JV (by omega);rw [e2] at gG;refine (tB mb b E a1 a2 cap1 cap2 n1 n2 L1 L2 (hdd hn1) hm1 hok1 (hdd hn2) hm2 hok2 h1 h2 w Bm Hm Hr1 Hr2).mono ?_;rintro e w' ⟨rfl,hg,H'⟩;exact ⟨0,_,_,rfl,hg,H',gG,.inr (.inr ⟨rfl,by omega,by omega,M,pM,.refl _⟩)⟩
  ·refine (replace_bad mb b E a1 a2 cap1 cap2 n1 n2 L1 L2 hn1 hm1 hok1 hn2 hc2 hm2 hok2 h1 (by omega) w Bm Hm Hr1 Hr2).mono ?_;rintro e w' ⟨rfl,hg,H'⟩;have g3:=(Good.takes (F:=L2.take (putRun (takeRun E L1).2 L2).1) (M:=M) gG).2;have n4:((L1 ++ M).flatMap ways).Nodup:=(zv pM).nodup_iff.1 g.once;have g4:=(Good.puts (I:=L1) (M:=M) g3 (λT hT=>g.val T (pM.mem_iff.2 (by simp [hT]))) n4).2;exact ⟨2,_,_,rfl,hg,H',g4,.inr (.inl ⟨rfl,by omega,by omega,pM.symm⟩)⟩
 ·refine (replace_none mb b E a1 a2 cap1 cap2 n1 n2 L1 hn1 hc1 hm1 hok1 (by omega) w Bm Hm Hr1).mono ?_;rintro e w' ⟨rfl,hg,H'⟩;have n4:((L1.take (takeRun E L1).1 ++ M).flatMap ways).Nodup:=(zv pM).nodup_iff.1 g.once;have g4:=(Good.puts (I:=L1.take (takeRun E L1).1) (M:=M) gM (λT hT=>g.val T (pM.mem_iff.2 (by simp [hT]))) n4).2;exact ⟨16,_,_,rfl,hg,H',g4,.inl ⟨rfl,by omega,pM.symm⟩⟩
end
section
open Go.RowKit Go.Sort
attribute [local go_sem] rOper rAt rUpon cell_set sg_i64 sg_u64 alloc_cell alloc_frozen
attribute [local go_sem 10000] pt_eql pt_neq tri_eql
attribute [local irreducible] rWalk
theorem flip_g (mb b:Nat) (E:Es) (p q:Pt) (hk:okW (p,q)) (L:List Tri3) (g:Good E L) (S R U V:Tri3) (C D:Pt) (h0:getE E (p,q)=some S) (h1:getE E (q,p)=some R) (hC:apx S p q=C) (hD:apx R p q=D) (hm:meetS p q C D=1) (hU:mk C p D=U) (hV:mk D q C=V) (hS:okT S) (hR:okT R) (hu:okT U) (hv:okT V) (w:World) (Bm:Box w mb [.map (some b)] 83) (Hm:Hs w b E):Calls prog 115 #[pt0 mb,p,q] w λe w'=>∃ r E' L',e=.returned (.int .i64 r)/\w.grownBy w' (some b)/\Hs w' b E'/\Good E' L'/\Repl E L [S,R] [U,V] r L':=by
 have cl:=ZI mb b E p q S h0 hk;have cr:=ZI mb b E q p R h1 ⟨hk.2,hk.1⟩;clear h0 h1;have ca:=kv S p q;have cb:=kv R p q;have cm:=uR p q C D;have cu:=vw C p D;have cv:=vw D q C;rw [hU] at cu;rw [hV] at cv;rw [hC] at ca;rw [hD] at cb;rw [hm] at cm;have cp:=λa1 a2 w B H R1 R2=>mreplace_any mb b E L g a1 a2 2 2 2 2 [S,R] [U,V] rfl (by decide) (by decide) (by simpa using And.intro hS hR) rfl (by decide) (by decide) (by simpa using And.intro hu hv) w B H R1 R2;have HGG:=hdd g;clear hU hV hC hD hm hS hR hu hv g
 go_enter func115,ntmps115
 go_wp2_with fail;refine qE2 λW1 Bp Bq hw=>?_;refine qC2 (cl _ (Bm.ee hw) (Hm.ee hw)) Bp Bq hw λw2 Bp Bq hw FJ=>?_;go_wp2_with fail;clear FJ;refine zI λW3 hW=>?_;obtain ⟨bks,hbs⟩:∃ b,w2.heap.size=b:=⟨_,rfl⟩;rw [hbs];obtain ⟨lps,lqs,fs,Bs,Bp,Bq,hw⟩:=qM2 hW hbs Bp Bq hw;clear hW hbs;refine qC3 (cr _ (Bm.ee hw) (Hm.ee hw)) Bp Bq Bs hw λw4 Bp Bq Bs hw Gw=>?_;go_wp2_with fail;clear Gw;refine zG λW5 hW=>?_;obtain ⟨bkr,hbr⟩:∃ b,w4.heap.size=b:=⟨_,rfl⟩;rw [hbr];obtain ⟨lpr,lqr,lsr,fr,Br,Bp,Bq,Bs,hw⟩:=qM3 hW hbr Bp Bq Bs hw;clear hW hbr;have G0:=J4 Bp.cells Bq.cells Bs.cells Br.cells;refine zn 10 [⟨8,10,34,[(),()]⟩,⟨9,11,34,[(),()]⟩] ?_ (by kernel_rfl) (by decide) (by decide) (by kernel_rfl) (by decide) (C:=λw'=>∃ p:Regrown,w'=grow (redrawn W5 p.d) p.os) rgB ?_
 ·simp only [QT];refine ⟨⟨_,rfl,rfl,rfl,rfl,λρ W=>by simp [execOp,go_sem]⟩,⟨_,rfl,rfl,rfl,rfl,λρ W=>by simp [execOp,go_sem]⟩,λ_ h=>(by cases h)⟩
 simp only [Q5,Qd,Jm,Qw,dropIdx,Qe,Qj,Nat.reduceBEq,Nat.reduceAdd,V6,VF,VG,QA,VZ,VT];refine wkx ?_;intro w6 β hL;simp only [putD,QY,QZ];have qc:=hL.box ⟨8,10,34,[(),()]⟩ (by simp) (by simp);simp only at qc;have qd:=hL.box ⟨9,11,34,[(),()]⟩ (by simp) (by simp);simp only at qd;have ncd:=hL.apart 10 (by simp) 11 (by simp) (by decide);have ndc:=hL.apart 11 (by simp) 10 (by simp) (by decide);have hb:=hL.below;have lp:=Bp.lt;have lq:=Bq.lt;have ls:=Bs.lt;have lr:=Br.lt;clear G0;replace Bp:=Bp.ee hb;replace Bq:=Bq.ee hb;replace Bs:=Bs.ee hb;replace Br:=Br.ee hb;have hw0:=hw.size;replace hw:=upB hw hb;clear hb hL;generalize β 10=bkc at *
 generalize β 11=bkd at *
 clear β;obtain ⟨fc,Bc⟩:=qc;obtain ⟨fd,Bd⟩:=qd;simp only [Act.put];have Fc:=Bc.f;have Fd:=Bd.f;have Fp:=Bp.f;have Fq:=Bq.f;have Fs:=Bs.f;have Fr:=Br.f;have epbkc:(w.heap.size=bkc)=False:=by simp;omega
 have epbkc':(bkc=w.heap.size)=False:=by simp;omega
 have epbkd:(w.heap.size=bkd)=False:=by simp;omega
 have epbkd':(bkd=w.heap.size)=False:=by simp;omega
 have eqbkc:(w.heap.size+1=bkc)=False:=by simp;omega
 have eqbkc':(bkc=w.heap.size+1)=False:=by simp;omega
 have eqbkd:(w.heap.size+1=bkd)=False:=by simp;omega
 have eqbkd':(bkd=w.heap.size+1)=False:=by simp;omega
 have esbkc:(bks=bkc)=False:=by simp;omega
 have esbkc':(bkc=bks)=False:=by simp;omega
 have esbkd:(bks=bkd)=False:=by simp;omega
 have esbkd':(bkd=bks)=False:=by simp;omega
 have erbkc:(bkr=bkc)=False:=by simp;omega
 have erbkc':(bkc=bkr)=False:=by simp;omega
 have erbkd:(bkr=bkd)=False:=by simp;omega
 have erbkd':(bkd=bkr)=False:=by simp;omega
 have ebkcbkd:(bkc=bkd)=False:=by simp;omega
 have ebkdbkc:(bkd=bkc)=False:=by simp;omega
 go_wp2_with fail;refine zI λW7 hW=>?_;replace Bp:=sto Bp hW;replace Bq:=sto Bq hW;replace Bs:=sto Bs hW;replace Br:=sto Br hW;replace Bc:=sto Bc hW;replace Bd:=sto Bd hW;replace hw:=stw hw hW;clear Fc Fd;clear Fp Fq Fs Fr epbkc epbkc' epbkd epbkd' eqbkc eqbkc' eqbkd eqbkd' esbkc esbkc' esbkd esbkd' erbkc erbkc' erbkd erbkd' ebkcbkd ebkdbkc;clear hW;refine qC6 (cm _) Bp Bq Bs Br Bc Bd hw λw8 Bp Bq Bs Br Bc Bd hw Gk=>?_;go_wp2_with fail;clear Gk;refine qC6 (cu _) Bp Bq Bs Br Bc Bd hw λw9 Bp Bq Bs Br Bc Bd hw Gk=>?_;go_wp2_with fail;clear Gk;refine zI λW10 hW=>?_;obtain ⟨bku,hbu⟩:∃ b,w9.heap.size=b:=⟨_,rfl⟩;rw [hbu];have lpu:=Bp.lt;rw [hbu] at lpu;have lqu:=Bq.lt;rw [hbu] at lqu;have lsu:=Bs.lt;rw [hbu] at lsu;have lru:=Br.lt;rw [hbu] at lru;have lcu:=Bc.lt;rw [hbu] at lcu;have ldu:=Bd.lt;rw [hbu] at ldu;have fu:=hw.size;rw [hbu] at fu;have Bu:Box W10 bku [U.A.x,U.A.y,U.B.x,U.B.y,U.C.x,U.C.y] 45:=by rw [hW];exact Box.new hbu.symm
 replace Bp:Box W10 w [p.x,p.y] 34:=by rw [hW];exact Bp.old _
 replace Bq:Box W10 (w+1) [q.x,q.y] 34:=by rw [hW];exact Bq.old _
 replace Bs:Box W10 (bks) [S.A.x,S.A.y,S.B.x,S.B.y,S.C.x,S.C.y] 45:=by rw [hW];exact Bs.old _
 replace Br:Box W10 (bkr) [R.A.x,R.A.y,R.B.x,R.B.y,R.C.x,R.C.y] 45:=by rw [hW];exact Br.old _
 replace Bc:Box W10 (bkc) [C.x,C.y] 34:=by rw [hW];exact Bc.old _
 replace Bd:Box W10 (bkd) [D.x,D.y] 34:=by rw [hW];exact Bd.old _
 replace hw:Below w w W10:=by have hl:=hw.size;rw [hW];go_grown
 clear hW hbu;refine (cv _).mono ?_;rintro e w11 ⟨rfl,hb⟩;replace Bp:=Bp.ee hb;obtain ⟨Bq,Bs,Br,Bc,Bd,Bu,hw,-⟩:=qX6 Bq Bs Br Bc Bd Bu hw hb;clear hb;have Fp:=Bp.f;have Fq:=Bq.f;have Fs:=Bs.f;have Fr:=Br.f;have Fc:=Bc.f;have Fd:=Bd.f;have Fu:=Bu.f;have es4:(bks=w11.heap.size+1)=False:=by have:=Bs.lt;simp;omega
 have es8:(bks=w11.heap.size+1+1)=False:=by have:=Bs.lt;simp;omega
 have er4:(bkr=w11.heap.size+1)=False:=by have:=Br.lt;simp;omega
 have er8:(bkr=w11.heap.size+1+1)=False:=by have:=Br.lt;simp;omega
 have eu4:(bku=w11.heap.size+1)=False:=by have:=Bu.lt;simp;omega
 have eu8:(bku=w11.heap.size+1+1)=False:=by have:=Bu.lt;simp;omega
 go_wp2_with fail;have row:∀ {w:World} {g:Nat} {X Y:Tri3},Box w g (cT X ++ cT Y) 45->RowAt cT 6 w (some ⟨g,0,none⟩) [X,Y]:=λ{w g X Y} h=>vF (S:=[X,Y]) (by simpa using h);refine zI λW12 hW=>?_;have R1:RowAt cT 6 W12 (some ⟨w11+1,0,none⟩) [S,R]:=row (by rw [hW];exact (Box.new (by simp)).old _);have R2:RowAt cT 6 W12 (some ⟨w11+1+1,0,none⟩) [U,V]:=row (by rw [hW];exact Box.new (by simp));replace hw:Below w w W12:=by have hl:=hw.size;rw [hW];go_grown
 clear hW row;have hlt:=Hm.lt;refine (cp _ _ _ (Bm.ee hw) (Hm.ee hw) R1 R2).mono ?_;rintro e w13 ⟨r,E9,L9,rfl,hg,H2,G2,R9⟩;replace hg:=below_then hw hg;clear Fp Fq Fs Fr Fc Fd Fu;go_wp2
 go_ret
 exact ⟨r,E9,L9,rfl,hg,H2,G2,R9⟩
theorem flip_m (mb b:Nat) (E:Es) (p q:Pt) (hk:okW (p,q)) (S R:Tri3) (C D:Pt) (h0:getE E (p,q)=some S) (h1:getE E (q,p)=some R) (hC:apx S p q=C) (hD:apx R p q=D) (hm:¬ meetS p q C D=1) (w:World) (Bm:Box w mb [.map (some b)] 83) (Hm:Hs w b E):Calls prog 115 #[pt0 mb,p,q] w (Rt w (.int .i64 2)):=by
 have cl:=ZI mb b E p q S h0 hk;have cr:=ZI mb b E q p R h1 ⟨hk.2,hk.1⟩;clear h0 h1;have ca:=kv S p q;have cb:=kv R p q;have cm:=uR p q C D;rw [hC] at ca;rw [hD] at cb;generalize meetS p q C D=z at *
 have hz:(z != 1)=true:=by simpa using hm
 clear hC hD
 go_enter func115,ntmps115
 go_wp2_with fail;refine qE2 λW1 Bp Bq hw=>?_;refine qC2 (cl _ (Bm.ee hw) (Hm.ee hw)) Bp Bq hw λw2 Bp Bq hw FJ=>?_;go_wp2_with fail;clear FJ;refine zI λW3 hW=>?_;obtain ⟨bks,hbs⟩:∃ b,w2.heap.size=b:=⟨_,rfl⟩;rw [hbs];obtain ⟨lps,lqs,fs,Bs,Bp,Bq,hw⟩:=qM2 hW hbs Bp Bq hw;clear hW hbs;refine qC3 (cr _ (Bm.ee hw) (Hm.ee hw)) Bp Bq Bs hw λw4 Bp Bq Bs hw Gw=>?_;go_wp2_with fail;clear Gw;refine zG λW5 hW=>?_;obtain ⟨bkr,hbr⟩:∃ b,w4.heap.size=b:=⟨_,rfl⟩;rw [hbr];obtain ⟨lpr,lqr,lsr,fr,Br,Bp,Bq,Bs,hw⟩:=qM3 hW hbr Bp Bq Bs hw;clear hW hbr;have G0:=J4 Bp.cells Bq.cells Bs.cells Br.cells;refine zn 10 [⟨8,10,34,[(),()]⟩,⟨9,11,34,[(),()]⟩] ?_ (by kernel_rfl) (by decide) (by decide) (by kernel_rfl) (by decide) (C:=λw'=>∃ p:Regrown,w'=grow (redrawn W5 p.d) p.os) rgB ?_
 ·simp only [QT];refine ⟨⟨_,rfl,rfl,rfl,rfl,λρ W=>by simp [execOp,go_sem]⟩,⟨_,rfl,rfl,rfl,rfl,λρ W=>by simp [execOp,go_sem]⟩,λ_ h=>(by cases h)⟩
 simp only [Q5,Qd,Jm,Qw,dropIdx,Qe,Qj,Nat.reduceBEq,Nat.reduceAdd,V6,VF,VG,QA,VZ,VT];refine wkx ?_;intro w6 β hL;simp only [putD,QY,QZ];have qc:=hL.box ⟨8,10,34,[(),()]⟩ (by simp) (by simp);simp only at qc;have qd:=hL.box ⟨9,11,34,[(),()]⟩ (by simp) (by simp);simp only at qd;have ncd:=hL.apart 10 (by simp) 11 (by simp) (by decide);have ndc:=hL.apart 11 (by simp) 10 (by simp) (by decide);have hb:=hL.below;have lp:=Bp.lt;have lq:=Bq.lt;have ls:=Bs.lt;have lr:=Br.lt;clear G0;replace Bp:=Bp.ee hb;replace Bq:=Bq.ee hb;replace Bs:=Bs.ee hb;replace Br:=Br.ee hb;have hw0:=hw.size;replace hw:=upB hw hb;clear hb hL;generalize β 10=bkc at *
 generalize β 11=bkd at *
 clear β;obtain ⟨fc,Bc⟩:=qc;obtain ⟨fd,Bd⟩:=qd;simp only [Act.put];have Fc:=Bc.f;have Fd:=Bd.f;have Fp:=Bp.f;have Fq:=Bq.f;have Fs:=Bs.f;have Fr:=Br.f;have epbkc:(w.heap.size=bkc)=False:=by simp;omega
 have epbkc':(bkc=w.heap.size)=False:=by simp;omega
 have epbkd:(w.heap.size=bkd)=False:=by simp;omega
 have epbkd':(bkd=w.heap.size)=False:=by simp;omega
 have eqbkc:(w.heap.size+1=bkc)=False:=by simp;omega
 have eqbkc':(bkc=w.heap.size+1)=False:=by simp;omega
 have eqbkd:(w.heap.size+1=bkd)=False:=by simp;omega
 have eqbkd':(bkd=w.heap.size+1)=False:=by simp;omega
 have esbkc:(bks=bkc)=False:=by simp;omega
 have esbkc':(bkc=bks)=False:=by simp;omega
 have esbkd:(bks=bkd)=False:=by simp;omega
 have esbkd':(bkd=bks)=False:=by simp;omega
 have erbkc:(bkr=bkc)=False:=by simp;omega
 have erbkc':(bkc=bkr)=False:=by simp;omega
 have erbkd:(bkr=bkd)=False:=by simp;omega
 have erbkd':(bkd=bkr)=False:=by simp;omega
 have ebkcbkd:(bkc=bkd)=False:=by simp;omega
 have ebkdbkc:(bkd=bkc)=False:=by simp;omega
 go_wp2_with fail;refine zI λW7 hW=>?_;replace Bp:=sto Bp hW;replace Bq:=sto Bq hW;replace Bs:=sto Bs hW;replace Br:=sto Br hW;replace Bc:=sto Bc hW;replace Bd:=sto Bd hW;replace hw:=stw hw hW;clear Fc Fd;clear Fp Fq Fs Fr epbkc epbkc' epbkd epbkd' eqbkc eqbkc' eqbkd eqbkd' esbkc esbkc' esbkd esbkd' erbkc erbkc' erbkd erbkd' ebkcbkd ebkdbkc;clear hW;refine qK6 (cm _) Bp Bq Bs Br Bc Bd hw λw8 Bp Bq Bs Br Bc Bd hw=>?_;have Fp:=Bp.f;have Fq:=Bq.f;have Fs:=Bs.f;have Fr:=Br.f;have Fc:=Bc.f;have Fd:=Bd.f;go_wp2
 go_ret
 exact ⟨rfl,by have hl:=hw.size;go_grown⟩
theorem mk_okT (a b c:Pt):okT (mk a b c):=by
 by_cases h:ori a b c=0
 ·rw [Zt h];have z:vld (⟨0,0⟩:Pt)=true:=by decide
  exact ⟨yY z,yY z,yY z⟩
 ·exact ye (mk_ok h).1
def FlipC (E:Es) (L:List Tri3) (p q:Pt) (r:Int) (L':List Tri3):Prop:=
 (r=16/\(getE E (p,q)=none\/getE E (q,p)=none)/\L'.Perm L) \/
 (∃ S R,getE E (p,q)=some S/\getE E (q,p)=some R /\
  ((meetS p q (apx S p q) (apx R p q)≠1/\r=2/\L'.Perm L) \/
   (meetS p q (apx S p q) (apx R p q)=1/\Repl E L [S,R] [mk (apx S p q) p (apx R p q),mk (apx R p q) q (apx S p q)] r L')))
theorem mflip_any (mb b:Nat) (E:Es) (L:List Tri3) (g:Good E L) (p q:Pt) (hk:okW (p,q)) (w:World) (Bm:Box w mb [.map (some b)] 83) (Hm:Hs w b E):Calls prog 115 #[pt0 mb,p,q] w λe w'=>∃ r E' L',e=.returned (.int .i64 r)/\w.grownBy w' (some b)/\Hs w' b E'/\Good E' L'/\FlipC E L p q r L':=by
 cases h0:getE E (p,q) with
 | none=>
  refine (flip_n0 mb b E p q hk h0 w Bm Hm).mono ?_;rintro e w' ⟨rfl,hb⟩;exact ⟨16,E,L,rfl,zM hb _,Hm.ee hb,g,.inl ⟨rfl,.inl h0,.refl _⟩⟩
 | some S=>
  cases h1:getE E (q,p) with
  | none=>
   refine (flip_n1 mb b E p q hk S h0 h1 w Bm Hm).mono ?_;rintro e w' ⟨rfl,hb⟩;exact ⟨16,E,L,rfl,zM hb _,Hm.ee hb,g,.inl ⟨rfl,.inr h1,.refl _⟩⟩
  | some R=>
   have hS:=ye (g.val _ (g.get.1 h0).1);have hR:=ye (g.val _ (g.get.1 h1).1);by_cases hm:meetS p q (apx S p q) (apx R p q)=1
   ·refine (flip_g mb b E p q hk L g S R _ _ _ _ h0 h1 rfl rfl hm rfl rfl hS hR (mk_okT _ _ _) (mk_okT _ _ _) w Bm Hm).mono ?_;rintro e w' ⟨r,E',L',rfl,hg,H',g',hr⟩;exact ⟨r,E',L',rfl,hg,H',g',.inr ⟨S,R,h0,h1,.inr ⟨hm,hr⟩⟩⟩
   ·refine (flip_m mb b E p q hk S R _ _ h0 h1 rfl rfl hm w Bm Hm).mono ?_;rintro e w' ⟨rfl,hb⟩;exact ⟨2,E,L,rfl,zM hb _,Hm.ee hb,g,.inr ⟨S,R,h0,h1,.inl ⟨hm,rfl,.refl _⟩⟩⟩
theorem Good.same {D E:Es} {L:List Tri3} (g:Good E L) (p:D.Perm E):Good D L:=⟨p.trans g.perm,g.nodup.perm p.symm,g.val⟩
theorem flip_doc {E E' D:Es} {L L':List Tri3} {p q:Pt} {r:Int} (g:Good E L) (pD:D.Perm E) (g':Good E' L') (h:FlipC E L p q r L'):(flipD D p q).1=r/\Good (flipD D p q).2 L':=by
 have gD:=g.same pD;rcases h with ⟨h1,h2,h3⟩ | ⟨S,R,h0,h1,h⟩
 ·rw [yn (by rw [jL gD.nodup pD,jL gD.nodup pD];exact h2)];exact ⟨h1.symm,gD.order h3.symm⟩
 ·have k0:getE D (p,q)=some S:=by rw [jL gD.nodup pD];exact h0
  have k1:getE D (q,p)=some R:=by rw [jL gD.nodup pD];exact h1
  rw [xM k0 k1];obtain ⟨⟨mS,mR⟩,⟨cS,cR⟩,⟨p1,p2⟩,vp,vq,vc,vd⟩:=qP gD k0 k1;obtain ⟨C,eC⟩:∃ C,apx S p q=C:=⟨_,rfl⟩;obtain ⟨F,eF⟩:∃ F,apx R p q=F:=⟨_,rfl⟩;rw [eC,eF] at h;rw [eC] at cS p1 vc;rw [eF] at cR p2 vd;rw [eC,eF];have s1:det p q F = -det q p F:=by unfold det;grind
  have s2:det C F p = -det p F C:=by unfold det;grind
  have s3:det C F q=det F q C:=by unfold det;grind
  have hcr:meetS p q C F=1↔0 < ori p F C/\0 < ori F q C:=by
   rw [vQ,kP,qI vp vd vc,qI vd vq vc];constructor
   ·rintro ⟨_,_,h2⟩;have:det p F C+det F q C=det p q C+det q p F:=by unfold det;grind
    omega
   ·rintro ⟨o1,o2⟩;exact ⟨⟨vp,vq,vc,vd⟩,by omega,by omega⟩
  rcases h with ⟨hm,hr,hp⟩ | ⟨hm,hR⟩
  ·rw [J0 (λhc=>hm (hcr.2 ⟨hc.1,hc.2.1⟩))];exact ⟨hr.symm,gD.order hp.symm⟩
  ·obtain ⟨o1,o2⟩:=hcr.1 hm;rw [<-ZH C p F] at hR;have hne:S≠R:=by
    rintro rfl;obtain ⟨n1,n2,n3⟩:=zQ p1;rcases (cR.cnr_iff C).1 cS.turn.turn.cnr with e | e | e
    ·exact n2 e.symm
    ·exact n3 e
    ·rw [<-e] at s1 p2;omega
   obtain ⟨M,hM⟩:=k7 mS mR hne;have hFC:F≠C:=by
    intro e;rw [e] at s1 p2;omega
   by_cases hfree:getE D (F,C)=none/\getE D (C,F)=none
   ·obtain ⟨_,M2,hM2,gF⟩:=xg gD k0 k1 eC eF o1 o2 hfree.1 hfree.2;rw [JH ⟨o1,o2,hfree.1,hfree.2⟩];have gE:=g.order (show L.Perm ([S,R] ++ M2) from hM2);obtain ⟨t1,t2⟩:=Good.takes gE;have hnod:(([mk p F C,mk F q C] ++ M2).flatMap ways).Nodup:=gF.once;have hval:∀ T∈[mk p F C,mk F q C],valT T=true:=λT hT=>gF.val T (by
     simp only [J1,JI,Jp] at hT;rcases hT with rfl | rfl <;> simp)
    obtain ⟨t3,t4⟩:=Good.puts t2 hval hnod;rcases hR with ⟨_,h2,_⟩ | ⟨_,_,h3,_⟩ | ⟨h1',_,_,M3,p3,p4⟩
    ·exact absurd h2 (by rw [t1];omega)
    ·exact absurd h3 (by rw [t3];omega)
    ·refine ⟨h1'.symm,gF.order ?_⟩;have:M3.Perm M2:=(List.perm_append_left_iff [S,R]).1 (p3.symm.trans hM2);exact ((this.append_left [mk p F C,mk F q C]).symm).trans p4.symm
   ·rw [J0 (λhc=>hfree ⟨hc.2.2.1,hc.2.2.2⟩)];have hO:∃ O,O∈L/\((F,C)∈ways O\/(C,F)∈ways O):=by
     by_cases e:getE D (F,C)=none
     ·obtain ⟨O,hO⟩:=Option.ne_none_iff_exists'.1 (λe2=>hfree ⟨e,e2⟩);obtain ⟨a,b⟩:=gD.get.1 hO;exact ⟨O,a,.inr b⟩
     ·obtain ⟨O,hO⟩:=Option.ne_none_iff_exists'.1 e;obtain ⟨a,b⟩:=gD.get.1 hO;exact ⟨O,a,.inl b⟩
    obtain ⟨O,mO,wO⟩:=hO;obtain ⟨x1,x2⟩:=jd gD k0 k1 eC eF hFC wO;have gE:=g.order (show L.Perm ([S,R] ++ M) from hM);obtain ⟨t1,t2⟩:=Good.takes gE;rcases hR with ⟨_,h2,_⟩ | ⟨h1',_,_,h4⟩ | ⟨_,_,_,M3,p3,p4⟩
    ·exact absurd h2 (by rw [t1];omega)
    ·exact ⟨h1'.symm,gD.order h4.symm⟩
    ·exfalso
     have mO3:O∈M3:=by
      have:=p3.mem_iff.1 mO;simp only [Jw,Jz,J1] at this;rcases this with rfl | rfl | h
      ·rw [k9.2 rfl] at x1;cases x1
      ·rw [k9.2 rfl] at x2;cases x2
      ·exact h
     have hnod:=(g'.order p4).once;simp only [Jw,Jz,JE] at hnod;rw [<-JL,Jg] at hnod;have d1:0 < det p F C:=(qI vp vd vc).1 o1;have d2:0 < det F q C:=(qI vd vq vc).1 o2;have v1:=(g'.order p4).val (mk p F C) (by simp);have v2:=(g'.order p4).val (mk F q C) (by simp);have w1:(F,C)∈ways (mk p F C):=(yG vp vd vc d1).1.turn.way;have w2:(C,F)∈ways (mk F q C):=(yG vd vq vc d2).1.turn.turn.way;rcases wO with wO | wO
     ·exact hnod.2.2 (F,C) (Jk _ w1) (F,C) (JO.2 ⟨O,mO3,wO⟩) rfl
     ·exact hnod.2.2 (C,F) (Jr _ w2) (C,F) (JO.2 ⟨O,mO3,wO⟩) rfl
theorem YG {h:Pt->Int} {L M:List Tri3} (p:L.Perm M) {a b:Pt} (k:dead h L a b):dead h M a b:=by
 obtain ⟨s,r,hs,hr,T,hT,k2⟩:=k;exact ⟨s,r,hs,hr,T,p.mem_iff.1 hT,k2⟩
theorem xx {W H:Int} {E:Es} {L:List Tri3} {Lw:List Wl} (g:Good E L) (t:Tiles W H L) (hg:∀ x∈Lw,GoodW x) {p q:Pt}:badP E Lw p q=true↔∃ S∈L,∃ R∈L,∃ c d,Cyc S p q c/\Cyc R q p d/\kindD Lw p q=0/\circ p q c d=1:=by
 unfold badP;rw [<-ZJ hg];constructor
 ·intro hb;cases h1:getE E (p,q) with
  | none=>rw [yW h1] at hb;simp at hb
  | some S=>
   cases h2:getE E (q,p) with
   | none=>rw [yW h2] at hb;simp at hb
   | some R=>
    obtain ⟨⟨mS,mR⟩,⟨cS,cR⟩,_⟩:=qP g h1 h2;rw [zf h1,zf h2] at hb;simp only [Qq,JB,JA] at hb;exact ⟨S,mS,R,mR,_,_,cS,cR,hb.1,hb.2⟩
 ·rintro ⟨S,mS,R,mR,c,d,cS,cR,hk,hc⟩;have h1:=g.get.2 ⟨mS,cS.way⟩;have h2:=g.get.2 ⟨mR,cR.way⟩;obtain ⟨n1,n2,n3⟩:=zQ (t.cyc_pos mS cS);obtain ⟨m1,m2,m3⟩:=zQ (t.cyc_pos mR cR);rw [zf h1,zf h2];simp only [Qq,JB,JA];exact ⟨hk,by rw [(qA cS n1 n2 n3).1,(qA cR m1 m2 m3).2];exact hc⟩
theorem YT {W H:Int} (hW:W < 16777216) (hH:H < 16777216) {E:Es} {L:List Tri3} {Lw:List Wl} (g:Good E L) (t:Tiles W H L) (hg:∀ x∈Lw,GoodW x) {p q:Pt} (hb:badP E Lw p q):badP E Lw q p=true:=by
 have vb:∀ q,inBox W H q->vld q=true:=λq hq=>by rw [zh];unfold inBox at hq;omega
 obtain ⟨S,mS,R,mR,c,d,cS,cR,hk,hc⟩:=(xx g t hg).1 hb;refine (xx g t hg).2 ⟨R,mR,S,mS,d,c,cR,cS,by rw [qg];exact hk,?_⟩;have p1:=t.cyc_pos mS cS;have p2:=t.cyc_pos mR cR;have va:=vb _ (t.cyc_box mS cS);have vb':=vb _ (t.cyc_box mS cS.turn);have vc:=vb _ (t.cyc_box mS cS.turn.turn);have vd:=vb _ (t.cyc_box mR cR.turn.turn);have o1:¬ ori p q d=0:=by
  rw [ori_v va vb' vd,yZ];rw [zW] at p2;omega
 have o2:¬ ori p q c=0:=by rw [ori_v va vb' vc,yZ];omega
 have dc:c≠d:=by
  rintro rfl;rw [zW] at p2;omega
 have k:=YP o2 o1 dc.symm;rw [um,k,hc];rfl
theorem badC_of {W H:Int} {E:Es} {L:List Tri3} {Lw:List Wl} (g:Good E L) (t:Tiles W H L) (hg:∀ x∈Lw,GoodW x) {p q c d:Pt} {S R:Tri3} (mS:S∈L) (mR:R∈L) (cS:Cyc S p q c) (cR:Cyc R q p d) (hk:kindD Lw p q=0):badC E Lw p q=(c,d):=by
 have h1:=g.get.2 ⟨mS,cS.way⟩;have h2:=g.get.2 ⟨mR,cR.way⟩;obtain ⟨n1,n2,n3⟩:=zQ (t.cyc_pos mS cS);obtain ⟨m1,m2,m3⟩:=zQ (t.cyc_pos mR cR);unfold badC;rw [<-ZJ hg,zf h1,zf h2,JH ⟨rfl,rfl,hk⟩,(qA cS n1 n2 n3).1,(qA cR m1 m2 m3).2]
theorem Km (h:Pt->Int) (p q c d:Pt):PH h d c p q = -PH h p q c d:=by
 unfold PH;generalize h p=x
 generalize h q=y
 generalize h c=z
 generalize h d=w
 unfold det;grind
def four (p q c d:Pt):List (Pt×Pt):=[(p,c),(c,q),(q,d),(d,p)]
theorem mend_step {W H:Int} (hW:W < 16777216) (hH:H < 16777216) {h:Pt->Int} (hh:Hts h) {E E':Es} {L L':List Tri3} {Lw:List Wl} (g:Good E L) (t:Tiles W H L) (hg:∀ x∈Lw,GoodW x) {p q:Pt} (hb:badP E Lw p q) {r:Int} (g':Good E' L') (hf:FlipC E L p q r L'):r=0/\Tiles W H L'/\Kept (wll Lw) L L'/\volS h L' < volS h L/\edgeL L p q/\dead h L' p q/\(∀ a b,dead h L a b->dead h L' a b)/\(∀ x y,badP E' Lw x y=true->(badP E Lw x y=true/\¬ (x=p/\y=q)/\¬ (x=q/\y=p))\/(x,y)∈four p q (badC E Lw p q).1 (badC E Lw p q).2\/(y,x)∈four p q (badC E Lw p q).1 (badC E Lw p q).2)/\(∀ e∈four p q (badC E Lw p q).1 (badC E Lw p q).2,okW e):=by
 have vb:∀ q,inBox W H q->vld q=true:=λq hq=>by rw [zh];unfold inBox at hq;omega
 obtain ⟨S,mS,R,mR,c,d,cS,cR,hk,hc⟩:=(xx g t hg).1 hb;rw [badC_of g t hg mS mR cS cR hk];obtain ⟨hP,M,f⟩:=t.flip_bad (K:=wll Lw) hW hH hh mS mR cS cR ⟨λk=>k hk,λk=>k (by rw [qg];exact hk)⟩ hc;obtain ⟨fl,g2⟩:=f.go hW hH g t;have hs:=xM fl.h0 fl.h1;rw [fl.hC,fl.hD] at hs;have o1:0 < ori p d c:=by have:=fl.o1;simpa using this
 have o2:0 < ori d q c:=by have:=fl.o2;simpa using this
 rw [JH ⟨o1,o2,fl.he,fl.hf⟩] at hs;obtain ⟨er,gd⟩:=flip_doc g (.refl _) g' hf;rw [hs] at er gd;have pm:=jK gd g2;have t2:=f.tiles t hW hH;have t':=t2.perm pm.symm;obtain ⟨⟨cU,_⟩,cV,_⟩:=f.news t hW hH;have dS:=t.cyc_pos mS cS;have dR:=t.cyc_pos mR cR;have mM:∀ T,T∈L->T≠S->T≠R->T∈mk c p d :: mk d q c :: M:=λT hT x y=>by
  have:=f.perm.mem_iff.1 hT;simp only [J1] at this;rcases this with k | k | k
  ·exact absurd k x
  ·exact absurd k y
  ·simp [k]
 have hU:mk c p d∈mk c p d :: mk d q c :: M:=by simp
 have hV:mk d q c∈mk c p d :: mk d q c :: M:=by simp
 have noX:∀ {x y u v:Pt} {S' R':Tri3},(x=d/\y=c)\/(x=c/\y=d)->S'∈mk c p d :: mk d q c :: M->R'∈mk c p d :: mk d q c :: M->Cyc S' x y u->Cyc R' y x v->circ x y u v=1->kindD Lw x y=0->False:=by
  intro x y u v S' R' hxy hS' hR' cS' cR' hc' hk';obtain ⟨k1,_⟩:=t2.flip_bad (K:=wll Lw) hW hH hh hS' hR' cS' cR' ⟨λk=>k hk',λk=>k (by rw [qg];exact hk')⟩ hc';rcases hxy with ⟨rfl,rfl⟩ | ⟨rfl,rfl⟩
  ·have e1:=x8 t2.once hS' hU cS'.way cU.turn.turn.way;have e2:=x8 t2.once hR' hV cR'.way cV.turn.turn.way;subst e1 e2;have e3:=cU.turn.turn.same2 cS' (t2.cyc_pos hU cU.turn.turn);have e4:=cV.turn.turn.same2 cR' (t2.cyc_pos hV cV.turn.turn);rw [e3,e4,Km] at k1;omega
  ·have e1:=x8 t2.once hS' hV cS'.way cV.turn.turn.way;have e2:=x8 t2.once hR' hU cR'.way cU.turn.turn.way;subst e1 e2;have e3:=cV.turn.turn.same2 cS' (t2.cyc_pos hV cV.turn.turn);have e4:=cU.turn.turn.same2 cR' (t2.cyc_pos hU cU.turn.turn);rw [e3,e4,Kl,Km] at k1;omega
 have nd:=(zv f.perm).nodup_iff.1 t.once;rw [JE,JE,Jg] at nd;obtain ⟨_,nd2,nd1⟩:=nd;rw [Jg] at nd2;have notM:∀ {T:Tri3},T∈M->(p,q) ∉ ways T/\(q,p) ∉ ways T:=λ{T} hT=>by
  constructor
  ·intro k;exact nd1 (p,q) cS.way (p,q) (Jr _ (JO.2 ⟨T,hT,k⟩)) rfl
  ·intro k;exact nd2.2.2 (q,p) cR.way (q,p) (JO.2 ⟨T,hT,k⟩) rfl
 refine ⟨er.symm,t',(f.kept t hW hH).trans (Kept.perm pm.symm),?_,.inl (y7 mS cS.way),YG pm.symm (dead_new hU cU dS dR f.left f.right hP),λa b k=>YG pm.symm (dead_flip mM hU hV cS cR cU cV dS dR f.left f.right hP k),?_,?_⟩
 ·rw [ZS pm];exact f.less t hW hH hP
 ·intro x y hxy;obtain ⟨S',mS',R',mR',u,v,cS',cR',hk',hc'⟩:=(xx g' t' hg).1 hxy;have mS2:=pm.mem_iff.1 mS';have mR2:=pm.mem_iff.1 mR';by_cases hin:(x,y)∈four p q c d\/(y,x)∈four p q c d
  ·exact .inr hin
  ·left
   have nin:¬ (x,y)∈four p q c d/\¬ (y,x)∈four p q c d:=UG.1 hin;have nx:¬ ((x=d/\y=c)\/(x=c/\y=d)):=λk=>noX k mS2 mR2 cS' cR' hc' hk';unfold four at nin;simp only [J1,Jt,JI,Jp,UG] at nin;rw [UG] at nx;obtain ⟨⟨a1,a2,a3,a4⟩,b1,b2,b3,b4⟩:=nin;have inM:∀ {T:Tri3} {x y:Pt},T∈mk c p d :: mk d q c :: M->(x,y)∈ways T->¬ (x=p/\y=c)->¬ (x=c/\y=q)->¬ (x=q/\y=d)->¬ (x=d/\y=p)->¬ (y=p/\x=c)->¬ (y=c/\x=q)->¬ (y=q/\x=d)->¬ (y=d/\x=p)->¬ (x=d/\y=c)->¬ (x=c/\y=d)->T∈M:=by
    intro T x y hT hw a1 a2 a3 a4 b1 b2 b3 b4 n1 n2;rcases J1.1 hT with rfl | hT
    ·have:=cU.ways.mem_iff.1 hw;simp only [J1,Jt,JI,Jp] at this;rcases this with ⟨k1,k2⟩ | ⟨k1,k2⟩ | ⟨k1,k2⟩
     ·exact absurd ⟨k2,k1⟩ b1
     ·exact absurd ⟨k2,k1⟩ b4
     ·exact absurd ⟨k1,k2⟩ n1
    ·rcases J1.1 hT with rfl | hT
     ·have:=cV.ways.mem_iff.1 hw;simp only [J1,Jt,JI,Jp] at this;rcases this with ⟨k1,k2⟩ | ⟨k1,k2⟩ | ⟨k1,k2⟩
      ·exact absurd ⟨k2,k1⟩ b3
      ·exact absurd ⟨k2,k1⟩ b2
      ·exact absurd ⟨k1,k2⟩ n2
     ·exact hT
   have hSM:=inM mS2 cS'.way a1 a2 a3 a4 b1 b2 b3 b4 nx.1 nx.2;have hRM:=inM mR2 cR'.way b1 b2 b3 b4 a1 a2 a3 a4 (λk=>nx.2 ⟨k.2,k.1⟩) (λk=>nx.1 ⟨k.2,k.1⟩);refine ⟨(xx g t hg).2 ⟨S',f.perm.mem_iff.2 (by simp [hSM]),R',f.perm.mem_iff.2 (by simp [hRM]),u,v,cS',cR',hk',hc'⟩,?_,?_⟩
   ·rintro ⟨rfl,rfl⟩;exact (notM hSM).1 cS'.way
   ·rintro ⟨rfl,rfl⟩;exact (notM hSM).2 cS'.way
 ·obtain ⟨bp,bq,bc,bd⟩:=f.pts t;have op:=yY (vb _ bp);have oq:=yY (vb _ bq);have oc:=yY (vb _ bc);have od:=yY (vb _ bd);intro e he;unfold four at he;simp only [J1,JI,Jp] at he;rcases he with rfl | rfl | rfl | rfl
  ·exact ⟨op,oc⟩
  ·exact ⟨oc,oq⟩
  ·exact ⟨oq,od⟩
  ·exact ⟨od,op⟩
structure MSt (W H:Int) (h:Pt->Int) (Lw:List Wl) (L0:List Tri3) (n0:Nat) (E:Es) (L:List Tri3) (K:List (Pt×Pt)):Prop where
 good:Good E L
 tiles:Tiles W H L
 kept:Kept (wll Lw) L0 L
 ok:∀ e∈K,okW e
 cov:∀ x y,badP E Lw x y=true->(x,y)∈K\/(y,x)∈K
 gone:∃ F:List (Pt×Pt),F.Nodup/\(∀ e∈F,dead h L e.1 e.2/\someC L0 e.1/\someC L0 e.2)/\K.length<=n0+3 * F.length
theorem Xe {L:List Tri3} {p:Pt}:p∈cnrs L↔someC L p:=by
 unfold cnrs someC isCnr;rw [JO];simp
theorem MSt.len {W H:Int} {h:Pt->Int} {Lw:List Wl} {L0:List Tri3} {n0:Nat} {E:Es} {L:List Tri3} {K:List (Pt×Pt)} (S:MSt W H h Lw L0 n0 E L K):K.length<=n0+27 * (L0.length * L0.length):=by
 obtain ⟨F,hd,hF,hl⟩:=S.gone;have k:=uO (l:=F) (m:=(cnrs L0).flatMap λa=>(cnrs L0).map λb=>(a,b)) hd (λe he=>by
  obtain ⟨_,h1,h2⟩:=hF e he;exact JO.2 ⟨e.1,Xe.2 h1,JS.2 ⟨e.2,Xe.2 h2,rfl⟩⟩)
 have e:∀ C D:List Pt,(C.flatMap λa=>D.map λb=>(a,b)).length=C.length * D.length:=λC D=>by
  induction C with
  | nil=>simp
  | cons a C ih=>rw [JE,JC,ih,Qz,JW,US];omega
 rw [e,Xf] at k;have e2:3 * L0.length * (3 * L0.length)=9 * (L0.length * L0.length):=by
  rw [Nat.mul_mul_mul_comm]
 omega
theorem MSt.pop {W H:Int} {h:Pt->Int} {Lw:List Wl} {L0:List Tri3} {n0:Nat} {E:Es} {L:List Tri3} {K:List (Pt×Pt)} {e:Pt×Pt} (hW:W < 16777216) (hH:H < 16777216) (hg:∀ x∈Lw,GoodW x) (S:MSt W H h Lw L0 n0 E L (K ++ [e])) (hb:badP E Lw e.1 e.2=false):MSt W H h Lw L0 n0 E L K:=by
 refine ⟨S.good,S.tiles,S.kept,λx hx=>S.ok x (Jk _ hx),λx y hxy=>?_,?_⟩
 ·have ne1:(x,y)≠e:=λk=>by rw [<-k] at hb;simp only at hb;rw [hxy] at hb;cases hb
  have ne2:(y,x)≠e:=λk=>by
   have:=YT hW hH S.good S.tiles hg hxy;rw [<-k] at hb;simp only at hb;rw [this] at hb;cases hb
  rcases S.cov x y hxy with k | k
  ·rcases JM.1 k with k | k
   ·exact .inl k
   ·exact absurd (QP.1 k) ne1
  ·rcases JM.1 k with k | k
   ·exact .inr k
   ·exact absurd (QP.1 k) ne2
 ·obtain ⟨F,hd,hF,hl⟩:=S.gone;exact ⟨F,hd,hF,by simp at hl;omega⟩
theorem MSt.flip {W H:Int} {h:Pt->Int} (hh:Hts h) {Lw:List Wl} {L0:List Tri3} {n0:Nat} {E E':Es} {L L':List Tri3} {K:List (Pt×Pt)} {p q:Pt} {r:Int} (hW:W < 16777216) (hH:H < 16777216) (hg:∀ x∈Lw,GoodW x) (S:MSt W H h Lw L0 n0 E L (K ++ [(p,q)])) (hb:badP E Lw p q) (g':Good E' L') (hf:FlipC E L p q r L'):r=0/\volS h L' < volS h L/\MSt W H h Lw L0 n0 E' L' (K ++ four p q (badC E Lw p q).1 (badC E Lw p q).2):=by
 obtain ⟨h1,h2,h3,h4,h5,h6,h7,h8,h9⟩:=mend_step hW hH hh S.good S.tiles hg hb g' hf;refine ⟨h1,h4,g',h2,S.kept.trans h3,λx hx=>?_,λx y hxy=>?_,?_⟩
 ·rcases JM.1 hx with k | k
  ·exact S.ok x (Jk _ k)
  ·exact h9 x k
 ·rcases h8 x y hxy with ⟨k1,k2,k3⟩ | k
  ·rcases S.cov x y k1 with k | k
   ·rcases JM.1 k with k | k
    ·exact .inl (Jk _ k)
    ·have:=QP.1 k;simp only [Jt] at this;exact absurd this k2
   ·rcases JM.1 k with k | k
    ·exact .inr (Jk _ k)
    ·have:=QP.1 k;simp only [Jt] at this;exact absurd ⟨this.2,this.1⟩ k3
  ·exact k.imp (Jr _) (Jr _)
 ·obtain ⟨F,hd,hF,hl⟩:=S.gone;obtain ⟨_,⟨c1,c2⟩,_⟩:=S.tiles.edge_box h5;refine ⟨(p,q) :: F,Jf.2 ⟨λk=>S.tiles.not_dead h5 (hF _ k).1,hd⟩,λe he=>?_,?_⟩
  ·rcases J1.1 he with rfl | he
   ·exact ⟨h6,(S.kept.cnr _).1 c1,(S.kept.cnr _).1 c2⟩
   ·obtain ⟨k1,k2⟩:=hF e he;exact ⟨h7 _ _ k1,k2⟩
  ·unfold four;simp at hl ⊢;omega
theorem MSt.fixed {W H:Int} {h:Pt->Int} {Lw:List Wl} {L0:List Tri3} {n0:Nat} {E:Es} {L:List Tri3} (hg:∀ x∈Lw,GoodW x) (S:MSt W H h Lw L0 n0 E L []):Fixed W H (wll Lw) L:=by
 refine ⟨S.tiles,λT hT R hR a b c d cT cR hk hc=>?_⟩;have hb:=(xx S.good S.tiles hg).2 ⟨T,hT,R,hR,c,d,cT,cR,QL λk=>hk k,hc⟩;rcases S.cov a b hb with k | k <;> cases k
theorem cmp_neg_of {a b:Pt} (h:a≠b) (k:¬ 0 < cmpP a b):cmpP a b < 0:=by
 have:cmpP a b≠0:=λe=>h (zP.1 e);omega
theorem mkW_of {a b:Pt} {k:Int} (hk:k=1\/k=2) (h:cmpP a b < 0) (va:vld a) (vb:vld b):mkW a b k=⟨a,b,k⟩:=by
 have hn:a≠b:=λe=>by rw [e,zP.2 rfl] at h;omega
 have h2:¬ cmpP b a < 0:=by have:=zl a b;omega
 have hm:mkOk a b k=true:=by
  unfold mkOk mkK;rcases hk with rfl | rfl <;> simp [hn,va,vb]
 unfold mkW lo2 hi2;rw [JH hm,J0 h2,J0 h2]
theorem crn_way {T:Tri3} {i:Nat} (hi:i < 3):(crn T i,crn T (i+1))∈ways T:=by
 have:i=0\/i=1\/i=2:=by omega
 unfold ways;rcases this with rfl | rfl | rfl
 ·exact JT
 ·exact JN _ JT
 ·exact JN _ (JN _ JT)
theorem way_crn {T:Tri3} {a b:Pt} (h:(a,b)∈ways T):∃ i,i < 3/\crn T (i:Nat)=a/\crn T ((i:Int)+1)=b:=by
 unfold ways at h;simp only [J1,Jt,JI,Jp] at h;rcases h with ⟨rfl,rfl⟩ | ⟨rfl,rfl⟩ | ⟨rfl,rfl⟩
 ·exact ⟨0,by omega,rfl,rfl⟩
 ·exact ⟨1,by omega,rfl,rfl⟩
 ·exact ⟨2,by omega,rfl,rfl⟩
section
variable {W H:Int} {E:Es} {L:List Tri3} {Lw:List Wl} (hW:W < 16777216) (hH:H < 16777216) (g:Good E L) (t:Tiles W H L) (hg:∀ x∈Lw,GoodW x)
include hW hH g t hg
theorem up_mem {T:Tri3} (hT:T∈L) {x:Wl} (hx:x∈upL E Lw T 3):∃ i,i < 3/\x=⟨crn T (i:Nat),crn T ((i:Int)+1),1⟩/\cmpP x.A x.B < 0/\badP E Lw x.A x.B=true/\(x.A,x.B)∈ways T:=by
 have vb:∀ q,inBox W H q->vld q=true:=λq hq=>by rw [zh];unfold inBox at hq;omega
 unfold upL at hx;obtain ⟨i,hi,rfl⟩:=JS.1 hx;obtain ⟨hr,hf⟩:=JZ.1 hi;have hi3:=Q7.1 hr;unfold upF at hf;simp only [JB,V4,QF] at hf;have hw:=crn_way (T:=T) hi3;obtain ⟨⟨b1,b2⟩,_,hn⟩:=t.edge_box (.inl (y7 hT hw));have hlt:=cmp_neg_of hn hf.1;have e:upW T i=⟨crn T (i:Nat),crn T ((i:Int)+1),1⟩:=mkW_of (.inl rfl) hlt (vb _ b1) (vb _ b2);rw [e];exact ⟨i,hi3,rfl,hlt,hf.2,hw⟩
theorem Xm {T:Tri3}:T∈bigT E Lw↔T∈L/\0 < (upL E Lw T 3).length:=by
 unfold bigT;rw [(zU _).mem_iff,(jc g _).mem_iff,JZ,JA]
theorem Ky {x:Wl}:x∈FB E Lw↔x.K=1/\cmpP x.A x.B < 0/\badP E Lw x.A x.B=true:=by
 have vb:∀ q,inBox W H q->vld q=true:=λq hq=>by rw [zh];unfold inBox at hq;omega
 unfold FB;rw [(zU _).mem_iff,JO];constructor
 ·rintro ⟨T,hT,hx⟩;obtain ⟨i,_,e,h1,h2,_⟩:=up_mem hW hH g t hg ((Xm hW hH g t hg).1 hT).1 hx;exact ⟨by rw [e],h1,h2⟩
 ·rintro ⟨hk,hc,hb⟩;obtain ⟨S,mS,R,mR,c,d,cS,cR,_⟩:=(xx g t hg).1 hb;obtain ⟨i,hi,e1,e2⟩:=way_crn cS.way;have hu:upF E Lw S i=true:=by
   unfold upF;rw [e1,e2,hb];simp;omega
  have hx:x∈upL E Lw S 3:=by
   unfold upL;refine JS.2 ⟨i,JZ.2 ⟨Q7.2 hi,hu⟩,?_⟩;show mkW (crn S (i:Nat)) (crn S ((i:Int)+1)) 1=x;rw [e1,e2,mkW_of (.inl rfl) hc (vb _ (t.cyc_box mS cS)) (vb _ (t.cyc_box mS cS.turn)),<-hk]
  exact ⟨S,(Xm hW hH g t hg).2 ⟨mS,VK.2 (List.ne_nil_of_mem hx)⟩,hx⟩
theorem FB_cov {x y:Pt} (hb:badP E Lw x y):(x,y)∈(FB E Lw).map (λw=>(w.A,w.B))\/(y,x)∈(FB E Lw).map (λw=>(w.A,w.B)):=by
 obtain ⟨S,mS,R,mR,c,d,cS,cR,_⟩:=(xx g t hg).1 hb;have hn:=(zQ (t.cyc_pos mS cS)).1;by_cases hc:cmpP x y < 0
 ·exact .inl (JS.2 ⟨⟨x,y,1⟩,(Ky hW hH g t hg).2 ⟨rfl,hc,hb⟩,rfl⟩)
 ·have h0:cmpP x y≠0:=λe=>hn (zP.1 e);have h1:=zl x y;exact .inr (JS.2 ⟨⟨y,x,1⟩,(Ky hW hH g t hg).2 ⟨rfl,by show cmpP y x < 0;omega,YT hW hH g t hg hb⟩,rfl⟩)
theorem FB_okW:∀ e∈(FB E Lw).map (λw=>(w.A,w.B)),okW e:=by
 have vb:∀ q,inBox W H q->vld q=true:=λq hq=>by rw [zh];unfold inBox at hq;omega
 intro e he;obtain ⟨x,hx,rfl⟩:=JS.1 he;obtain ⟨S,mS,R,mR,c,d,cS,cR,_⟩:=(xx g t hg).1 ((Ky hW hH g t hg).1 hx).2.2;exact ⟨yY (vb _ (t.cyc_box mS cS)),yY (vb _ (t.cyc_box mS cS.turn))⟩
end
theorem FB_le (E:Es) (Lw:List Wl):(FB E Lw).length<=3 * E.length:=by
 unfold FB;rw [(zU _).length_eq];refine JY (YA E Lw _) ?_;unfold bigT;rw [(zU _).length_eq];have:=yw (λT=>decide (0 < (upL E Lw T 3).length)) E;omega
def allE (D:List Wl) (L:List Tri3):Prop:=∀ x∈D,edgeL L x.A x.B
theorem wll_in {D:List Wl} {L:List Tri3} (h:allE D L) {a b:Pt} (k:wll D a b):(a,b)∈L.flatMap ways\/(b,a)∈L.flatMap ways:=by
 unfold wll kindD at k;cases hf:D.find? (isE a b) with
 | none=>rw [hf] at k;exact absurd rfl k
 | some x=>
  have he:=V7 hf;have h2:=h x (Js hf);unfold isE at he;simp only [V0,JB,JA] at he;rcases he with ⟨rfl,rfl⟩ | ⟨rfl,rfl⟩
  ·exact h2
  ·exact h2.elim .inr .inl
theorem Kb {s:Int} (h0:0 < s) (h1:s < 16777216) {D:List Wl} {L1 L2:List Tri3} {E1 E2:Es} (g1:Good E1 L1) (g2:Good E2 L2) (f1:Fixed s s (wll D) L1) (f2:Fixed s s (wll D) L2) (e1:allE D L1) (e2:allE D L2) (c:∀ p,someC L1 p↔someC L2 p):∀ T∈L2,T∈L1:=λT hT=>by
 obtain ⟨T1,hT1,hc⟩:=one_mesh h0 h0 h1 h1 f1 f2 (λ_ _ _ _ _ _ _ _ _ _ k=>wll_in e2 k) (λ_ _ _ _ _ _ _ _ _ _ k=>wll_in e1 k) (λS hS p hp=>(c p).1 ⟨S,hS,hp⟩) (λS hS p hp=>(c p).2 ⟨S,hS,hp⟩) hT;rw [<-val_cyc (g1.val T1 hT1) (g2.val T hT) hc];exact hT1
theorem fix_same {s:Int} (h0:0 < s) (h1:s < 16777216) {D:List Wl} {L1 L2:List Tri3} {E1 E2:Es} (g1:Good E1 L1) (g2:Good E2 L2) (f1:Fixed s s (wll D) L1) (f2:Fixed s s (wll D) L2) (e1:allE D L1) (e2:allE D L2) (c:∀ p,someC L1 p↔someC L2 p):srt cmpT (heads (λ_=>true) E1)=srt cmpT (heads (λ_=>true) E2):=by
 have hp:L1.Perm L2:=(V2 (jf g1.once) (jf g2.once)).2 λT=>⟨Kb h0 h1 g2 g1 f2 f1 e2 e1 (λp=>(c p).symm) T,Kb h0 h1 g1 g2 f1 f2 e1 e2 c T⟩;exact wholeT.srt_of_perm ((g1.heads.trans hp).trans g2.heads.symm)
theorem tN {x y z:Wl} (h:cmpW x y<=0) (k:cmpW y z<=0):cmpW x z<=0:=by
 by_cases e:cmpW x y=0
 ·rw [wholeW.eq0.1 e];exact k
 ·by_cases f:cmpW y z=0
  ·rw [<-wholeW.eq0.1 f];exact h
  ·have:=wholeW.trans (x:=x) (y:=y) (z:=z) (by omega) (by omega);omega
theorem put_order {L:List Wl} {X:Wl} {k:Nat} (h:InOrder cmpW L) (p:PutAt L X k):InOrder cmpW (L.take k ++ X :: L.drop k):=by
 obtain ⟨p0,p1,p2⟩:=p;have h':=h;unfold InOrder at h ⊢;rw [<-Jj k L,V1] at h;have lo:∀ x∈L.take k,cmpW x X<=0:=λx hx=>by
  obtain ⟨i,hi,rfl⟩:=QD.1 hx;rw [Jc] at hi;rw [Vy];have hk:k - 1 < L.length:=by omega
  have h1:cmpW L[k - 1] X<=0:=by have:=p2 hk (by omega);omega
  rcases Qb i (k - 1) with h3 | h3
  ·exact tN (Jd.1 h' i (k - 1) (by omega) hk h3) h1
  ·have e:i=k - 1:=by omega
   subst e;exact h1
 have hi:∀ x∈L.drop k,cmpW X x<=0:=λx hx=>by
  obtain ⟨i,hi,rfl⟩:=QD.1 hx;rw [Ja] at hi;rw [U1];have h1:=p1 (k+i) (by omega) (by omega);have h2:=wholeW.neg L[k+i] X;omega
 refine V1.2 ⟨h.1,Q6.2 ⟨hi,h.2.1⟩,λx hx y hy=>?_⟩;rcases J1.1 hy with rfl | hy
 ·exact lo x hx
 ·exact h.2.2 x hx y hy
section
variable {W H:Int} {E:Es} {L:List Tri3} (hW:W < 16777216) (hH:H < 16777216) (g:Good E L) (t:Tiles W H L) {p:Pt}
include hW hH g t
theorem grow_good (hW0:0 < W) (hH0:0 < H) (hp:inBox W H p) (hn:¬ someC L p):(∀ T∈atE E p,valT T=true)/\(∀ T∈atE E p,∀ U∈cutS p T,valT U=true)/\(atE E p).length<=2/\(takeRun E (atE E p)).1=(atE E p).length/\(putRun (takeRun E (atE E p)).2 ((atE E p).flatMap (cutS p))).1=((atE E p).flatMap (cutS p)).length/\∃ L',Good (addPE E p) L'/\Good (putRun (takeRun E (atE E p)).2 ((atE E p).flatMap (cutS p))).2 L'/\Tiles W H L'/\(∀ q,someC L' q↔someC L q\/q=p)/\(L'.length=L.length+2/\¬ atRim W H p\/L'.length=L.length+1/\atRim W H p):=by
 obtain ⟨h1,h2⟩:=tq hW hH g hp;have hn':∀ T∈L,¬ isCnr T p:=λT hT hc=>hn ⟨T,hT,hc⟩;obtain ⟨F,hF,f1,f2⟩:=t.spots hW0 hH0 hp hn' h2;have fa:=h1.trans f1;have hv:∀ T∈atE E p,valT T=true:=λT hT=>g.val T (JZ.1 (h1.mem_iff.1 hT)).1;have hcut:∀ T∈atE E p,(cutS p T).Perm (cutP p T):=by
  intro T hT;have hm:=JZ.1 (h1.mem_iff.1 hT);have hc:=hn' T hm.1;have:cutOk T p=true:=by
   unfold cutOk isCnr at *;simp only [UG] at hc;rw [hm.2,yM.2 hc.1,yM.2 hc.2.1,yM.2 hc.2.2];rfl
  unfold cutS cutR;rw [JH this];exact zU _
 obtain ⟨t',tv⟩:=vz t hW0 hH0 hW hH hp hn' hF f2;obtain ⟨c1,c2⟩:=te t hW hH hp hF;have pI:((atE E p).flatMap (cutS p)).Perm (F.flatMap (cutP p)):=(jG hcut).trans (fa.flatMap_right _);have lenF:F.length<=2:=by cases hF <;> simp
 have kt:=Good.takes (F:=atE E p) (E:=E) (M:=L.filter λx => !hasP x p) (g.order (f2.trans (fa.symm.append_right _)));have kp:=Good.puts (I:=(atE E p).flatMap (cutS p)) kt.2 (λU hU=>(tv U (pI.mem_iff.1 hU)).1) ((zv (pI.append_right _)).nodup_iff.2 t'.once);refine ⟨hv,λT hT U hU=>(tv U (pI.mem_iff.1 (JO.2 ⟨T,hT,hU⟩))).1,by rw [fa.length_eq];exact lenF,kt.1,kp.1,(atE E p).flatMap (cutS p) ++ L.filter (λx => !hasP x p),?_,kp.2,?_,?_,?_⟩
 ·unfold addPE;rw [jM];have k:=Good.takesF (F:=atE E p) (E:=E) (M:=L.filter λx => !hasP x p) (g.order (f2.trans (fa.symm.append_right _)));refine Good.putsF k (λU hU=>(tv U (pI.mem_iff.1 hU)).1) ?_;exact (zv (pI.append_right _)).nodup_iff.2 t'.once
 ·exact t'.perm (pI.symm.append_right _)
 ·intro q;rw [xp,xX pI,c1,xX f2,xp];constructor
  ·rintro ((k | k) | k)
   ·exact .inl (.inl k)
   ·exact .inr k
   ·exact .inl (.inr k)
  ·rintro ((k | k) | k)
   ·exact .inl (.inl k)
   ·exact .inr k
   ·exact .inl (.inr k)
 ·have e1:L.length=F.length+(L.filter λx => !hasP x p).length:=by rw [f2.length_eq,JC]
  rw [JC,pI.length_eq];rcases c2 with ⟨k1,k2⟩ | ⟨k1,k2⟩
  ·exact .inl ⟨by omega,k2⟩
  ·exact .inr ⟨by omega,k2⟩
end
theorem put_ex {L:List Wl} (h:InOrder cmpW L) (X:Wl):∃ k,PutAt L X k:=by
 obtain ⟨h1,h2,_⟩:=xS (L:=L) (q:=λx=>decide (cmpW x X<=0)) (h.imp λ{x y} hxy hy=>by
  simp only [JA] at hy ⊢;exact tN hxy hy)
 refine ⟨_,h2,λj hj hk=>?_,λhk h0=>?_⟩
 ·have h3:=h1 j hj;simp only [JA] at h3;by_cases hc:0 < cmpW L[j] X
  ·exact hc
  ·have:=h3.1 (by omega);omega
 ·have h3:=(h1 _ hk).2 (by omega);simp only [JA] at h3;omega
theorem halve_eq {W H:Int} (hW0:0 < W) (hH0:0 < H) (hW:W < 16777216) (hH:H < 16777216) {E:Es} {L L1:List Tri3} {D:List Wl} {p:Pt} (g:Good E L) (t:Tiles W H L) (hI:WInv L D) (hp:inBox W H p) (hn:¬ someC L p) (g1:Good (addPE E p) L1) (t1:Tiles W H L1) {X:Wl} (hX:D.find? (onD p)=some X):addE (remL D (lo2 X.A X.B) (hi2 X.A X.B)) ⟨X.A,p,X.K⟩=0/\addE (addL (remL D (lo2 X.A X.B) (hi2 X.A X.B)) ⟨X.A,p,X.K⟩) ⟨p,X.B,X.K⟩=0/\∀ D',D'=addL (addL (remL D (lo2 X.A X.B) (hi2 X.A X.B)) ⟨X.A,p,X.K⟩) ⟨p,X.B,X.K⟩->Ris D'->WInv L1 D'/\AddD D p D'/\D'.length=D.length+1:=by
 have hm:=Js hX;obtain ⟨i,hi,rfl⟩:=QD.1 hm;have hg:=hI.good _ hm;generalize hY:D[i]=X at *
 have hrem:RemAt D (rl X.A X.B) (rg X.A X.B) 0 (D.take i ++ D.drop (i+1)):=.inr ⟨rfl,i,hi,by rw [hY,(Xz X.A X.B).1,(Xz X.A X.B).2,(vS hg).1,(vS hg).2];exact xK.2 ⟨rfl,rfl⟩,rfl⟩;rw [<-(Kr hI.ris hI.apart hI.good hrem).2];have o1:InOrder cmpW (D.take i ++ D.drop (i+1)):=(KH hI.ris ue).imp λ{a b} h=>by omega
 have hl:(D.take i ++ D.drop (i+1)).length+1=D.length:=by simp;omega
 generalize D.take i ++ D.drop (i+1)=D1 at *
 obtain ⟨k1,p1⟩:=put_ex o1 ⟨X.A,p,X.K⟩;obtain ⟨k2,p2⟩:=put_ex (put_order o1 p1) ⟨p,X.B,X.K⟩;have hA:AddD D p (insW (insW D1 ⟨X.A,p,X.K⟩ k1) ⟨p,X.B,X.K⟩ k2):=.inr ⟨X,0,D1,k1,k2,hX,hrem,p1,p2,rfl⟩;have w1:=tz hW0 hH0 hW hH g t hI hp hn hA g1 t1;have pm:(insW (insW D1 ⟨X.A,p,X.K⟩ k1) ⟨p,X.B,X.K⟩ k2).Perm (⟨p,X.B,X.K⟩ :: ⟨X.A,p,X.K⟩ :: D1):=(yc _ _ _).trans ((yc _ _ _).cons _);have ap:=qV pm w1.apart;have gd:∀ x∈(⟨p,X.B,X.K⟩ :: ⟨X.A,p,X.K⟩ :: D1:List Wl),GoodW x:=λx hx=>w1.good x (pm.mem_iff.2 hx);have a1:=Xo ap gd (i:=1) (by simp) (T:=D1) (UM _);have a2:=Xo ap gd (i:=0) (by simp) (T:=addL D1 ⟨X.A,p,X.K⟩) a1.2;refine ⟨a1.1,a2.1,λD' hD hr=>?_⟩;subst hD;have pq:=a2.2.trans pm.symm;have e:=yB wholeW hr w1.ris λx=>pq.mem_iff;have hlen:=a2.2.length_eq;refine ⟨e▸w1,e▸hA,?_⟩;rw [show (addL (addL D1 ⟨X.A,p,X.K⟩) ⟨p,X.B,X.K⟩).length=D1.length+2 by simpa using hlen];omega
theorem addD_same {D D1 D2:List Wl} {p:Pt} (hr:Ris D) (ha:Apart D) (hg:∀ x∈D,GoodW x) (h1:AddD D p D1) (h2:AddD D p D2) (r1:Ris D1) (r2:Ris D2):D1=D2:=by
 rcases h1 with ⟨n1,rfl⟩ | ⟨X,s1,M1,i1,j1,f1,m1,_,_,rfl⟩ <;> rcases h2 with ⟨n2,rfl⟩ | ⟨Y,s2,M2,i2,j2,f2,m2,_,_,rfl⟩
 ·rfl
 ·rw [n1] at f2;cases f2
 ·rw [n2] at f1;cases f1
 ·obtain rfl:X=Y:=by rw [f1] at f2;exact JU f2
  have e:M1=M2:=(Kr hr ha hg m1).2.trans (Kr hr ha hg m2).2.symm;subst e;refine yB wholeW r1 r2 λx=>?_;exact (((yc _ _ _).trans ((yc _ _ _).cons _)).trans ((yc _ _ _).trans ((yc _ _ _).cons _)).symm).mem_iff
theorem addRes_same {W H:Int} {L1 L2:List Tri3} {p:Pt} {r1 r2:Int} (c:∀ q,someC L1 q↔someC L2 q) (h1:AddRes W H L1 p r1) (h2:AddRes W H L2 p r2):r1=r2:=by
 have:=c p;rcases h1 with ⟨rfl,a⟩ | ⟨rfl,a,b⟩ | ⟨rfl,a,b⟩ <;> rcases h2 with ⟨rfl,a2⟩ | ⟨rfl,a2,b2⟩ | ⟨rfl,a2,b2⟩ <;> first | rfl | (exfalso;exact absurd a a2) | (exfalso;exact absurd a2 a) | (exfalso;exact b2 (this.1 b)) | (exfalso;exact b (this.2 b2))
theorem Ke {p q:Pt}:0 < cmpP p q↔cmpP q p < 0:=by have:=zl p q;omega
theorem xZ {p:Pt} {y:Wl} (g:GoodW y):onD p y=true↔vld p=true/\det y.A y.B p=0/\cmpP y.A p < 0/\cmpP p y.B < 0:=by
 have va:=g.va;have vb:=g.vb;have hab:=g.ab;have hne:y.A≠y.B:=λh=>by rw [h,zP.2 rfl] at hab;omega
 have hd:=jo y.A p;have hd2:=jo p y.B;unfold onD;rw [<-on_eq];unfold onS;rw [va,vb];simp only [JB,V4,QF,JA,true_and];constructor
 ·rintro ⟨n1,n2,vp,ho,hc⟩;have hz:det y.A y.B p=0:=by
   unfold ori at ho;rw [JH ⟨va,vb,vp⟩] at ho;unfold sgn at ho;split at ho
   ·omega
   ·split at ho <;> omega
  have e1:cmpP y.A p≠0:=λh=>n1 (zP.1 h).symm;have e2:cmpP p y.B≠0:=λh=>n2 (zP.1 h);refine ⟨vp,hz,?_⟩;rcases (by omega:cmpP y.A p = -1\/cmpP y.A p=1) with h1 | h1 <;> rcases (by omega:cmpP p y.B = -1\/cmpP p y.B=1) with h2 | h2 <;> rw [h1,h2] at hc
  ·omega
  ·omega
  ·omega
  ·exfalso
   have k1:=Ke.1 (show 0 < cmpP y.A p by omega);have k2:=Ke.1 (show 0 < cmpP p y.B by omega);have k3:=yR k2 k1;have:=zl y.A y.B;omega
 ·rintro ⟨vp,hz,h1,h2⟩;refine ⟨λh=>?_,λh=>?_,vp,?_,?_⟩
  ·rw [<-h,zP.2 rfl] at h1;omega
  ·rw [<-h,zP.2 rfl] at h2;omega
  ·unfold ori;rw [JH ⟨va,vb,vp⟩,hz];rfl
  ·rw [show cmpP y.A p = -1 by omega,show cmpP p y.B = -1 by omega];decide
theorem col3 {a b p q:Pt} (hab:a≠b) (hp:det a b p=0) (hq:det a b q=0):det a p q=0:=by
 have h:EE a b*det a p q=kk a b p*det a b q - det a b p*kk a b q:=by unfold EE kk det;grind
 rw [hp,hq] at h;have:=tw hab;have h2:EE a b*det a p q=0:=by rw [h];omega
 rcases JF.1 h2 with h3|h3
 ·omega
 ·exact h3
def pcs (p:Pt) (y x:Wl):Prop:=(onD p y=false/\x=y)\/(onD p y=true/\(x=⟨y.A,p,y.K⟩\/x=⟨p,y.B,y.K⟩))
theorem pcs_good {p:Pt} {y x:Wl} (g:GoodW y) (h:pcs p y x):GoodW x:=by
 rcases h with ⟨_,rfl⟩ | ⟨h,e⟩
 ·exact g
 ·obtain ⟨vp,_,h1,h2⟩:=(xZ g).1 h;rcases e with rfl | rfl
  ·exact ⟨g.va,vp,h1,g.k⟩
  ·exact ⟨vp,g.vb,h2,g.k⟩
theorem uA {p q:Pt} {y:Wl} (g:GoodW y) (hp:onD p y) (vq:vld q):onD q ⟨y.A,p,y.K⟩=true↔onD q y=true/\cmpP q p < 0:=by
 obtain ⟨vp,zp,h1,h2⟩:=(xZ g).1 hp;have g1:GoodW ⟨y.A,p,y.K⟩:=⟨g.va,vp,h1,g.k⟩;have hne:y.A≠y.B:=λh=>by have:=g.ab;rw [h,zP.2 rfl] at this;omega
 have hne2:y.A≠p:=λh=>by rw [h,zP.2 rfl] at h1;omega
 rw [xZ g1,xZ g];constructor
 ·rintro ⟨_,z,c1,c2⟩
  exact ⟨⟨vq, col3 hne2 (show det y.A p y.B = 0 by have : det y.A p y.B = -det y.A y.B p := by unfold det; grind
                                                   rw [this,zp];rfl) z,c1,yR c2 h2⟩,c2⟩
 ·rintro ⟨⟨_,z,c1,_⟩,c2⟩;exact ⟨vq,col3 hne zp z,c1,c2⟩
theorem jC {p q:Pt} {y:Wl} (g:GoodW y) (hp:onD p y) (vq:vld q):onD q ⟨p,y.B,y.K⟩=true↔onD q y=true/\cmpP p q < 0:=by
 obtain ⟨vp,zp,h1,h2⟩:=(xZ g).1 hp;have g1:GoodW ⟨p,y.B,y.K⟩:=⟨vp,g.vb,h2,g.k⟩;have hne:y.B≠y.A:=λh=>by have:=g.ab;rw [h,zP.2 rfl] at this;omega
 have hne2:y.B≠p:=λh=>by rw [h,zP.2 rfl] at h2;omega
 have r1:∀ u v t:Pt,det u v t = -det v u t:=λu v t=>by unfold det;grind
 have r2:∀ u v t:Pt,det u v t = -det u t v:=λu v t=>by unfold det;grind
 rw [xZ g1,xZ g];simp only;have zp2:det y.B y.A p=0:=by rw [r1,zp];rfl
 constructor
 ·rintro ⟨_,z,c1,c2⟩;have z2:det y.B p q=0:=by rw [r1,z];rfl
  have z3:=col3 hne2 (show det y.B p y.A=0 by rw [r2,zp2];rfl) z2;exact ⟨⟨vq,by rw [r1,z3];rfl,yR h1 c1,c2⟩,c1⟩
 ·rintro ⟨⟨_,z,_,c2⟩,c1⟩;have z2:det y.B y.A q=0:=by rw [r1,z];rfl
  exact ⟨vq,by rw [r1,col3 hne zp2 z2];rfl,c1,c2⟩
theorem tri_cases {p q:Pt} (h:p≠q):(cmpP p q < 0/\¬ cmpP q p < 0)\/(cmpP q p < 0/\¬ cmpP p q < 0):=by
 have h1:=zl p q;have h2:cmpP p q≠0:=λe=>h (zP.1 e);omega
theorem tK {b:Bool} (h:¬ b=true):b=false:=by cases b <;> simp_all
theorem xz {p:Pt} {y x:Wl} (h:onD p y=false):pcs p y x↔x=y:=by unfold pcs;rw [h];simp
theorem jw {p:Pt} {y x:Wl} (h:onD p y):pcs p y x↔x=⟨y.A,p,y.K⟩\/x=⟨p,y.B,y.K⟩:=by unfold pcs;rw [h];simp
theorem KE {p q:Pt} {y:Wl} (g:GoodW y) (hp:onD p y) (vq:vld q) (h:onD q y=false):onD q ⟨y.A,p,y.K⟩=false/\onD q ⟨p,y.B,y.K⟩=false:=
 ⟨tK λk=>Bool.false_ne_true (h.symm.trans ((uA g hp vq).1 k).1),tK λk=>Bool.false_ne_true (h.symm.trans ((jC g hp vq).1 k).1)⟩
theorem sub_on {p q:Pt} {y:Wl} (g:GoodW y) (hp:onD p y) (hq:onD q y) (vp:vld p) (vq:vld q) (c:cmpP p q < 0) (c':¬ cmpP q p < 0):onD q ⟨y.A,p,y.K⟩=false/\onD q ⟨p,y.B,y.K⟩=true/\onD p ⟨y.A,q,y.K⟩=true/\onD p ⟨q,y.B,y.K⟩=false:=
 ⟨tK λh=>c' ((uA g hp vq).1 h).2,(jC g hp vq).2 ⟨hq,c⟩,(uA g hq vp).2 ⟨hp,c⟩,tK λh=>c' ((jC g hq vp).1 h).2⟩
theorem pcs_swap {p q:Pt} {y x:Wl} (g:GoodW y) (vp:vld p) (vq:vld q) (h:∃ z,pcs p y z/\pcs q z x):∃ z,pcs q y z/\pcs p z x:=by
 by_cases hpq:p=q
 ·subst hpq;exact h
 cases op:onD p y <;> cases oq:onD q y
 ·simpa only [xz op,xz oq,exists_eq_left] using h
 ·obtain ⟨k1,k2⟩:=KE g oq vp op
  simpa only [xz op,jw oq,or_and_right,exists_or,exists_eq_left,xz k1,xz k2] using h
 ·obtain ⟨k1,k2⟩:=KE g op vq oq
  simpa only [jw op,xz oq,or_and_right,exists_or,exists_eq_left,xz k1,xz k2] using h
 ·rcases tri_cases hpq with ⟨c,c'⟩ | ⟨c,c'⟩
  ·obtain ⟨k1,k2,k3,k4⟩:=sub_on g op oq vp vq c c'
   simpa only [jw op,jw oq,or_and_right,exists_or,exists_eq_left,xz k1,jw k2,jw k3,xz k4,or_assoc] using h
  ·obtain ⟨k1,k2,k3,k4⟩:=sub_on g oq op vq vp c c'
   simpa only [jw op,jw oq,or_and_right,exists_or,exists_eq_left,xz k1,jw k2,jw k3,xz k4,or_assoc] using h
def cutW (p:Pt) (S:Wl->Prop) (x:Wl):Prop:=∃ y,S y/\pcs p y x
def cutsW:List Pt->(Wl->Prop)->Wl->Prop
 | [],S=>S
 | p :: l,S=>cutW p (cutsW l S)
def GoodS (S:Wl->Prop):Prop:=∀ x,S x->GoodW x
theorem GoodS.cut {p:Pt} {S:Wl->Prop} (g:GoodS S):GoodS (cutW p S):=λ_ ⟨y,hy,h⟩=>pcs_good (g y hy) h
theorem GoodS.cuts {S:Wl->Prop} (g:GoodS S):∀ l:List Pt,GoodS (cutsW l S)
 | []=>g
 | _ :: l=>(GoodS.cuts g l).cut
theorem qR {p:Pt} {S T:Wl->Prop} (h:∀ x,S x↔T x) (x:Wl):cutW p S x↔cutW p T x:=⟨λ⟨y,hy,k⟩=>⟨y,(h y).1 hy,k⟩,λ⟨y,hy,k⟩=>⟨y,(h y).2 hy,k⟩⟩
theorem YJ {p q:Pt} {S:Wl->Prop} (g:GoodS S) (vp:vld p) (vq:vld q) (x:Wl):cutW p (cutW q S) x↔cutW q (cutW p S) x:=by
 have one:∀ {p q:Pt},vld p=true->vld q=true->cutW p (cutW q S) x->cutW q (cutW p S) x:=λvp vq ⟨z,⟨y,hy,h1⟩,h2⟩=>by
  obtain ⟨t,k1,k2⟩:=pcs_swap (g y hy) vq vp ⟨z,h1,h2⟩;exact ⟨t,⟨y,hy,k1⟩,k2⟩
 exact ⟨one vp vq,one vq vp⟩
theorem cutW_twice {p:Pt} {S:Wl->Prop} (g:GoodS S) (x:Wl):cutW p (cutW p S) x↔cutW p S x:=by
 have key:∀ y,GoodW y->∀ z,pcs p y z->onD p z=false:=λy gy z h=>by
  rcases h with ⟨n,rfl⟩ | ⟨o,rfl | rfl⟩
  ·exact n
  ·obtain ⟨vp,_,_,_⟩:=(xZ gy).1 o;exact tK λh=>by have:=((uA gy o vp).1 h).2;rw [zP.2 rfl] at this;omega
  ·obtain ⟨vp,_,_,_⟩:=(xZ gy).1 o;exact tK λh=>by have:=((jC gy o vp).1 h).2;rw [zP.2 rfl] at this;omega
 constructor
 ·rintro ⟨z,⟨y,hy,h1⟩,h2⟩;have:=key y (g y hy) z h1;rcases h2 with ⟨_,rfl⟩ | ⟨o,_⟩
  ·exact ⟨y,hy,h1⟩
  ·rw [this] at o;cases o
 ·rintro ⟨y,hy,h1⟩;exact ⟨x,⟨y,hy,h1⟩,.inl ⟨key y (g y hy) x h1,rfl⟩⟩
theorem XZ {S:Wl->Prop} (g:GoodS S) {p:Pt} (vp:vld p) (x:Wl):∀ l:List Pt,(∀ q∈l,vld q=true)->(cutW p (cutsW l S) x↔cutsW l (cutW p S) x)
 | [],_=>Vw
 | q :: l,h=>by
  have vq:=h q JT;have hl:∀ q∈l,vld q=true:=λq hq=>h q (JN _ hq);exact (YJ (g.cuts l) vp vq x).trans (qR (λz=>XZ g vp z l hl) x)
theorem YI {S:Wl->Prop} (g:GoodS S) {p:Pt} (x:Wl):∀ l:List Pt,(∀ q∈l,vld q=true)->p∈l->(cutW p (cutsW l S) x↔cutsW l S x)
 | q :: l,h,hp=>by
  have vq:=h q JT;have vp:=h p hp;have hl:∀ q∈l,vld q=true:=λq hq=>h q (JN _ hq);by_cases e:p=q
  ·subst e;exact cutW_twice (g.cuts l) x
  ·have hp':p∈l:=by rcases J1.1 hp with rfl | h';exact absurd rfl e;exact h'
   exact (YJ (g.cuts l) vp vq x).trans (qR (λz=>YI g z l hl hp') x)
theorem uh {S:Wl->Prop} (g:GoodS S) {M:List Pt} (hM:∀ q∈M,vld q=true) (x:Wl):∀ l:List Pt,(∀ q∈l,q∈M)->(cutsW l (cutsW M S) x↔cutsW M S x)
 | [],_=>Vw
 | p :: l,h=>by
  have ih:=λz=>uh g hM z l λq hq=>h q (JN _ hq);exact (qR ih x).trans (YI g x M hM (h p JT))
theorem td {S:Wl->Prop} (g:GoodS S) (x:Wl) {M:List Pt} (hM:∀ q∈M,vld q=true):∀ l:List Pt,(∀ q∈l,vld q=true)->(cutsW l (cutsW M S) x↔cutsW M (cutsW l S) x)
 | [],_=>Vw
 | p :: l,h=>by
  have hl:∀ q∈l,vld q=true:=λq hq=>h q (JN _ hq);have ih:=λz=>td g z hM l hl;exact (qR ih x).trans (XZ (g.cuts l) (h p JT) x M hM)
theorem cutsW_same {S:Wl->Prop} (g:GoodS S) {l M:List Pt} (hl:∀ q∈l,vld q=true) (hM:∀ q∈M,vld q=true) (h:∀ q,q∈l↔q∈M) (x:Wl):cutsW l S x↔cutsW M S x:=
 (uh g hl x M λq hq=>(h q).2 hq).symm.trans ((td g x hl M hM).trans (uh g hM x l λq hq=>(h q).1 hq))
theorem addD_cut {D D':List Wl} {p:Pt} (hr:Ris D) (ha:Apart D) (hg:∀ x∈D,GoodW x) (h:AddD D p D') (hu:∀ x∈D,∀ y∈D,onD p x=true->onD p y=true->x=y) (x:Wl):x∈D'↔cutW p (· ∈ D) x:=by
 rcases h with ⟨n1,rfl⟩ | ⟨X,s1,M1,i1,j1,f1,m1,_,_,rfl⟩
 ·have n2 : ∀ y ∈ D', onD p y = false := λy hy => tK λh => by
    have:=QH.1 n1 y hy;exact this h
  constructor
  ·exact λhx=>⟨x,hx,.inl ⟨n2 x hx,rfl⟩⟩
  ·rintro ⟨y,hy,⟨_,rfl⟩ | ⟨o,_⟩⟩
   ·exact hy
   ·rw [n2 y hy] at o;cases o
 ·have hX:=Js f1;have oX:onD p X=true:=by have:=V7 f1;exact this
  have gX:=hg X hX;have eA:rl X.A X.B=X.A:=by unfold rl;rw [JH gX.ab]
  have eB:rg X.A X.B=X.B:=by unfold rg;rw [JH gX.ab]
  have hrest:∀ x,x∈M1↔x∈D/\x≠X:=by
   rw [eA,eB] at m1;have same:∀ y∈D,isW X.A X.B y=true->y=X:=λy hy h=>by
    obtain ⟨h1,h2⟩:=xK.1 h;refine hu y hy X hX ?_ oX;rw [xZ (hg y hy),h1,h2];exact (xZ gX).1 oX
   rcases m1 with ⟨_,_,h3⟩ | ⟨_,k,hk,h2,h3⟩
   ·have:=h3 X hX;rw [xK.2 ⟨rfl,rfl⟩] at this;cases this
   ·have hkX:=same _ (JX hk) h2;have hnd:D.Nodup:=hr.imp λ{a b} h e=>by subst e;rw [ul.2 rfl] at h;omega
    intro x;have hsplit:D=D.take k ++ X :: D.drop (k+1):=by rw [<-hkX];simp
    have hnd2:=hnd;rw [hsplit,Jg] at hnd2;obtain ⟨_,d2,d3⟩:=hnd2;rw [Jf] at d2;rw [h3];constructor
    ·intro hx;rcases JM.1 hx with hx | hx
     ·exact ⟨QU hx,λe=>d3 x hx X JT e⟩
     ·exact ⟨Qc hx,λe=>d2.1 (e▸hx)⟩
    ·rintro ⟨hx,hne⟩;rw [hsplit] at hx;rcases JM.1 hx with hx | hx
     ·exact Jk _ hx
     ·rcases J1.1 hx with rfl | hx
      ·exact absurd rfl hne
      ·exact Jr _ hx
  rw [((yc _ _ _).trans ((yc _ _ _).cons _)).mem_iff];simp only [J1,hrest];constructor
  ·rintro (rfl | rfl | ⟨hx,hne⟩)
   ·exact ⟨X,hX,.inr ⟨oX,.inr rfl⟩⟩
   ·exact ⟨X,hX,.inr ⟨oX,.inl rfl⟩⟩
   ·exact ⟨x,hx,.inl ⟨tK λh=>hne (hu x hx X hX h oX),rfl⟩⟩
  ·rintro ⟨y,hy,⟨n,rfl⟩ | ⟨o,e⟩⟩
   ·exact .inr (.inr ⟨hy,λe=>by subst e;rw [n] at oX;cases oX⟩)
   ·have:=hu y hy X hX o oX;subst this;rcases e with rfl | rfl
    ·exact .inr (.inl rfl)
    ·exact .inl rfl
theorem xN (u v w:Pt):det v w u=det u v w:=by unfold det;grind
theorem ta (u v w:Pt):det v u w = -det u v w:=by unfold det;grind
theorem kk_in {a b p:Pt} (hab:a≠b) (z:det a b p=0) (h1:cmpP a p < 0) (h2:cmpP p b < 0):0 < kk a b p/\kk a b p < EE a b:=by
 have c1:=jo a p;have c2:=jo p b;have h:=(on_k hab z).1 (by rw [show cmpP a p = -1 by omega,show cmpP p b = -1 by omega];decide);obtain ⟨x1,y1⟩:=coll z;obtain ⟨x2,y2⟩:=coll2 z;have hE:=tw hab;have n1:p≠a:=λe=>by rw [e,zP.2 rfl] at h1;omega
 have n2:p≠b:=λe=>by rw [e,zP.2 rfl] at h2;omega
 refine ⟨?_,?_⟩
 ·rcases Jy h.1 with k | k
  ·exact k
  ·exfalso
   rw [<-k] at x1 y1;simp only [Jn] at x1 y1;refine n1 ?_;have e1:p.x - a.x=0:=by rcases JF.1 x1 with e | e <;> omega
   have e2:p.y - a.y=0:=by rcases JF.1 y1 with e | e <;> omega
   cases p;cases a;simp at e1 e2 ⊢;omega
 ·rcases Jy h.2 with k | k
  ·exact k
  ·exfalso
   rw [k,VB] at x2 y2;simp only [Jn] at x2 y2;refine n2 ?_;have e1:p.x - b.x=0:=by rcases JF.1 x2 with e | e <;> omega
   have e2:p.y - b.y=0:=by rcases JF.1 y2 with e | e <;> omega
   cases p;cases b;simp at e1 e2 ⊢;omega
theorem aff {a b p:Pt} (z:det a b p=0) (c d:Pt):EE a b*det c d p=(EE a b - kk a b p)*det c d a+kk a b p*det c d b:=by
 obtain ⟨x1,y1⟩:=coll z;generalize EE a b=E at *;generalize kk a b p=K at *;unfold det;grind
theorem sides {E K u v:Int} (k0:0 < K) (k1:K < E) (h:0=(E - K)*u+K*v) (hs:sgn u=sgn v):u=0/\v=0:=by
 have hp:0 < E - K:=by omega
 rcases (by unfold sgn at hs;(repeat' split at hs) <;> omega:(u=0/\v=0)\/(0 < u/\0 < v)\/(0 < -u/\0 < -v)) with c|⟨c,d⟩|⟨c,d⟩
 ·exact c
 ·have:=JP hp c;have:=JP k0 d;omega
 ·have:=JP hp c;have:=JP k0 d;rw [Ql] at *;omega
theorem KK {x y:Wl} (gx:GoodW x) (gy:GoodW y) {p:Pt} (hx:onD p x) (hy:onD p y):meetS x.A x.B y.A y.B≠0:=by
 obtain ⟨vp,z1,a1,a2⟩:=(xZ gx).1 hx;obtain ⟨_,z2,b1,b2⟩:=(xZ gy).1 hy;have nx:x.A≠x.B:=λh=>by have:=gx.ab;rw [h,zP.2 rfl] at this;omega
 have ny:y.A≠y.B:=λh=>by have:=gy.ab;rw [h,zP.2 rfl] at this;omega
 have s:Seg2 x.A x.B y.A y.B:=⟨gx.va,gx.vb,gy.va,gy.vb,nx,ny⟩;have gxa:=gx.ab;have gya:=gy.ab;generalize x.A=a at *
 generalize x.B=b at *
 generalize y.A=c at *
 generalize y.B=d at *
 have lo:∀ {u v:Pt},cmpP u v < 0->lo2 u v=u/\hi2 u v=v:=λ{u v} h=>by
  have hn:¬ cmpP v u < 0:=by have:=zl u v;omega
  rcases lo_le (a:=u) (b:=v) with ⟨k1,k2,_⟩ | ⟨_,_,k3⟩
  ·exact ⟨k1,k2⟩
  ·exact absurd k3 hn
 by_cases hl:det a b c=0/\det a b d=0
 ·rw [yI s hl];unfold mil;rw [(lo gxa).1,(lo gxa).2,(lo gya).1,(lo gya).2,JH (yR a1 b2),JH (yR b1 a2)];decide
 ·have pa:a≠p:=λe=>by rw [e,zP.2 rfl] at a1;omega
  have pb:b≠p:=λe=>by rw [e,zP.2 rfl] at a2;omega
  have w1:det a p b=0:=by have:=xN p b a;have:=xN a p b;have:=ta b a p;have:=ta a b p;omega
  have w2:det b p a=0:=by have:=xN a b p;omega
  have aa:det a b a=0:=by unfold det;grind
  have bb:det a b b=0:=by unfold det;grind
  have ne:¬ (a=c\/a=d\/b=c\/b=d):=by
   rintro (e | e | e | e)
   ·subst e;have w3:det a p d=0:=by have:=xN a p d;have:=xN p d a;have:=ta d a p;omega
    exact hl ⟨aa,col3 pa w1 w3⟩
   ·subst e;have w3:det a p c=0:=by have:=xN c a p;omega
    exact hl ⟨col3 pa w1 w3,aa⟩
   ·subst e;have w3:det b p d=0:=by have:=xN b p d;have:=xN p d b;have:=ta d b p;omega
    have:=col3 pb w2 w3;exact hl ⟨bb,by have:=ta a b d;omega⟩
   ·subst e;have w3:det b p c=0:=by have:=xN c b p;omega
    have:=col3 pb w2 w3;exact hl ⟨by have:=ta a b c;omega,bb⟩
  rw [yv s hl ne];have k1:=kk_in nx z1 a1 a2;have k2:=kk_in ny z2 b1 b2;have f1:=aff z1 c d;have f2:=aff z2 a b;rw [z2,Jh] at f1;rw [z1,Jh] at f2;unfold fin;rw [J0 λe=>?_,J0 λe=>?_]
  ·repeat' split
   all_goals decide
  ·exact hl (sides k2.1 k2.2 f2 e)
  ·obtain ⟨u1,u2⟩:=sides k1.1 k1.2 f1 e;have q1:=col3 ny u1 u2;have q2:=col3 (a:=d) (b:=c) (p:=a) (q:=b) (λh=>ny h.symm) (by have:=ta c d a;omega) (by have:=ta c d b;omega);exact hl ⟨by have:=xN a b c;have:=xN b c a;have:=xN c a b;omega,by have:=xN a b d;have:=xN b d a;have:=xN d a b;omega⟩
theorem onD_one {D:List Wl} (ha:Apart D) (hg:∀ x∈D,GoodW x) {p:Pt}:∀ x∈D,∀ y∈D,onD p x=true->onD p y=true->x=y:=by
 intro x hx y hy ox oy;obtain ⟨i,hi,rfl⟩:=QD.1 hx;obtain ⟨j,hj,rfl⟩:=QD.1 hy;rcases Nat.lt_trichotomy i j with h | h | h
 ·exact absurd (Jd.1 ha i j hi hj h) (KK (hg _ hx) (hg _ hy) ox oy)
 ·subst h;rfl
 ·exact absurd (Jd.1 ha j i hj hi h) (KK (hg _ hy) (hg _ hx) oy ox)
def addsW (k:Int):List Pt->Es->List Wl->Es->List Wl->Prop
 | x :: y :: M,E,D,E2,D2=>∃ Q0 j,Q0.Perm (crossD x y E)/\PutAt D (mkW x y k) j/\addsW k (y :: M) (forceR x y capN E Q0).1 (insW D (mkW x y k) j) E2 D2
 | _,E,D,E2,D2=>E2=E/\D2=D
def calm (D:List Wl) (M:List Pt):Prop:=∀ (i:Nat) (h:i+1 < M.length),clashD D M[i] M[i+1]=0
def WhyNo (E:Es) (D:List Wl) (p q:Pt) (k:Int):Prop:=
 ¬ ((k=1\/k=2)/\p≠q/\vld p=true/\vld q=true/\starE p E≠[]/\starE q E≠[]/\∃ M,PartsL E p q M/\calm D M)
theorem Zn {E E2:Es} {p q:Pt} {M M2:List Pt} (h:∀ x,x∈onE E p q↔x∈onE E2 p q) (h1:PartsL E p q M) (h2:PartsL E2 p q M2):M=M2:=by
 obtain ⟨m1,o1⟩:=h1;obtain ⟨m2,o2⟩:=h2;have hm:∀ x,x∈M↔x∈M2:=λx=>(m1 x).trans ((h x).trans (m2 x).symm);have hr:∀ x,x∈M.reverse↔x∈M2.reverse:=λx=>by rw [Vu,Vu];exact hm x
 rcases o1 with ⟨a1,b1⟩ | ⟨a1,b1⟩ <;> rcases o2 with ⟨a2,b2⟩ | ⟨a2,b2⟩
 ·exact yB wholeP a1 a2 hm
 ·have e:=yB wholeP a1 a2 (λx=>by rw [Vu];exact hm x);rw [<-e] at b2;exact absurd b1 b2
 ·have e:=yB wholeP a1 a2 (λx=>by rw [Vu];exact hm x);rw [e] at b1;exact absurd b2 b1
 ·have e:=yB wholeP a1 a2 hr;rw [<-Vq M,e,Vq]
def AddWR (E:Es) (D:List Wl) (p q:Pt) (k r:Int) (E2:Es) (D2:List Wl):Prop:=
 (r≠0/\E2=E/\D2=D/\WhyNo E D p q k)\/(r=0/\(k=1\/k=2)/\p≠q/\vld p=true/\vld q=true/\starE p E≠[]/\starE q E≠[]/\∃ M,PartsL E p q M/\calm D M/\addsW k M E D E2 D2)
def AddWPost (b db:Nat) (E:Es) (D:List Wl) (p q:Pt) (k:Int) (w:World) (e:Ending) (w':World):Prop:=
 ∃ r E2 D2 v2,e=.returned (.int .i64 r)/\AddWR E D p q k r E2 D2/\Hs w' b E2/\DocAt w' db v2 D2/\Frm w w' (λx=>x=b\/x=db)
theorem raddw_b0_1 (mb b db:Nat) (E:Es) (p q:Pt) (k:Int) (h1:(k != 1)=false) (e0:peqI p.x p.y q.x q.y) (w:World) (Bm:Box w mb [.map (some b)] 98) (Hm:Hs w b E):Calls prog 45 #[pt0 mb,pt0 db,p,q,k] w (Rt w (.int .i64 2)):=by
 have cp:=λw0 B1 H1=>rparts_b0 mb b E p q e0 w0 B1 H1;clear e0
 go_enter func45,ntmps45
 go_wp2_with fail;refine qE2 λW1 Bp Bq hw=>?_;refine qC2 (cp _ (Bm.ee hw) (Hm.ee hw)) Bp Bq hw λw2 Bp Bq hw FJ=>?_;go_wp2
 go_ret
 exact ⟨rfl,by have hl:=hw.size;go_grown⟩
theorem raddw_b1_1 (mb b db:Nat) (E:Es) (p q:Pt) (k:Int) (h1:(k != 1)=false) (e0:peqI p.x p.y q.x q.y=false) (e1:vld p=false) (w:World) (Bm:Box w mb [.map (some b)] 98) (Hm:Hs w b E):Calls prog 45 #[pt0 mb,pt0 db,p,q,k] w (Rt w (.int .i64 2)):=by
 have cp:=λw0 B1 H1=>rparts_b1 mb b E p q e0 e1 w0 B1 H1;clear e0
 go_enter func45,ntmps45
 go_wp2_with fail;refine qE2 λW1 Bp Bq hw=>?_;refine qC2 (cp _ (Bm.ee hw) (Hm.ee hw)) Bp Bq hw λw2 Bp Bq hw FJ=>?_;go_wp2
 go_ret
 exact ⟨rfl,by have hl:=hw.size;go_grown⟩
theorem raddw_b2_1 (mb b db:Nat) (E:Es) (p q:Pt) (k:Int) (h1:(k != 1)=false) (e0:peqI p.x p.y q.x q.y=false) (e1:vld p) (e2:vld q=false) (w:World) (Bm:Box w mb [.map (some b)] 98) (Hm:Hs w b E):Calls prog 45 #[pt0 mb,pt0 db,p,q,k] w (Rt w (.int .i64 2)):=by
 have cp:=λw0 B1 H1=>rparts_b2 mb b E p q e0 e1 e2 w0 B1 H1;clear e0
 go_enter func45,ntmps45
 go_wp2_with fail;refine qE2 λW1 Bp Bq hw=>?_;refine qC2 (cp _ (Bm.ee hw) (Hm.ee hw)) Bp Bq hw λw2 Bp Bq hw FJ=>?_;go_wp2
 go_ret
 exact ⟨rfl,by have hl:=hw.size;go_grown⟩
theorem raddw_n1_1 (mb b db:Nat) (E:Es) (p q:Pt) (k:Int) (h1:(k != 1)=false) (hE:E.length<=500000) (e0:peqI p.x p.y q.x q.y=false) (e1:vld p) (e2:vld q) (s1:starE p E=[]) (w:World) (Bm:Box w mb [.map (some b)] 98) (Hm:Hs w b E):Calls prog 45 #[pt0 mb,pt0 db,p,q,k] w (Rt w (.int .i64 16)):=by
 have cp:=λw0 B1 H1=>rparts_n1 mb b E p q hE e0 e1 e2 s1 w0 B1 H1;clear e0
 go_enter func45,ntmps45
 go_wp2_with fail;refine qE2 λW1 Bp Bq hw=>?_;refine qC2 (cp _ (Bm.ee hw) (Hm.ee hw)) Bp Bq hw λw2 Bp Bq hw FJ=>?_;go_wp2
 go_ret
 exact ⟨rfl,by have hl:=hw.size;go_grown⟩
theorem raddw_n2_1 (mb b db:Nat) (E:Es) (p q:Pt) (k:Int) (h1:(k != 1)=false) (hE:E.length<=500000) (e0:peqI p.x p.y q.x q.y=false) (e1:vld p) (e2:vld q) (s1:starE p E≠[]) (s2:starE q E=[]) (w:World) (Bm:Box w mb [.map (some b)] 98) (Hm:Hs w b E):Calls prog 45 #[pt0 mb,pt0 db,p,q,k] w (Rt w (.int .i64 16)):=by
 have cp:=λw0 B1 H1=>rparts_n2 mb b E p q hE e0 e1 e2 s1 s2 w0 B1 H1;clear e0
 go_enter func45,ntmps45
 go_wp2_with fail;refine qE2 λW1 Bp Bq hw=>?_;refine qC2 (cp _ (Bm.ee hw) (Hm.ee hw)) Bp Bq hw λw2 Bp Bq hw FJ=>?_;go_wp2
 go_ret
 exact ⟨rfl,by have hl:=hw.size;go_grown⟩
theorem calm_no {D:List Wl} {a b:Pt} (h:clashD D a b=0):∀ z∈D,meetS a b z.A z.B=0:=by
 unfold clashD at h;split at h
 ·split at h
  ·split at h
   ·cases h
   ·rename_i hn
    intro z hz;have:=List.any_eq_false.1 (by simpa using hn:D.any (hitD a b)=false) z hz;unfold hitD at this;rw [vQ]
    simpa using this
  ·cases h
 ·cases h
theorem KQ (x y a b:Pt):meetS (lo2 x y) (hi2 x y) a b=meetS x y a b:=by rw [jY,meet_lo]
theorem mkOk_of {x y:Pt} {k:Int} (hk:k=1\/k=2) (h:x≠y) (vx:vld x) (vy:vld y):mkOk x y k=true:=by
 unfold mkOk mkK;rcases hk with rfl | rfl <;> simp [h,vx,vy]
theorem Xt {W H : Int} (hW0 : 0 < W) (hH0 : 0 < H) (hW : W < 16777216) (hH : H < 16777216) {k : Int} (hk : k = 1 \/ k = 2) : ∀ (M : List Pt) {E E2 : Es} {D D2 : List Wl} {L : List Tri3}, Good E L -> Tiles W H L -> L.length <= 94 -> WInv L D -> (∀ x ∈ M, someC L x) -> (M.Pairwise (λx y => cmpP x y < 0) \/ M.Pairwise (λx y => cmpP y x < 0)) -> (∀ (i : Nat) (h : i + 1 < M.length), Bare L M[i] M[i + 1]) -> (∀ (i : Nat) (h : i + 1 < M.length), ∀ z ∈ D, meetS M[i] M[i + 1] z.A z.B = 0) -> addsW k M E D E2 D2 ->
    ∃ L2,Good E2 L2/\Tiles W H L2/\WInv L2 D2/\L2.length=L.length/\∀ q,someC L2 q↔someC L q
 | [],E,E2,D,D2,L,g,t,_,hI,_,_,_,_,h=>by obtain ⟨rfl,rfl⟩:=h;exact ⟨L,g,t,hI,rfl,λ_=>Vw⟩
 | [_],E,E2,D,D2,L,g,t,_,hI,_,_,_,_,h=>by obtain ⟨rfl,rfl⟩:=h;exact ⟨L,g,t,hI,rfl,λ_=>Vw⟩
 | x :: y :: M,E,E2,D,D2,L,g,t,hn,hI,hc,hm,hb,hno,h=>by
  have vb:∀ q,inBox W H q->vld q=true:=λq hq=>by rw [zh];unfold inBox at hq;omega
  have vc:∀ q,someC L q->vld q=true:=λq ⟨T,hT,hcn⟩=>by
   obtain ⟨b,c,hk⟩:=qo hcn;exact vb _ (t.cyc_box hT hk)
  obtain ⟨Q0,j,hQ,hj,h⟩:=h;have vx:=vc x (hc x (by simp));have vy:=vc y (hc y (by simp));have hxy:x≠y:=by
   rintro rfl;rcases hm with hm | hm
   ·have:=(Q6.1 hm).1 x (by simp);rw [zP.2 rfl] at this;omega
   ·have:=(Q6.1 hm).1 x (by simp);rw [zP.2 rfl] at this;omega
  have hB:Bare L x y:=hb 0 (by simp);have h0:∀ z∈D,meetS x y z.A z.B=0:=hno 0 (by simp);obtain ⟨L',g',_,he⟩:=force_edge hW0 hH0 hW hH hxy g t hn hB (hc x (by simp)) (hc y (by simp)) hQ;obtain ⟨L1,g1,t1,k1⟩:=yu hW hH capN (a:=x) (b:=y) (Q:=Q0) g t (λz hz=>(qS (hQ.mem_iff.1 hz)).2.2.1);have he1:edgeL L1 x y:=edgeL.perm he (jK g' g1);have hmk:=mkOk_of hk hxy vx vy;have eZ:mkW x y k=⟨lo2 x y,hi2 x y,k⟩:=by unfold mkW;rw [JH hmk]
  have gZ:=XM hmk;have hlh:(lo2 x y=x/\hi2 x y=y)\/(lo2 x y=y/\hi2 x y=x):=by
   unfold lo2 hi2;split
   ·exact .inr ⟨rfl,rfl⟩
   ·exact .inl ⟨rfl,rfl⟩
  have hZe:edgeL L1 (lo2 x y) (hi2 x y):=by
   rcases hlh with ⟨e1,e2⟩ | ⟨e1,e2⟩ <;> rw [e1,e2]
   ·exact he1
   ·exact he1.turn
  have q:=yc D (mkW x y k) j;have hI1:WInv L1 (insW D (mkW x y k) j):=by
   refine ⟨λz hz=>?_,jU hI.ris hj (λz hz e=>?_),?_,λz hz=>?_⟩
   ·rcases J1.1 (q.mem_iff.1 hz) with e | hz
    ·rw [e,eZ];exact gZ
    ·exact hI.good z hz
   ·have k2:=h0 z hz;rw [e,eZ,<-KQ] at k2;exact xc gZ k2
   ·refine qV q.symm (Q6.2 ⟨λz hz=>?_,hI.apart⟩);rw [eZ];show meetS (lo2 x y) (hi2 x y) z.A z.B=0;rw [KQ];exact h0 z hz
   ·rcases J1.1 (q.mem_iff.1 hz) with e | hz
    ·rw [e,eZ];exact hZe
    ·rcases hI.edge z hz with e | e
     ·exact .inl (k1.wall _ _ (by show ¬ meetR x y z.A z.B=1;rw [<-vQ,h0 z hz];decide) e)
     ·exact .inr (k1.wall _ _ (by show ¬ meetR x y z.B z.A=1;rw [<-vQ,X6,h0 z hz];decide) e)
  have hm2:(y :: M).Pairwise (λx y=>cmpP x y < 0)\/(y :: M).Pairwise (λx y=>cmpP y x < 0):=hm.imp (λh=>(Q6.1 h).2) (λh=>(Q6.1 h).2);have hno2:∀ (i:Nat) (h:i+1 < (y :: M).length),∀ z∈insW D (mkW x y k) j,meetS (y :: M)[i] (y :: M)[i+1] z.A z.B=0:=by
   intro i hi z hz;rcases J1.1 (q.mem_iff.1 hz) with e | hz
   ·rw [e,eZ];have m1:(y :: M)[i]∈y :: M:=JX _;have m2:(y :: M)[i+1]∈y :: M:=JX _;have va:=vc _ (hc _ (JN _ m1));have vb2:=vc _ (hc _ (JN _ m2));rcases hm with hm | hm
    ·obtain ⟨n1,n2⟩:=Q6.1 hm;have lt:=(Jd.1 n2) i (i+1) (by omega) hi (by omega);have le:cmpP y (y :: M)[i]<=0:=by
      rcases VS i with e | e
      ·subst e;show cmpP y y<=0;rw [zP.2 rfl];omega
      ·have:=(Jd.1 n2) 0 i (by simp) (by omega) e;exact Jb this
     have hl:¬ cmpP y x < 0:=by have:=n1 y (by simp);have:=zl x y;omega
     have e1:hi2 x y=y:=by unfold hi2;rw [J0 hl]
     have:=Y4 (y:=⟨lo2 x y,hi2 x y,k⟩) (z:=⟨(y :: M)[i],(y :: M)[i+1],1⟩) gZ ⟨va,vb2,lt,.inl rfl⟩ (by show cmpP (hi2 x y) _<=0;rw [e1];exact le);rw [jY];exact this
    ·obtain ⟨n1,n2⟩:=Q6.1 hm;have lt:=(Jd.1 n2) i (i+1) (by omega) hi (by omega);have le:cmpP (y :: M)[i] y<=0:=by
      rcases VS i with e | e
      ·subst e;show cmpP y y<=0;rw [zP.2 rfl];omega
      ·have:=(Jd.1 n2) 0 i (by simp) (by omega) e;exact Jb this
     have hl:cmpP y x < 0:=n1 y (by simp);have e1:lo2 x y=y:=by unfold lo2;rw [JH hl]
     have:=Y4 (y:=⟨(y :: M)[i+1],(y :: M)[i],1⟩) (z:=⟨lo2 x y,hi2 x y,k⟩) ⟨vb2,va,lt,.inl rfl⟩ gZ (by show cmpP _ (lo2 x y)<=0;rw [e1];exact le);rw [<-X7];exact this
   ·exact hno (i+1) (by simpa using hi) z hz
  obtain ⟨L2,g2,t2,i2,l2,c2⟩:=Xt hW0 hH0 hW hH hk (y :: M) g1 t1 (by rw [k1.len];exact hn) hI1 (λz hz=>(k1.cnr z).2 (hc z (JN _ hz))) hm2 (λi hi z hz=>hb (i+1) (by simpa using hi) z ((k1.cnr z).1 hz)) hno2 h;exact ⟨L2,g2,t2,i2,l2.trans k1.len,λz=>(c2 z).trans (k1.cnr z)⟩
theorem tI {E:Es} {L:List Tri3} (g:Good E L) {p q z:Pt}:z∈onE E p q↔someC L z/\onR z p q=true:=by
 unfold onE froms;rw [JZ,JS];refine and_congr_left λ_=>⟨?_,?_⟩
 ·rintro ⟨⟨w,T⟩,he,rfl⟩;obtain ⟨hT,hw⟩:=kw.1 (g.perm.mem_iff.1 he);obtain ⟨c,hc⟩:=yd (a:=w.1) (b:=w.2) hw;exact ⟨T,hT,hc.cnr⟩
 ·rintro ⟨T,hT,hcn⟩;obtain ⟨b,c,hc⟩:=qo hcn;exact ⟨((z,b),T),g.perm.mem_iff.2 (kw.2 ⟨hT,hc.way⟩),rfl⟩
theorem addw_inv {W H:Int} (hW0:0 < W) (hH0:0 < H) (hW:W < 16777216) (hH:H < 16777216) {E E2:Es} {D D2:List Wl} {L:List Tri3} {p q:Pt} {k:Int} (g:Good E L) (t:Tiles W H L) (hn:L.length<=94) (hI:WInv L D) (hA:AddWR E D p q k 0 E2 D2):∃ L2,Good E2 L2/\Tiles W H L2/\WInv L2 D2/\L2.length=L.length/\∀ q,someC L2 q↔someC L q:=by
 have vb:∀ q,inBox W H q->vld q=true:=λq hq=>by rw [zh];unfold inBox at hq;omega
 have vc:∀ q,someC L q->vld q=true:=λq ⟨T,hT,hcn⟩=>by
  obtain ⟨b,c,hk⟩:=qo hcn;exact vb _ (t.cyc_box hT hk)
 rcases hA with ⟨h,_⟩ | ⟨_,hk,hpq,vp,vq,s1,s2,M,⟨hM,hord⟩,hcalm,ha⟩
 ·exact absurd rfl h
 have mono:M.Pairwise (λx y=>cmpP x y < 0)\/M.Pairwise (λx y=>cmpP y x < 0):=by
  rcases hord with ⟨h,_⟩ | ⟨h,_⟩
  ·exact .inl h
  ·exact .inr (List.pairwise_reverse.1 h)
 have inM:∀ z,z∈M↔someC L z/\onR z p q=true:=λz=>(hM z).trans (tI g);refine Xt hW0 hH0 hW hH hk M g t hn hI (λx hx=>((inM x).1 hx).1) mono ?_ (λi hi=>calm_no (hcalm i hi)) ha;intro i hi z hz hd hx hy;have ma:M[i]∈M:=JX _;have mb:M[i+1]∈M:=JX _;obtain ⟨ca,oa⟩:=(inM _).1 ma;obtain ⟨cb,ob⟩:=(inM _).1 mb;have lt2:cmpP M[i] M[i+1] < 0\/cmpP M[i+1] M[i] < 0:=mono.imp (λh=>(Jd.1 h) i (i+1) (by omega) hi (by omega)) (λh=>(Jd.1 h) i (i+1) (by omega) hi (by omega));have hzab:onR z M[i] M[i+1]=true:=by
  unfold onR btw;simp only [JB,JA];exact ⟨vc z hz,vc _ ca,vc _ cb,hd,by omega,by omega⟩
 have hzS:onS z M[i] M[i+1]=true:=by rw [on_eq];exact hzab
 have hne:M[i]≠M[i+1]:=λe=>by rw [e,zP.2 rfl] at lt2;omega
 have hzM:z∈M:=by
  refine (inM z).2 ⟨hz,?_⟩;have oa':=oa;have ob':=ob;unfold onR btw at oa' ob' ⊢;simp only [JB,JA] at oa' ob' ⊢;obtain ⟨_,_,_,a1,a2,a3⟩:=oa';obtain ⟨_,_,_,b1,b2,b3⟩:=ob';have f1:=uf p q M[i];have f2:=uf p q M[i+1];have f3:=uf p q z;have on:=λm=>on_ff (-(q.y - p.y)) (q.x - p.x) hne hzS (m:=m);have u1:=(on (ff (-(q.y - p.y)) (q.x - p.x) p+1)).1 (by omega) (by omega);have u2:=(on (ff (-(q.y - p.y)) (q.x - p.x) p)).2 (by omega) (by omega);exact ⟨vc z hz,vp,vq,by omega,by omega,by omega⟩
 obtain ⟨j,hj,ej⟩:=QD.1 hzM;refine QL λhno=>?_;have n1:z≠M[i]:=λe=>hno (.inl e);have n2:z≠M[i+1]:=λe=>hno (.inr e);have nj:j≠i/\j≠i+1:=⟨λe=>by subst e;exact n1 ej.symm,λe=>by subst e;exact n2 ej.symm⟩;rcases mono with h | h
 ·have hp:=Jd.1 h;have lt:=hp i (i+1) (by omega) hi (by omega);obtain ⟨c1,c2⟩:=jW (X:=⟨M[i],M[i+1],1⟩) ⟨vc _ ca,vc _ cb,lt,.inl rfl⟩ hzab n1 n2;simp only at c1 c2;rcases Qb j i with k | k
  ·have:=hp j i hj (by omega) k;rw [ej] at this;have:=zl z M[i];omega
  ·have:=hp (i+1) j hi hj (by omega);rw [ej] at this;have:=zl z M[i+1];omega
 ·have hp:=Jd.1 h;have lt:=hp i (i+1) (by omega) hi (by omega);have hzba:onR z M[i+1] M[i]=true:=by rw [<-on_eq,vO,on_eq];exact hzab
  obtain ⟨c1,c2⟩:=jW (X:=⟨M[i+1],M[i],1⟩) ⟨vc _ cb,vc _ ca,lt,.inl rfl⟩ hzba n2 n1;simp only at c1 c2;rcases Qb j i with k | k
  ·have:=hp j i hj (by omega) k;rw [ej] at this;have:=zl z M[i];omega
  ·have:=hp (i+1) j hi hj (by omega);rw [ej] at this;have:=zl z M[i+1];omega
theorem RowAt.ne_slice {w:World} {ad:Addr} {M:List Pt} {db:Nat} {x:Option Addr} {n c:Nat} {T:TypeId} (h:RowAt cP 2 w (some ad) M) (hM:0 < M.length) (hB:Box w db [.slice x n c] T):ad.block≠db:=by
 intro e;obtain ⟨ad2,A,e2,e3,hA⟩:=h.two hM;obtain rfl:ad=ad2:=JU e2;have hb:A.block=db:=by rw [<-e3,zj];exact e
 have h1:=hA.2.1;unfold Box at hB;unfold World.cell? at h1;rw [hb,hB] at h1;simp only at h1;split at h1
 ·cases h1
 ·cases ho:A.off with
  | zero=>rw [ho] at h1;simp at h1
  | succ m=>rw [ho] at h1;simp at h1
theorem Zu (x y:Pt) {k:Int} (hk:k=1\/k=2):0<=(mkW x y k).K/\(mkW x y k).K<=2:=by
 unfold mkW;split <;> simp;omega
theorem Zo {E:Es} {p q:Pt} {M:List Pt} (h:PartsL E p q M) (hp:p∈onE E p q):0 < M.length/\M.length<=E.length:=by
 refine ⟨Vi ((h.1 p).2 hp),?_⟩;have nd:∀ {L:List Pt},Rising cmpP L->L.Nodup:=λh=>h.imp λ{x y} h e=>by subst e;have:=(zP (p:=x) (q:=x)).2 rfl;omega
 have hn:M.Nodup:=by
  rcases h.2 with h | h
  ·exact nd h.1
  ·exact (List.reverse_perm M).nodup_iff.1 (nd h.1)
 exact JY (qL M (onE E p q) hn (λx hx=>(h.1 x).1 hx)) (Yx E p q)
theorem raddw_ok_1 (mb b db:Nat) (E:Es) (L:List Tri3) (hE:E.length<=90000) (g:Good E L) (v:Value) (D:List Wl) (hD:D.length<=100000) (hgk:∀ x∈D,0<=x.K/\x.K<=2) (p q:Pt) (k:Int) (h1:(k != 1)=false) (e0:peqI p.x p.y q.x q.y=false) (e1:vld p) (e2:vld q) (s1:starE p E≠[]) (s2:starE q E≠[]) (w:World) (Bm:Box w mb [.map (some b)] 98) (Hm:Hs w b E) (Dw:DocAt w db v D) (hmd:mb≠db):Calls prog 45 #[pt0 mb,pt0 db,p,q,k] w (AddWPost b db E D p q k w):=by
 have HPE:∀ {M:List Pt},PartsL E p q M->p∈onE E p q:=λ{M} _=>by
  obtain ⟨T,hT⟩:=VY _ s1;unfold starE at hT;obtain ⟨e,he,_⟩:=JS.1 hT;obtain ⟨he,hp⟩:=JZ.1 he;have hp:e.1.1=p:=by simpa using hp
  unfold onE froms;refine JZ.2 ⟨JS.2 ⟨e,he,hp⟩,?_⟩;unfold onR btw;have z:det p q p=0:=by unfold det;grind
  have k1:min p.x q.x<=p.x/\p.x<=max p.x q.x:=by omega
  have k2:min p.y q.y<=p.y/\p.y<=max p.y q.y:=by omega
  rw [e1,e2,z,Qk k1,Qk k2];rfl
 have cp:=λw0 B1 H1=>rparts_ok mb b E p q (by omega) e0 e1 e2 s1 s2 w0 B1 H1
 change ∀ (w0:World) B1 H1,Calls _ _ _ _ (PartsPost E p q w0) at cp
 have HG:=hdd (And.intro e0 (And.intro s1 s2));clear e0 s1 s2
 go_enter func45,ntmps45
 go_wp2_with fail;refine qE2 λW1 Bp Bq hw=>?_;refine (cp _ (Bm.ee hw) (Hm.ee hw)).mono ?_;rintro e w2 ⟨M,aM,cM,rfl,hrM,hPM,hb⟩;obtain ⟨Bp,Bq,hw,-⟩:=qX2 Bp Bq hw hb;clear hb;have HPM:=hdd hPM;have hMl:=Zo hPM (HPE hPM);have hM0:=hdd hMl.1;have hM1:=hdd (show M.length<=90000 from JY hMl.2 hE);have S2:=Dw.ee hw;clear hMl hPM;obtain ⟨n,hn⟩:∃ n,M.length=n:=⟨_,rfl⟩;have HN:=hdd hn;rw [hn] at hM0 hM1;rw [hn];clear hn;have HC0:=hdd (show ∀ (j:Nat) (h:j+1 < M.length),j < 0->clashD D M[j] M[j+1]=0 from λj h h0=>by omega);clear cp Bp Bq;go_wp2
 go_loopw [13] (λv13 wr=>∃ i:Nat,v13=.int .i64 i/\i<=n/\Hi (∀ (j:Nat) (h:j+1 < M.length),j < i->clashD D M[j] M[j+1]=0)/\RowAt cP 2 wr aM M/\DocAt wr db v D/\Below w w wr) (λv13 _=>n - (intOf v13).toNat)
 case atStart=>exact ⟨0,rfl,Jl _,HC0,hrM,S2,hw⟩
 case round=>
  clear HC0 hrM S2 hw;obtain ⟨i,rfl,hi,HC,hrM,S2,hw⟩:=hrel;have hn9:n<=90000:=hM1.o;by_cases hlt:i+1 < n
  case neg=>
   have HCL:=hdd (show calm D M from λj h=>HC.o j h (by rw [HN.o] at h;omega));have q0:decide ((i:Int)+1 < (n:Int))=false:=by simp;omega
   have hiw:i<=90000:=by omega
   have Hb:=Hm.ee hw;have F0:Frm w wr (λx=>x=b\/x=db):=Frm.of_below hw;have HG0:=hdd (show ∃ Li,Good E Li/\Li.length=L.length from ⟨L,g,rfl⟩);have HK0:=hdd hgk;have HL0:=hdd (show D.length<=D.length+0 from JJ _);have HS0:=hdd (show ∀ E2 D2,addsW k (M.drop 0) E D E2 D2->addsW k M E D E2 D2 from λE2 D2 h=>by rw [QZ] at h;exact h);have HDL:=hdd hD;have HEL:=hdd (show 3 * L.length<=90000 by rw [<-g.len];exact hE);clear HC hw g hgk hD hlt;go_wp2
   go_loopw [15] (λv15 wr=>∃ (i:Nat) (Ei:Es) (Di:List Wl) (vi:Value),v15=.int .i64 i/\i<=n/\Hs wr b Ei/\Hi (∃ Li,Good Ei Li/\Li.length=L.length)/\DocAt wr db vi Di/\Hi (∀ x∈Di,0<=x.K/\x.K<=2)/\Hi (Di.length<=D.length+i)/\Hi (∀ E2 D2,addsW k (M.drop i) Ei Di E2 D2->addsW k M E D E2 D2)/\RowAt cP 2 wr aM M/\Frm w wr (λx=>x=b\/x=db)) (λv15 _=>n - (intOf v15).toNat)
   case atStart=>exact ⟨0,E,D,_,rfl,Jl _,Hb,HG0,S2,HK0,HL0,HS0,hrM,F0⟩
   case round=>
    clear Hb HG0 S2 HK0 HL0 HS0 hrM F0 q0;obtain ⟨i,Ei,Di,vi,rfl,hi,Hb,HGi,Si,HKi,HLi,HSi,hrM,Fi⟩:=hrel;by_cases hlt:i+1 < n
    case neg=>
     have HR:=hdd (show AddWR E D p q k 0 Ei Di from by
      have hlast:addsW k (M.drop i) Ei Di Ei Di:=by
       have hl:(M.drop i).length<=1:=by rw [Ja,HN.o];omega
       match hm:M.drop i,hl with
       | [],_=>exact ⟨rfl,rfl⟩
       | [_],_=>exact ⟨rfl,rfl⟩
       | _ :: _ :: _,hl=>simp at hl
      obtain ⟨f0,f1,f2⟩:=HG.o;exact .inr ⟨rfl,.inl (by simpa using h1),(λe=>by rw [e,yo.2 rfl] at f0;cases f0),e1,e2,f1,f2,M,HPM.o,HCL.o,HSi.o _ _ hlast⟩)
     have q0:decide ((i:Int)+1 < (n:Int))=false:=by simp;omega
     have hiw:i<=90000:=by omega
     clear hlt;go_wp2;refine bodyPost_ret (v:=.int .i64 0) (by simp [results,results45,go_sem]) rfl ?_;exact ⟨0,Ei,Di,vi,rfl,HR.o,Hb,Si,Fi⟩
    case pos=>
     have q0:(i:Int)+1 < (n:Int):=by omega
     have q1:(i:Int) < (n:Int):=by omega
     have hi1:i < M.length:=by rw [HN.o];omega
     have hi2:i+1 < M.length:=by rw [HN.o];omega
     obtain ⟨ad,A,ea,eA,hA⟩:=hrM.two hi1;obtain ⟨ad2,A2,ea2,eA2,hA2⟩:=hrM.two hi2;have HDR:=hdd (show M.drop i=M[i] :: M[i+1] :: M.drop (i+2)/\M.drop (i+1)=M[i+1] :: M.drop (i+2) from ⟨by rw [Q9 hi1,Q9 hi2],Q9 hi2⟩);obtain ⟨x,hx⟩:∃ x,M[i]=x:=⟨_,rfl⟩;obtain ⟨y,hy⟩:∃ y,M[i+1]=y:=⟨_,rfl⟩;rw [hx] at hA HDR;rw [hy] at hA2 HDR;have HX1:=hdd hx;have HY1:=hdd hy;clear hx hy;rw [ea] at ea2;obtain rfl:ad=ad2:=JU ea2;subst ea;obtain ⟨i1,hj1⟩:∃ i1,i1=i+1:=⟨_,rfl⟩;rw [<-hj1] at eA2;have q2:(i1:Int) < (n:Int):=by omega
     have HLT:=hdd hlt;have hq1:IntKind.i64.wrap ((i:Int)+1)=(i1:Int):=by rw [IntKind.wrap_i64];omega
     replace hj1:=hdd hj1;obtain ⟨s0,s1⟩:=hA.cells;obtain ⟨s2,s3⟩:=hA2.cells;have hn9:n<=90000:=hM1.o;clear ea2;go_wp2_with fail;refine rgn 10 (λw4 hb=>?_);clear s0 s1 s2 s3;have hmb:mb≠b:=Bm.ne_map Hm;have Bm4:=(Fi.box Bm (λk=>by rcases k with k | k;exact hmb k;exact hmd k)).ee hb;have Hb4:=Hb.ee hb;have Si4:=Si.ee hb;have r4:=hrM.ee hb;have F4:Frm w w4 (λx=>x=b\/x=db):=Fi.trans (Frm.of_below hb);obtain ⟨Li,gi,hli⟩:=HGi.o;have cf:=rforce_any mb b Ei Li (by rw [gi.len,hli];have:=HEL.o;omega) gi x y w4 Bm4 Hb4;have HGN:=hdd (λQ0=>show ∃ L',Good (forceR x y capN Ei Q0).1 L'/\L'.length=L.length from by
      obtain ⟨L2,g2,h2⟩:=tV capN (a:=x) (b:=y) (Q:=Q0) gi;exact ⟨L2,g2,h2.trans hli⟩)
     clear gi hli HGi Hb Si hrM Fi Bm4 hA hA2 hb hmb;go_wp2_with fail;refine cf.mono ?_;rintro e w5 ⟨rfl,Q0,hQ0,hg5,H5⟩;have S5:=Si4.turn Hb4 hg5;have r5:=r4.turn cP_ne Hb4 hg5;have F5:Frm w w5 (λx=>x=b\/x=db):=F4.trans (Frm.of_grown hg5 (λg e=>.inl (JU e).symm));have HGN:=hdd (HGN.o Q0);have HQ:=hdd hQ0;have cw:=kx x y k;have HW:=hdd (Zu x y (.inl (by simpa using h1)));have HST:=hdd (λj (hj:PutAt Di (mkW x y k) j)=>show ∀ E2 D2,addsW k (M.drop (i+1)) (forceR x y capN Ei Q0).1 (insW Di (mkW x y k) j) E2 D2->addsW k M E D E2 D2 from λE2 D2 h=>HSi.o E2 D2 (by
      obtain ⟨d1,d2⟩:=HDR.o;rw [d2] at h;rw [d1];exact ⟨Q0,j,HQ.o,hj,h⟩))
     clear cf hQ0 Hb4 Si4 r4 F4 hg5 HSi;generalize (forceR x y capN Ei Q0).1=E5 at *
     generalize mkW x y k=Z at *
     generalize mkOk x y k=zk at *
     obtain ⟨ad3,A3,ea3,eA3,hA3⟩:=r5.two hi1;obtain ⟨ad4,A4,ea4,eA4,hA4⟩:=r5.two hi2;rw [HX1.o] at hA3;rw [HY1.o] at hA4;obtain rfl:ad=ad3:=JU ea3;obtain rfl:ad=ad4:=JU ea4;obtain rfl:A3=A:=by rw [<-eA3,eA]
     obtain rfl:A4=A2:=by rw [<-eA4,<-eA2,hj1.o]
     clear ea3 ea4 eA3 eA4 HX1 HY1 hi1 hi2 HDR;obtain ⟨s0,s1⟩:=hA3.cells;obtain ⟨s2,s3⟩:=hA4.cells;have hw:Below w5 w5 w5:=Below.refl _ _;have hn9:n<=90000:=hM1.o;go_wp2_with fail;refine rgl5 14 16 85 (λw41 bkz hb h1b h2b Bz=>?_);have hw0z:=hw.size;replace hw:=upB hw hb;have fz:=h1b;have hwz:w5.heap.size<=w5.heap.size:=hw0z;have S6:=S5.ee hb;have H6:=H5.ee hb;have r6:=r5.ee hb;have F6:Frm w w41 (λx=>x=b\/x=db):=F5.trans (Frm.of_below hb);clear s0 s1 s2 s3 S5 H5 r5 F5 hA3 hA4 cw;clear hb h1b h2b hw0z;simp only [Act.put];have Fz:=Bz.f;have cp:=xq db vi Di Z (by have:=HLi.o;have:=HDL.o;omega) HKi.o HW.o w41 S6;go_wp2_with fail;refine cp.mono ?_;rintro e w60 ⟨j,v6,rfl,hj,S7,f7,_⟩;have hw6:=hw.size;have hdb:db < w41.heap.size:=S6.box.lt;have H7:Hs w60 b E5:=H6.kept f7.grown (λe=>S6.box.ne_map H6 (JU e).symm);obtain ⟨a6,c6,e6,_,_⟩:=S6.rd;have hMp:0 < M.length:=by have:=HN.o;have:=hM0.o;omega
     have hbd:ad.block≠db:=r6.ne_slice (x:=a6) (n:=Di.length) (c:=c6) (T:=62) hMp (by have:=S6.box;rw [e6] at this;exact this);have r7:RowAt cP 2 w60 (some ad) M:=r6.kept f7.grown (λad' e k=>hbd (by cases e;exact JU k));have F7:Frm w w60 (λx=>x=b\/x=db):=F6.trans2 f7 (λk hk _=>.inr hk);have HK7:=hdd (show ∀ x∈Di.take j ++ Z :: Di.drop j,0<=x.K/\x.K<=2 from λx hx=>by
      rcases JM.1 hx with hx | hx
      ·exact HKi.o x (QU hx)
      ·rcases J1.1 hx with rfl | hx
       ·exact HW.o
       ·exact HKi.o x (Qc hx))
     have HL7:=hdd (show (Di.take j ++ Z :: Di.drop j).length<=D.length+(i+1) by
      have e:=(xV (L:=Di) (X:=Z) j).length_eq;rw [JW] at e;have:=HLi.o;omega)
     have HS7:=hdd (HST.o j hj);clear cp f7 S6 H6 r6 F6 hbd hMp hj HST e6 hw hw6 hdb;go_wp2
     go_roundw
     case rel=>exact ⟨i+1,E5,_,v6,by have hjj:=hj1.o;go_num,by have:=HLT.o;omega,H7,HGN,S7,HK7,HL7,HS7,r7,F7⟩
     case measure=>have:=HLT.o;have hjj:=hj1.o;simp [intOf];omega
  case pos=>
   have q0:(i:Int)+1 < (n:Int):=by omega
   have q1:(i:Int) < (n:Int):=by omega
   have hi1:i < M.length:=by rw [HN.o];omega
   have hi2:i+1 < M.length:=by rw [HN.o];omega
   obtain ⟨ad,A,ea,eA,hA⟩:=hrM.two hi1;obtain ⟨ad2,A2,ea2,eA2,hA2⟩:=hrM.two hi2;have HX:=hdd (λ(k0:clashD D M[i] M[i+1]=0)=>show ∀ (j:Nat) (h:j+1 < M.length),j < i+1->clashD D M[j] M[j+1]=0 from λj h h0=>by
    rcases Nat.lt_or_eq_of_le (Nat.le_of_lt_succ h0) with h1 | h1
    ·exact HC.o j h h1
    ·subst h1;exact k0)
   have HW:=hdd (λ(k0:clashD D M[i] M[i+1]≠0)=>show WhyNo E D p q k from λ⟨_,_,_,_,_,_,M2,k1,k2⟩=>by
    obtain rfl:=Zn (λ_=>Vw) HPM.o k1;exact k0 (k2 i hi2))
   generalize M[i]=x at *
   generalize M[i+1]=y at *
   rw [ea] at ea2;obtain rfl:ad=ad2:=JU ea2;subst ea;obtain ⟨a1,c1,rfl,Dr,_⟩:=S2.rd;have cc:∀ d os,Calls prog 93 #[pt0 db,x,y] (grow (redrawn wr d) os) λe w'=>e=.returned (.int .i64 (clashD D x y))/\Below (grow (redrawn wr d) os).heap.size (grow (redrawn wr d) os) w':=λd os=>rclash_any db a1 c1 D.length D x y _ (Dr.ext (below_regrown wr d os) rfl);obtain ⟨i1,hj1⟩:∃ i1,i1=i+1:=⟨_,rfl⟩;rw [<-hj1] at eA2;have q2:(i1:Int) < (n:Int):=by omega
   have hq1:IntKind.i64.wrap ((i:Int)+1)=(i1:Int):=by rw [IntKind.wrap_i64];omega
   replace hj1:=hdd hj1;obtain ⟨s0,s1⟩:=hA.cells;obtain ⟨s2,s3⟩:=hA2.cells;clear ea2 hA hA2;go_wp2_with fail;refine wrt 11 (by kernel_rfl) (by kernel_rfl) ?_;simp only [tK1,tK0,dP1,dP0];refine wkx ?_;intro w4 hb;clear s0 s1 s2 s3 cc Dr;have r4:=hrM.ee hb;have S4:=S2.ee hb;have hw4:=(upB hw hb);clear hb hrM S2 hw;by_cases hc:clashD D x y=0
   ·have HX:=hdd (HX.o hc);rw [hc];go_wp2
    go_roundw
    case rel=>exact ⟨i+1,by have hjj:=hj1.o;go_num,by omega,HX,r4,S4,hw4⟩
    case measure=>have hjj:=hj1.o;simp [intOf];omega
   ·have hc1:(clashD D x y != 0)=true:=by simp;exact hc
    have HC0:=hdd hc;generalize clashD D x y=r at *
    clear hc HX;go_wp2;refine bodyPost_ret (v:=.int .i64 r) (by simp [results,results45,go_sem]) rfl ?_;exact ⟨r,E,D,_,rfl,.inl ⟨HC0.o,rfl,rfl,HW.o HC0.o⟩,Hm.ee hw4,S4,Frm.of_below hw4⟩
theorem tu {W H:Int} (hW:W < 16777216) (hH:H < 16777216) {k:Int} (hk:k=1\/k=2):∀ (M:List Pt) {E E2:Es} {D D2:List Wl} {L:List Tri3},Good E L->Tiles W H L->(∀ x∈D,0<=x.K/\x.K<=2)->addsW k M E D E2 D2->∃ L2,Good E2 L2/\Tiles W H L2/\L2.length=L.length/\(∀ q,someC L2 q↔someC L q)/\(∀ x∈D2,0<=x.K/\x.K<=2)/\D2.length<=D.length+M.length
 | [],E,E2,D,D2,L,g,t,hD,h=>by obtain ⟨rfl,rfl⟩:=h;exact ⟨L,g,t,rfl,λ_=>Vw,hD,by simp⟩
 | [_],E,E2,D,D2,L,g,t,hD,h=>by obtain ⟨rfl,rfl⟩:=h;exact ⟨L,g,t,rfl,λ_=>Vw,hD,by simp⟩
 | x :: y :: M,E,E2,D,D2,L,g,t,hD,h=>by
  obtain ⟨Q0,j,hQ,hj,h⟩:=h;obtain ⟨L1,g1,t1,k1⟩:=yu hW hH capN (a:=x) (b:=y) (Q:=Q0) g t (λz hz=>(qS (hQ.mem_iff.1 hz)).2.2.1);have hD1:∀ z∈insW D (mkW x y k) j,0<=z.K/\z.K<=2:=λz hz=>by
   unfold insW at hz;rcases JM.1 hz with hz | hz
   ·exact hD z (QU hz)
   ·rcases J1.1 hz with rfl | hz
    ·exact Zu x y hk
    ·exact hD z (Qc hz)
  obtain ⟨L2,g2,t2,l2,c2,d2,n2⟩:=tu hW hH hk (y :: M) g1 t1 hD1 h;have e:(insW D (mkW x y k) j).length=D.length+1:=by unfold insW;rw [(xV (L:=D) (X:=mkW x y k) j).length_eq,JW]
  exact ⟨L2,g2,t2,l2.trans k1.len,λq=>(c2 q).trans (k1.cnr q),d2,by rw [e] at n2;simp at n2 ⊢;omega⟩
theorem raddw_any (mb b db:Nat) (E:Es) (L:List Tri3) (hE:E.length<=90000) (g:Good E L) (v:Value) (D:List Wl) (hD:D.length<=100000) (hgk:∀ x∈D,0<=x.K/\x.K<=2) (p q:Pt) (w:World) (Bm:Box w mb [.map (some b)] 98) (Hm:Hs w b E) (Dw:DocAt w db v D) (hmd:mb≠db):Calls prog 45 #[pt0 mb,pt0 db,p,q,.int .i64 1] w (AddWPost b db E D p q 1 w):=by
 have no:∀ {r:Int} {e:Ending} {w':World},r≠0->WhyNo E D p q 1->e=.returned (.int .i64 r)/\Below w w w'->AddWPost b db E D p q 1 w e w':=λhr hy ⟨k1,k2⟩=>⟨_,E,D,v,k1,.inl ⟨hr,rfl,rfl,hy⟩,Hm.ee k2,Dw.ee k2,Frm.of_below k2⟩;have h1:((1:Int) != 1)=false:=rfl;cases e0:peqI p.x p.y q.x q.y with
 | true=>exact (raddw_b0_1 mb b db E p q 1 h1 e0 w Bm Hm).mono λe w' h=>no (by decide) (λk=>k.2.1 (yo.1 e0)) h
 | false=>
  cases e1:vld p with
  | false=>exact (raddw_b1_1 mb b db E p q 1 h1 e0 e1 w Bm Hm).mono λe w' h=>no (by decide) (λk=>by have:=k.2.2.1;rw [e1] at this;cases this) h
  | true=>
   cases e2:vld q with
   | false=>exact (raddw_b2_1 mb b db E p q 1 h1 e0 e1 e2 w Bm Hm).mono λe w' h=>no (by decide) (λk=>by have:=k.2.2.2.1;rw [e2] at this;cases this) h
   | true=>
    by_cases s1:starE p E=[]
    ·exact (raddw_n1_1 mb b db E p q 1 h1 (by omega) e0 e1 e2 s1 w Bm Hm).mono λe w' h=>no (by decide) (λk=>k.2.2.2.2.1 s1) h
    ·by_cases s2:starE q E=[]
     ·exact (raddw_n2_1 mb b db E p q 1 h1 (by omega) e0 e1 e2 s1 s2 w Bm Hm).mono λe w' h=>no (by decide) (λk=>k.2.2.2.2.2.1 s2) h
     ·exact raddw_ok_1 mb b db E L hE g v D hD hgk p q 1 h1 e0 e1 e2 s1 s2 w Bm Hm Dw hmd
theorem Zp {E:Es} {p q:Pt} (s1:starE p E≠[]) (e1:vld p) (e2:vld q):p∈onE E p q:=by
 obtain ⟨T,hT⟩:=VY _ s1;unfold starE at hT;obtain ⟨e,he,_⟩:=JS.1 hT;obtain ⟨he,hp⟩:=JZ.1 he;have hp:e.1.1=p:=by simpa using hp
 unfold onE froms;refine JZ.2 ⟨JS.2 ⟨e,he,hp⟩,?_⟩;unfold onR btw;have z:det p q p=0:=by unfold det;grind
 have k1:min p.x q.x<=p.x/\p.x<=max p.x q.x:=by omega
 have k2:min p.y q.y<=p.y/\p.y<=max p.y q.y:=by omega
 rw [e1,e2,z,Qk k1,Qk k2];rfl
theorem Kj {D D':List Wl} {p:Pt} (h:AddD D p D'):∀ x∈D',x∈D\/∃ X∈D,x.K=X.K/\onD p X=true/\((x.A=X.A/\x.B=p)\/(x.A=p/\x.B=X.B)):=by
 rcases h with ⟨_,rfl⟩ | ⟨X,r,D1,k1,k2,hf,hR,_,_,rfl⟩
 ·exact λx hx=>.inl hx
 ·have hXm:=Js hf;have ho:=V7 hf;have hD1:∀ y∈D1,y∈D:=by
   rcases hR with ⟨_,e,_⟩ | ⟨_,k,hk,_,e⟩
   ·rw [e];exact λy hy=>hy
   ·rw [e];exact λy hy=>ue.mem hy
  intro x hx;rcases J1.1 ((yc _ _ _).mem_iff.1 hx) with rfl | hx
  ·exact .inr ⟨X,hXm,rfl,ho,.inr ⟨rfl,rfl⟩⟩
  ·rcases J1.1 ((yc _ _ _).mem_iff.1 hx) with rfl | hx
   ·exact .inr ⟨X,hXm,rfl,ho,.inl ⟨rfl,rfl⟩⟩
   ·exact .inl (hD1 x hx)
theorem Ki {W H:Int} {D D':List Wl} {p:Pt} (h:AddD D p D') (hr:∀ x∈D,x.K=2->onRim W H x.A x.B):∀ x∈D',x.K=2->onRim W H x.A x.B:=by
 intro x hx hk;rcases Kj h x hx with h | ⟨X,hX,e,ho,hh⟩
 ·exact hr x h hk
 ·have k:=hr X hX (by rw [<-e];exact hk);unfold onD onR btw at ho;simp only [JB,JA] at ho;obtain ⟨_,_,_,_,_,_,b1,b2⟩:=ho;unfold onRim at *;rcases hh with ⟨e1,e2⟩ | ⟨e1,e2⟩ <;> rw [e1,e2] <;> omega
theorem Xv {D D':List Wl} {p:Pt} (h:AddD D p D'):∀ x∈D',∃ y∈D,x.K=y.K:=λx hx=>by
 rcases Kj h x hx with h | ⟨X,hX,e,_⟩
 ·exact ⟨x,h,rfl⟩
 ·exact ⟨X,hX,e⟩
structure CInvW (W H:Int) (E:Es) (L:List Tri3) (D:List Wl):Prop where
 good:Good E L
 fix:Fixed W H (wll D) L
 kinds:∀ x∈D,0<=x.K/\x.K<=2
 wal:WInv L D
 rim:∀ x∈D,x.K=2->onRim W H x.A x.B
def CAddPostA (cb mb b db:Nat) (v:Value) (W H:Int) (L:List Tri3) (D:List Wl) (p:Pt) (w:World) (e:Ending) (w':World):Prop:=
 ∃ r v' E' L' D',e=.returned (.int .i64 r)/\CdtAt w' cb mb b db v' W H E' D'/\CInvW W H E' L' D'/\AddRes W H L p r/\(∀ q,someC L' q↔someC L q\/(q=p/\inBox W H p))/\L'.length<=L.length+2/\D'.length<=D.length+2/\(∀ x∈D',∃ y∈D,x.K=y.K)/\(r=0->AddD D p D')/\(r≠0->D'=D)/\Frm w w' (λk=>k=b\/k=db)/\(∀ g,v'.ownBlock=some g->v.ownBlock=some g\/w.heap.size<=g)
theorem rcaddA_any (cb mb b db:Nat) (v:Value) (W H:Int) (hW0:0 < W) (hH0:0 < H) (hW:W < 16777216) (hH:H < 16777216) (E:Es) (L:List Tri3) (D:List Wl) (hI:CInvW W H E L D) (hL:L.length<=20000) (hD:D.length<=20000) (p:Pt) (w:World) (S:CdtAt w cb mb b db v W H E D):Calls prog 19 #[pt0 cb,p] w (CAddPostA cb mb b db v W H L D p w):=by
 have hE:E.length<=1000000:=by rw [hI.good.len];omega
 by_cases hb0:inBox W H p
 ·by_cases hc0:someC L p
  ·have ca:=λw0 B1 H1=>raddP_have mb b db E p hE w0 B1 H1 (Xp hW hH hI.good hI.fix.tiles hW0 hH0 hb0) (λe=>(hI.good.star_nil p).1 e hc0);have HR:=hdd (show AddRes W H L p 5 from .inr (.inl ⟨rfl,hb0,hc0⟩));have HS:=hdd (show ∀ q,someC L q↔someC L q\/(q=p/\inBox W H p) from λq=>⟨.inl,λk=>by rcases k with k | ⟨rfl,_⟩;exact k;exact hc0⟩);clear hb0 hc0 hE
   go_enter func19,ntmps19
   go_wp2_with fail;refine zG λw1 hW=>?_;have Bp:Box w1 w [p.x,p.y] 34:=by rw [hW];exact Box.new rfl
   have hw:Below w w w1:=by rw [hW];go_grown
   clear hW;have S1:=S.ee hw;have g1:=Bp.cells;have g2:=S1.box.cells;refine rgn 9 (λw2 hb=>?_);clear g1 g2;have hw2:=(upB hw hb);clear hb Bp S1 hw;go_wp2_with fail;refine (ca _ (S.mesh.ee hw2) (S.map.ee hw2)).mono ?_;rintro e w3 ⟨rfl,hb⟩;have hw3:=(upB hw2 hb);clear hb ca hw2;go_wp2
   go_ret
   exact ⟨5,v,E,L,D,rfl,S.ee hw3,hI,HR.o,HS.o,by omega,by omega,λx hx=>⟨x,hx,rfl⟩,λe=>by omega,λ_=>rfl,Frm.of_below hw3,λg h=>.inl h⟩
  ·obtain ⟨hv,hu,hlen,L1,g1',t1',s1',n1'⟩:=add_good hW hH hI.good hI.fix.tiles hW0 hH0 hb0 hc0;have ca:=λw0 B1 H1 D1=>raddP_ok mb b db E p v D hE (by omega) (λT hT=>ye (hv T hT)) (λT hT U hU=>ye (hu T hT U hU)) (Xp hW hH hI.good hI.fix.tiles hW0 hH0 hb0) ((hI.good.star_nil p).2 hc0) w0 B1 H1 D1 (by omega) hI.kinds;have HR:=hdd (show AddRes W H L p 0 from .inr (.inr ⟨rfl,hb0,hc0⟩));have HS:=hdd (show ∀ q,someC L1 q↔someC L q\/(q=p/\inBox W H p) from λq=>by rw [s1' q];simp [hb0]);have HL1:=hdd (show L1.length<=L.length+2 by rcases n1' with ⟨k,_⟩ | ⟨k,_⟩ <;> omega);have HWA:=hdd (show ∀ D1,AddD D p D1->WInv L1 D1 from λD1 hA=>tz hW0 hH0 hW hH hI.good hI.fix.tiles hI.wal hb0 hc0 hA g1' t1');have cr:=λa0 c n D1 w0 B1 H1 R1=>kf mb b db a0 c n (addPE E p) L1 D1 W H hW hH (by have:=HL1.o;omega) g1' t1' w0 B1 H1 R1
   change ∀ (w0:World) B1 H1 D1,Calls _ _ _ _ (AddPost b db E p v D w0) at ca
   clear hb0 hc0 hE hv hu hlen g1' t1' s1' n1'
   go_enter func19,ntmps19
   go_wp2_with fail;refine zG λw1 hW'=>?_;have Bp:Box w1 w [p.x,p.y] 34:=by rw [hW'];exact Box.new rfl
   have hw:Below w w w1:=by rw [hW'];go_grown
   clear hW';have S1:=S.ee hw;have g1:=Bp.cells;have g2:=S1.box.cells;refine rgn 9 (λw2 hb=>?_);clear g1 g2;have hw2:=(upB hw hb);clear hb Bp S1 hw;go_wp2_with fail;have S2:=S.ee hw2;refine (ca _ S2.mesh S2.map S2.doc).mono ?_;rintro e w3 ⟨v1,D1,rfl,H3,D3,hA,f3,hg3⟩;have HG3:=hdd (show ∀ g,v1.ownBlock=some g->v.ownBlock=some g\/w.heap.size<=g from λg e=>(hg3 g e).imp id (JY hw2.size));clear hg3;have nb:∀ {x:Nat} {cs:List Value} {T:TypeId},Box w2 x cs T->x≠b:=λh=>h.ne_map S2.map;have S3:CdtAt w3 cb mb b db v1 W H (addPE E p) D1:=⟨f3.box S2.box (λk=>by rcases k with k | k;exact nb S2.box k;exact S.cdb k),f3.box S2.mesh (λk=>by rcases k with k | k;exact nb S2.mesh k;exact S.mdb k),H3,D3,S.cdb,S.mdb⟩;have F3:Frm w w3 (λk=>k=b\/k=db):=(Frm.of_below hw2).trans f3;have hk:=YX hA hI.kinds;have HK:=hdd hk;have HWD:=hdd (HWA.o D1 hA);have HRD:=hdd (show (∀ x∈D1,x.K=2->onRim W H x.A x.B)/\(∀ x∈D1,∃ y∈D,x.K=y.K)/\AddD D p D1 from ⟨Ki hA hI.rim,Xv hA,hA⟩);clear HWA;clear nb ca H3 D3 hA f3 S2 hw2 hk;generalize addPE E p=E1 at *
   have g2:=S3.box.cells;go_wp2_with fail;refine rgn 8 (λw4 hb=>?_);clear g2;have S4:=S3.ee hb;have F4:=F3.trans (Frm.of_below hb);clear hb S3 F3;obtain ⟨a9,c9,hv9,Dr,_⟩:=S4.doc.rd;have cr4:=cr a9 c9 D1.length D1 w4 S4.mesh S4.map Dr;clear cr hv9 Dr;go_wp2_with fail;refine cr4.mono ?_;rintro e w5 ⟨rfl,E2,L2,g5,H5,r5,f5⟩;have S5:CdtAt w5 cb mb b db v1 W H E2 D1:=⟨S4.box.turn S4.map g5,S4.mesh.turn S4.map g5,H5,S4.doc.turn S4.map g5,S.cdb,S.mdb⟩;have F5:=F4.trans2 (Frm.of_grown g5 (p:=λk=>k=b) (λg e=>by cases e;rfl)) (λk hk _=>.inl hk);have HI5:=hdd (show CInvW W H E2 L2 D1 from ⟨r5.good,f5,HK.o.1,HWD.o.kept r5.kept,HRD.o.1⟩);have HS5:=hdd (show ∀ q,someC L2 q↔someC L q\/(q=p/\inBox W H p) from λq=>(r5.kept.cnr q).trans (HS.o q));have HL5:=hdd (show L2.length<=L.length+2 by rw [r5.kept.len];exact HL1.o);clear cr4 g5 H5 r5 f5 S4 F4;go_wp2
   go_ret
   exact ⟨0,v1,E2,L2,D1,rfl,S5,HI5.o,HR.o,HS5.o,HL5.o,HK.o.2,HRD.o.2.1,λ_=>HRD.o.2.2,λk=>absurd rfl k,F5,HG3.o⟩
 ·have ca:=λw0 B1 H1=>raddP_none mb b db E p hE w0 B1 H1 (Kg hI.good hI.fix.tiles hb0);have HR:=hdd (show AddRes W H L p 1 from .inl ⟨rfl,hb0⟩);have HS:=hdd (show ∀ q,someC L q↔someC L q\/(q=p/\inBox W H p) from λq=>⟨.inl,λk=>by rcases k with k | ⟨_,k⟩;exact k;exact absurd k hb0⟩);clear hb0 hE
  go_enter func19,ntmps19
  go_wp2_with fail;refine zG λw1 hW=>?_;have Bp:Box w1 w [p.x,p.y] 34:=by rw [hW];exact Box.new rfl
  have hw:Below w w w1:=by rw [hW];go_grown
  clear hW;have S1:=S.ee hw;have g1:=Bp.cells;have g2:=S1.box.cells;refine rgn 9 (λw2 hb=>?_);clear g1 g2;have hw2:=(upB hw hb);clear hb Bp S1 hw;go_wp2_with fail;refine (ca _ (S.mesh.ee hw2) (S.map.ee hw2)).mono ?_;rintro e w3 ⟨rfl,hb⟩;have hw3:=(upB hw2 hb);clear hb ca hw2;go_wp2
  go_ret
  exact ⟨1,v,E,L,D,rfl,S.ee hw3,hI,HR.o,HS.o,by omega,by omega,λx hx=>⟨x,hx,rfl⟩,λe=>by omega,λ_=>rfl,Frm.of_below hw3,λg h=>.inl h⟩
end
end Go.Proofs.YthhcehmmglmlfaaGreat
