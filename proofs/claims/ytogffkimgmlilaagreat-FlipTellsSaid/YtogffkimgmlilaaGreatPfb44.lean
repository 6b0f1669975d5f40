/- Put together: GeoH, MesVb, MesVc, MesWb, MesWc. -/
import Derived.Test.YtogffkimgmlilaaGreatPfb39
import Derived.Test.YtogffkimgmlilaaGreatPfb34
set_option maxRecDepth 100000
set_option maxHeartbeats 8000000
set_option linter.all false
namespace Go.Proofs.YtogffkimgmlilaaGreat
open _root_.Go.Proofs.Tryz
section
open Go.RowKit
def P4 (a b c d:Pt) (x y z v:Int):Int:=det d b c * x+det a d c * y+det a b d * z - det a b c * v
theorem P4_cyc (a b c d:Pt) (x y z v:Int):P4 b c a d y z x v=P4 a b c d x y z v:=by
 unfold P4;have e1:det d c a=det a d c:=by unfold det;grind
 have e2:det b d a=det a b d:=by unfold det;grind
 have e3:det b c d=det d b c:=by unfold det;grind
 have e4:det b c a=det a b c:=zAh a b c;rw [e1,e2,e3,e4];omega
def mid (a b:Pt) (s t:Int):Pt:=⟨s * a.x+t * b.x,s * a.y+t * b.y⟩
theorem zMe (a b:Pt) (s t:Int):mid b a t s=mid a b s t:=by unfold mid;rw [jF3,jF3 (t * b.y)]
def low (h:Pt→Int) (M s t:Int) (a b:Pt) (T:Tri3):Prop:=P4 (sc M T.A) (sc M T.B) (sc M T.C) (mid a b s t) (M * h T.A) (M * h T.B) (M * h T.C) (s * h a+t * h b) < 0
theorem zFf {h:Pt→Int} {M s t:Int} {a b x y z:Pt} {T:Tri3} (hc:Cyc T x y z):low h M s t a b T↔P4 (sc M x) (sc M y) (sc M z) (mid a b s t) (M * h x) (M * h y) (M * h z) (s * h a+t * h b) < 0:=by
 unfold low;rcases hc with ⟨rfl,rfl,rfl⟩ | ⟨rfl,rfl,rfl⟩ | ⟨rfl,rfl,rfl⟩
 ·exact jEh
 ·rw [P4_cyc (sc M T.A) (sc M T.B) (sc M T.C)]
 ·rw [P4_cyc (sc M T.C) (sc M T.A) (sc M T.B)]
def dead (h:Pt→Int) (L:List Tri3) (a b:Pt):Prop:=∃ s t:Int,0 < s∧0 < t∧∃ T∈L,hasM (s+t) T (mid a b s t)∧low h (s+t) s t a b T
theorem near3_add {M N:Int} {a b c p v u:Pt} (hN:0≤N) (h:near3 M a b c p v) (h1:det (sc M a) (sc M b) p=0→0≤crd a b u) (h2:det (sc M b) (sc M c) p=0→0≤crd b c u) (h3:det (sc M c) (sc M a) p=0→0≤crd c a u):near3 M a b c p ⟨v.x+N * u.x,v.y+N * u.y⟩:=by
 have key:∀ x y:Pt,crd x y ⟨v.x+N * u.x,v.y+N * u.y⟩=crd x y v+N * crd x y u:=fun x y=>by unfold crd;grind
 have one:∀ x y:Pt,(0 < det (sc M x) (sc M y) p∨(det (sc M x) (sc M y) p=0∧0 < crd x y v))→(det (sc M x) (sc M y) p=0→0≤crd x y u)→(0 < det (sc M x) (sc M y) p∨(det (sc M x) (sc M y) p=0∧0 < crd x y ⟨v.x+N * u.x,v.y+N * u.y⟩)):=by
  intro x y k1 k2;rcases k1 with k | ⟨k,k3⟩
  ·exact .inl k
  ·refine .inr ⟨k,?_⟩;have:=jA2 hN (k2 k);rw [key];omega
 exact ⟨one _ _ h.1 h1,one _ _ h.2.1 h2,one _ _ h.2.2 h3⟩
theorem sc_crd (M:Int) (x y p q:Pt):det (sc M x) (sc M y) (sc M q)=det (sc M x) (sc M y) p+M * crd x y ⟨M * q.x - p.x,M * q.y - p.y⟩:=by unfold det sc crd;grind
section
variable {W H:Int} {L:List Tri3} (t:Tiles W H L) {h:Pt→Int}
include t
theorem Tiles.alive_left {a b q:Pt} {s r:Int} (hs:0 < s) (hr:0 < r) (hm:(a,b)∈L.flatMap ways) {T:Tri3} (hT:T∈L) (hq:isCnr T q) (h1:0 < det a b q) (h2:hasM (s+r) T (mid a b s r)) (h3:low h (s+r) s r a b T):False:=by
 obtain ⟨X,hX,c,cX,pX⟩:=t.way_of hm;obtain ⟨M,eM⟩:∃ M,s+r=M:=⟨_,rfl⟩;have hM:0 < M:=by omega
 obtain ⟨m,em⟩:∃ m,mid a b s r=m:=⟨_,rfl⟩;have e1:det (sc M a) (sc M b) m=0:=by rw [←em,←eM];unfold det sc mid;grind
 have e2:det (sc M b) (sc M c) m=M * (s * det a b c):=by rw [←em,←eM];unfold det sc mid;grind
 have e3:det (sc M c) (sc M a) m=M * (r * det a b c):=by rw [←em,←eM];unfold det sc mid;grind
 rw [eM,em] at h2;rw [eM] at h3;have pT:=t.pos T hT;have n0:=zHt hM pT h2;obtain ⟨v0,ev0⟩:∃ v0:Pt,(⟨M * (T.A.x+T.B.x+T.C.x) - 3 * m.x,M * (T.A.y+T.B.y+T.C.y) - 3 * m.y⟩:Pt)=v0:=⟨_,rfl⟩;rw [ev0] at n0;obtain ⟨u,eu⟩:∃ u:Pt,(⟨M * q.x - m.x,M * q.y - m.y⟩:Pt)=u:=⟨_,rfl⟩;have sgn2:∀ x y:Pt,0≤det x y q→det (sc M x) (sc M y) m=0→0≤crd x y u:=by
  intro x y k1 k2;have k3:=sc_crd M x y m q;rw [eu,k2,zNk,jE4] at k3;have k4:=jA2 (jAn hM) k1;have k5:M * det x y q=crd x y u:=Int.eq_of_mul_eq_mul_left (by omega) k3;omega
 obtain ⟨N,eN⟩:∃ N:Int,((crd a b v0).natAbs:Int)+1=N:=⟨_,rfl⟩;have hN:0≤N:=by omega
 have hcA:0≤det T.A T.B q∧0≤det T.B T.C q∧0≤det T.C T.A q:=(zLd pT hq).1;have n1:near M T m ⟨v0.x+N * u.x,v0.y+N * u.y⟩:=near3_add hN n0 (sgn2 _ _ hcA.1) (sgn2 _ _ hcA.2.1) (sgn2 _ _ hcA.2.2);have hcu:0 < crd a b u:=by
  have k3:=sc_crd M a b m q;rw [eu,e1,zNk,jE4] at k3;have k5:M * det a b q=crd a b u:=Int.eq_of_mul_eq_mul_left (by omega) k3;have:=jAf hM h1;omega
 have hcv:0 < crd a b ⟨v0.x+N * u.x,v0.y+N * u.y⟩:=by
  have e:crd a b ⟨v0.x+N * u.x,v0.y+N * u.y⟩=crd a b v0+N * crd a b u:=by unfold crd;grind
  have k:N≤N * crd a b u:=by
   have:=jBs (show 1≤crd a b u by omega) hN;omega
  omega
 have n2:near M X m ⟨v0.x+N * u.x,v0.y+N * u.y⟩:=cX.near ⟨.inr ⟨e1,hcv⟩,.inl (by rw [e2];exact jAf hM (jAf hs pX)),.inl (by rw [e3];exact jAf hM (jAf hr pX))⟩;have e:=t.same hX hT hM n2 n1;subst e;rw [zFf cX] at h3;have z:P4 (sc M a) (sc M b) (sc M c) (mid a b s r) (M * h a) (M * h b) (M * h c) (s * h a+r * h b)=0:=by
  rw [←eM];generalize h a=x
  generalize h b=y
  generalize h c=z
  unfold P4 det sc mid;grind
 rw [z] at h3;omega
theorem Tiles.not_dead {a b:Pt} (he:edgeL L a b):¬ dead h L a b:=by
 rintro ⟨s,r,hs,hr,T,hT,h2,h3⟩;obtain ⟨⟨ba,bb⟩,_,nab⟩:=t.edge_box he;have main:∀ {a b q:Pt} {s r:Int},edgeL L a b→0 < s→0 < r→isCnr T q→0 < det a b q→hasM (s+r) T (mid a b s r)→low h (s+r) s r a b T→False:=by
  intro a b q s r he hs hr hq hd h2 h3;rcases he with he | he
  ·exact t.alive_left hs hr he hT hq hd h2 h3
  ·rcases t.rim _ he with k | k
   ·exact t.alive_left hs hr k hT hq hd h2 h3
   ·obtain ⟨X,hX,c,cX,pX⟩:=t.way_of he;obtain ⟨y,z,k2⟩:=zCf hq;have k3:0≤det b a q:=zG6 k pX (t.cyc_box hX cX.turn.turn) (t.cyc_box hT k2);have e:=zAd a b q;omega
 have nz:∃ q,isCnr T q∧det a b q≠0:=by
  refine jBq fun hn=>?_;have z:∀ q,isCnr T q→det a b q=0:=fun q hq=>jBq fun k=>hn ⟨q,hq,k⟩;have zA:=z T.A (.inl rfl);have zB:=z T.B (.inr (.inl rfl));have zC:=z T.C (.inr (.inr rfl));have e:∀ x:Pt,crd a b ⟨x.x - T.A.x,x.y - T.A.y⟩=det a b x - det a b T.A:=fun x=>by unfold crd det;grind
  exact zJm nab (t.pos T hT) (by rw [e];omega) (by rw [e];omega)
 obtain ⟨q,hq,hd⟩:=nz;by_cases hp:0 < det a b q
 ·exact main he hs hr hq hp h2 h3
 ·refine main he.turn hr hs hq (by have:=zAd a b q;omega) ?_ ?_
  ·rw [zMe,jF3];exact h2
  ·unfold low at *;rw [zMe,jF3 r s,jF3 (r * h b)];exact h3
end
theorem zOb {h:Pt→Int} {p q c d:Pt} (hS:0 < det p q c) (hR:0 < det q p d) (hU:0 < det c p d) (hV:0 < det d q c) (hP:0 < PH h p q c d) {M v:Int} {m:Pt} (hM:0 < M) (m1:0≤det (sc M p) (sc M q) m) (m2:0≤det (sc M q) (sc M c) m) (m3:0≤det (sc M c) (sc M p) m) (hl:P4 (sc M p) (sc M q) (sc M c) m (M * h p) (M * h q) (M * h c) v < 0):((0≤det (sc M c) (sc M p) m∧0≤det (sc M p) (sc M d) m∧0≤det (sc M d) (sc M c) m)∧P4 (sc M c) (sc M p) (sc M d) m (M * h c) (M * h p) (M * h d) v < 0)∨((0≤det (sc M d) (sc M q) m∧0≤det (sc M q) (sc M c) m∧0≤det (sc M c) (sc M d) m)∧P4 (sc M d) (sc M q) (sc M c) m (M * h d) (M * h q) (M * h c) v < 0):=by
 by_cases hd:0≤det (sc M d) (sc M c) m
 ·refine .inl ⟨⟨m3,?_,hd⟩,?_⟩
  ·refine (zAk hS).1 ?_;have e:det p q c * det (sc M p) (sc M d) m=det (sc M c) (sc M p) m * det q p d+det (sc M p) (sc M q) m * det c p d:=by unfold det sc;grind
   rw [e];exact jF7 (jA2 m3 (jAn hR)) (jA2 m1 (jAn hU))
  ·refine (zBf hS).1 ?_;have e:det p q c * P4 (sc M c) (sc M p) (sc M d) m (M * h c) (M * h p) (M * h d) v=det c p d * P4 (sc M p) (sc M q) (sc M c) m (M * h p) (M * h q) (M * h c) v - M * (PH h p q c d * det (sc M c) (sc M p) m):=by
    unfold PH;generalize h p=x
    generalize h q=y
    generalize h c=z
    generalize h d=w
    unfold P4 det sc;grind
   have k1:=(zBf hU).2 hl;have k2:=jA2 (jAn hM) (jA2 (jAn hP) m3);omega
 ·have hd2:0≤det (sc M c) (sc M d) m:=by have:=zAd (sc M d) (sc M c) m;omega
  refine .inr ⟨⟨?_,m2,hd2⟩,?_⟩
  ·refine (zAk hS).1 ?_;have e:det p q c * det (sc M d) (sc M q) m=det (sc M q) (sc M c) m * det q p d+det (sc M p) (sc M q) m * det d q c:=by unfold det sc;grind
   rw [e];exact jF7 (jA2 m2 (jAn hR)) (jA2 m1 (jAn hV))
  ·refine (zBf hS).1 ?_;have e:det p q c * P4 (sc M d) (sc M q) (sc M c) m (M * h d) (M * h q) (M * h c) v=det d q c * P4 (sc M p) (sc M q) (sc M c) m (M * h p) (M * h q) (M * h c) v - M * (PH h p q c d * det (sc M q) (sc M c) m):=by
    unfold PH;generalize h p=x
    generalize h q=y
    generalize h c=z
    generalize h d=w
    unfold P4 det sc;grind
   have k1:=(zBf hV).2 hl;have k2:=jA2 (jAn hM) (jA2 (jAn hP) m2);omega
theorem zOm (h:Pt→Int) (p q c d:Pt):PH h q p d c=PH h p q c d:=by
 unfold PH;generalize h p=x
 generalize h q=y
 generalize h c=z
 generalize h d=w
 unfold det;grind
theorem dead_flip {h:Pt→Int} {L L':List Tri3} {S R U V:Tri3} {p q c d:Pt} (hk:∀ T∈L,T≠S→T≠R→T∈L') (hU:U∈L') (hV:V∈L') (cS:Cyc S p q c) (cR:Cyc R q p d) (cU:Cyc U c p d) (cV:Cyc V d q c) (dS:0 < det p q c) (dR:0 < det q p d) (dU:0 < det c p d) (dV:0 < det d q c) (hP:0 < PH h p q c d) {a b:Pt} (hd:dead h L a b):dead h L' a b:=by
 obtain ⟨s,r,hs,hr,T,hT,h2,h3⟩:=hd;have hM:0 < s+r:=by omega
 by_cases e1:T=S
 ·subst e1;rw [zCi cS] at h2;rw [zFf cS] at h3;rcases zOb dS dR dU dV hP hM h2.1 h2.2.1 h2.2.2 h3 with ⟨k1,k2⟩ | ⟨k1,k2⟩
  ·exact ⟨s,r,hs,hr,U,hU,(zCi cU).2 k1,(zFf cU).2 k2⟩
  ·exact ⟨s,r,hs,hr,V,hV,(zCi cV).2 k1,(zFf cV).2 k2⟩
 ·by_cases e2:T=R
  ·subst e2;rw [zCi cR] at h2;rw [zFf cR] at h3;rcases zOb dR dS dV dU (by rw [zOm];exact hP) hM h2.1 h2.2.1 h2.2.2 h3 with ⟨k1,k2⟩ | ⟨k1,k2⟩
   ·exact ⟨s,r,hs,hr,V,hV,(zCi cV).2 k1,(zFf cV).2 k2⟩
   ·exact ⟨s,r,hs,hr,U,hU,(zCi cU).2 k1,(zFf cU).2 k2⟩
  ·exact ⟨s,r,hs,hr,T,hk T hT e1 e2,h2,h3⟩
theorem det_mid (p q c d:Pt) (s t:Int):det (sc (s+t) d) (sc (s+t) c) (mid p q s t)=(s+t) * (s * det c p d - t * det d q c):=by unfold det sc mid;grind
theorem P4_mid (p q c d:Pt) (s t x y z w:Int):P4 (sc (s+t) c) (sc (s+t) p) (sc (s+t) d) (mid p q s t) ((s+t) * z) ((s+t) * x) ((s+t) * w) (s * x+t * y) = -((s+t) * ((s+t) * (t * P4 p q c d x y z w))):=by unfold P4 det sc mid;grind
theorem dead_new {h:Pt→Int} {L':List Tri3} {U:Tri3} {p q c d:Pt} (hU:U∈L') (cU:Cyc U c p d) (dS:0 < det p q c) (dR:0 < det q p d) (dU:0 < det c p d) (dV:0 < det d q c) (hP:0 < PH h p q c d):dead h L' p q:=by
 have hM:0 < det d q c+det c p d:=by omega
 have g1:∀ s t:Int,det (sc (s+t) c) (sc (s+t) p) (mid p q s t)=(s+t) * (t * det p q c):=fun s t=>by unfold det sc mid;grind
 have g2:∀ s t:Int,det (sc (s+t) p) (sc (s+t) d) (mid p q s t)=(s+t) * (t * det q p d):=fun s t=>by unfold det sc mid;grind
 refine ⟨det d q c,det c p d,dV,dU,U,hU,(zCi cU).2 ⟨?_,?_,?_⟩,(zFf cU).2 ?_⟩
 ·rw [g1];exact jA2 (jAn hM) (jA2 (jAn dU) (jAn dS))
 ·rw [g2];exact jA2 (jAn hM) (jA2 (jAn dU) (jAn dR))
 ·rw [det_mid,jD2 (det d q c) (det c p d),jDg,jAy];exact jE5 _
 ·rw [P4_mid];have hP':0 < P4 p q c d (h p) (h q) (h c) (h d):=hP;have:=jAf hM (jAf hM (jAf dU hP'));omega
end
section
open Go.RowKit Go.Sort
attribute [local go_sem] rOper rAt rUpon cell_set sg_i64 sg_u64 alloc_cell alloc_frozen
attribute [local go_sem 10000] pt_eql pt_neq tri_eql
attribute [local irreducible] rWalk
attribute [local go_sem 10000] run_upto_tri
theorem zKb {w:World} {a:Option Addr} {L:List Tri3} (h:RowAt cT 6 w a L) (k:Nat):RowAt cT 6 w a (L.take k):=fun j x hx=>by
 refine h j x ?_;rw [jBw] at hx;split at hx
 ·exact hx
 ·cases hx
theorem zIh:∀ (L:List Tri3) (E:Es),(takeRun E L).1≤L.length
 | [],_=>jA9 _
 | T :: L,E=>by
  unfold takeRun;split
  ·have:=zIh L (takeT E T);simp only [jAm];omega
  ·exact jAt _
theorem zIo:∀ (L:List Tri3) (E:Es),(putRun E L).1≤L.length
 | [],_=>jA9 _
 | T :: L,E=>by
  unfold putRun;split
  ·have:=zIo L (putT E T);simp only [jAm];omega
  ·exact jAt _
theorem replace_none (mb b:Nat) (E:Es) (a1 a2:Option Addr) (cap1 cap2 n1 n2:Nat) (L1:List Tri3) (hn1:L1.length=n1) (hc1:n1≤cap1) (hm1:n1≤1000000) (hok1:∀ T∈L1,okT T) (h1:(takeRun E L1).1 < n1) (w:World) (Bm:Box w mb [.map (some b)] 81) (Hm:HoldsMap eW eT okW w b E) (Hr1:RowAt cT 6 w a1 L1):Calls prog 132 #[pt0 mb,.slice a1 n1 cap1,.slice a2 n2 cap2] w fun e w'=>e=.returned (.int .i64 16)∧w.grownBy w' (some b)∧HoldsMap eW eT okW w' b (putRun (takeRun E L1).2 (L1.take (takeRun E L1).1)).2:=by
 have c1:=zFp mb b E a1 cap1 n1 L1 (hdd hn1) hm1 hok1;generalize hk:(takeRun E L1).1=k at *
 generalize (takeRun E L1).2=F at *
 have c2:=zGa mb b F a1 cap1 k (L1.take k) (hdd (by rw [jB3];omega)) (by omega) (fun T hT=>hok1 T (jC7 hT));generalize (putRun F (L1.take k)).1=j at *
 generalize hL2:L1.take k=L2 at *
 have HL2:=hdd hL2;generalize (putRun F L2).2=G at *
 have d1:decide ((k:Int) < (n1:Int))=true:=by simp;omega
 have d2:(k:Int) < (n1:Int):=by omega
 have hkc:k≤cap1:=by omega
 clear hok1 hn1 hL2 hk
 go_enter func132,ntmps132
 go_wp2_with fail;refine (c1 _ Bm Hm Hr1).mono ?_;rintro e w1 ⟨rfl,hg,H1⟩;replace Bm:=Bm.turn Hm hg;have Hr2:=zKb (Hr1.turn cT_ne Hm hg) k;rw [HL2.out] at Hr2;clear Hm Hr1 c1 HL2;go_wp2_with fail;refine (c2 _ Bm H1 Hr2).mono ?_;rintro e w2 ⟨rfl,hh,H2⟩;replace hg:=zAa hg hh;clear hh;go_wp2
 go_ret
 exact ⟨rfl,hg,H2⟩
theorem replace_bad (mb b:Nat) (E:Es) (a1 a2:Option Addr) (cap1 cap2 n1 n2:Nat) (L1 L2:List Tri3) (hn1:L1.length=n1) (hm1:n1≤1000000) (hok1:∀ T∈L1,okT T) (hn2:L2.length=n2) (hc2:n2≤cap2) (hm2:n2≤1000000) (hok2:∀ T∈L2,okT T) (h1:(takeRun E L1).1=n1) (h2:(putRun (takeRun E L1).2 L2).1 < n2) (w:World) (Bm:Box w mb [.map (some b)] 81) (Hm:HoldsMap eW eT okW w b E) (Hr1:RowAt cT 6 w a1 L1) (Hr2:RowAt cT 6 w a2 L2):Calls prog 132 #[pt0 mb,.slice a1 n1 cap1,.slice a2 n2 cap2] w fun e w'=>e=.returned (.int .i64 2)∧w.grownBy w' (some b)∧HoldsMap eW eT okW w' b (putRun (takeRun (putRun (takeRun E L1).2 L2).2 (L2.take (putRun (takeRun E L1).2 L2).1)).2 L1).2:=by
 have c1:=zFp mb b E a1 cap1 n1 L1 (hdd hn1) hm1 hok1;rw [h1] at c1;generalize (takeRun E L1).2=F at *
 have c2:=zGa mb b F a2 cap2 n2 L2 (hdd hn2) hm2 hok2;generalize (putRun F L2).1=k at *
 generalize (putRun F L2).2=G at *
 have c3:=zFp mb b G a2 cap2 k (L2.take k) (hdd (by rw [jB3];omega)) (by omega) (fun T hT=>hok2 T (jC7 hT));generalize hL3:L2.take k=L3 at *
 have HL3:=hdd hL3;generalize (takeRun G L3).1=j3 at *
 generalize (takeRun G L3).2=G3 at *
 have c4:=zGa mb b G3 a1 cap1 n1 L1 (hdd hn1) hm1 hok1;generalize (putRun G3 L1).1=j4 at *
 generalize (putRun G3 L1).2=G4 at *
 have d0:decide ((n1:Int) < (n1:Int))=false:=by simp
 have d1:decide ((k:Int) < (n2:Int))=true:=by simp;omega
 have d2:(k:Int) < (n2:Int):=by omega
 have hkc:k≤cap2:=by omega
 clear hok1 hok2 hn1 hn2 hL3 h1
 go_enter func132,ntmps132
 go_wp2_with fail;refine (c1 _ Bm Hm Hr1).mono ?_;rintro e w1 ⟨rfl,hg,H1⟩;replace Bm:=Bm.turn Hm hg;replace Hr1:=Hr1.turn cT_ne Hm hg;replace Hr2:=Hr2.turn cT_ne Hm hg;clear Hm c1;go_wp2_with fail;refine (c2 _ Bm H1 Hr2).mono ?_;rintro e w2 ⟨rfl,hh,H2⟩;replace hg:=zAa hg hh;replace Bm:=Bm.turn H1 hh;replace Hr1:=Hr1.turn cT_ne H1 hh;have Hr3:=zKb (Hr2.turn cT_ne H1 hh) k;rw [HL3.out] at Hr3;clear hh H1 c2 Hr2 HL3;go_wp2_with fail;refine (c3 _ Bm H2 Hr3).mono ?_;rintro e w3 ⟨rfl,hh,H3⟩;replace hg:=zAa hg hh;replace Bm:=Bm.turn H2 hh;replace Hr1:=Hr1.turn cT_ne H2 hh;clear hh H2 c3 Hr3;go_wp2_with fail;refine (c4 _ Bm H3 Hr1).mono ?_;rintro e w4 ⟨rfl,hh,H4⟩;replace hg:=zAa hg hh;clear hh;go_wp2
 go_ret
 exact ⟨rfl,hg,H4⟩
end
section
open Go.RowKit
theorem Good.takeUp:∀ {L1:List Tri3} {E:Es} {L:List Tri3},Good E L→∃ M,L.Perm (L1.take (takeRun E L1).1 ++ M)∧Good (takeRun E L1).2 M
 | [],E,L,h=>⟨L,by simp,h⟩
 | T :: L1,E,L,h=>by
  unfold takeRun;by_cases hh:hasE E T=true
  ·rw [jAc hh];have hm:=h.has.1 hh;obtain ⟨M0,hM0⟩:∃ M0,L.Perm (T :: M0):=⟨L.erase T,jEs hm⟩;obtain ⟨_,h2⟩:=Good.take (h.order hM0);obtain ⟨M,p,g⟩:=Good.takeUp (L1:=L1) h2;exact ⟨M,by simp only [jBf,jB9];exact hM0.trans (p.cons T),g⟩
  ·rw [jA0 hh];exact ⟨L,by simp,h⟩
theorem fits_free {E:Es} {M:List Tri3} (h:Good E M) {T:Tri3} (hf:fitsE E T=true):valT T=true∧∀ w∈ways T,w ∉ M.flatMap ways:=by
 obtain ⟨h1,h2,h3,hv⟩:=zJ2 hf;refine ⟨hv,fun w hw=>?_⟩;simp only [ways,jA1,jA6,jAw] at hw;rcases hw with rfl | rfl | rfl
 ·exact h.get_none.1 h1
 ·exact h.get_none.1 h2
 ·exact h.get_none.1 h3
theorem Good.putUp:∀ {L2:List Tri3} {E:Es} {M:List Tri3},Good E M→Good (putRun E L2).2 (L2.take (putRun E L2).1 ++ M)
 | [],E,M,h=>by simpa [putRun] using h
 | T :: L2,E,M,h=>by
  unfold putRun;by_cases hh:fitsE E T=true
  ·rw [jAc hh];obtain ⟨hv,hn⟩:=fits_free h hh;have h2:=(Good.put h hv hn).2;have:=Good.putUp (L2:=L2) h2;simp only [jBf,jB9];exact this.order jC2
  ·rw [jA0 hh]
   simpa using h
def Repl (E:Es) (L L1 L2:List Tri3) (r:Int) (L':List Tri3):Prop:=
 (r=16∧(takeRun E L1).1 < L1.length∧L'.Perm L) ∨
 (r=2∧(takeRun E L1).1=L1.length∧(putRun (takeRun E L1).2 L2).1 < L2.length∧L'.Perm L) ∨
 (r=0∧(takeRun E L1).1=L1.length∧(putRun (takeRun E L1).2 L2).1=L2.length∧∃ M,L.Perm (L1 ++ M)∧L'.Perm (L2 ++ M))
theorem mreplace_any (mb b:Nat) (E:Es) (L:List Tri3) (g:Good E L) (a1 a2:Option Addr) (cap1 cap2 n1 n2:Nat) (L1 L2:List Tri3) (hn1:L1.length=n1) (hc1:n1≤cap1) (hm1:n1≤1000000) (hok1:∀ T∈L1,okT T) (hn2:L2.length=n2) (hc2:n2≤cap2) (hm2:n2≤1000000) (hok2:∀ T∈L2,okT T) (w:World) (Bm:Box w mb [.map (some b)] 81) (Hm:HoldsMap eW eT okW w b E) (Hr1:RowAt cT 6 w a1 L1) (Hr2:RowAt cT 6 w a2 L2):Calls prog 132 #[pt0 mb,.slice a1 n1 cap1,.slice a2 n2 cap2] w fun e w'=>∃ r E' L',e=.returned (.int .i64 r)∧w.grownBy w' (some b)∧HoldsMap eW eT okW w' b E'∧Good E' L'∧Repl E L L1 L2 r L':=by
 obtain ⟨M,pM,gM⟩:=Good.takeUp (L1:=L1) g;have tl:=zIh L1 E;by_cases h1:(takeRun E L1).1=n1
 ·have e1:L1.take (takeRun E L1).1=L1:=jAe (by omega);rw [e1] at pM;have pl:=zIo L2 (takeRun E L1).2;have gG:=Good.putUp (L2:=L2) gM;by_cases h2:(putRun (takeRun E L1).2 L2).1=n2
  ·have e2:L2.take (putRun (takeRun E L1).2 L2).1=L2:=jAe (by omega);rw [e2] at gG;refine (replace_ok mb b E a1 a2 cap1 cap2 n1 n2 L1 L2 (hdd hn1) hm1 hok1 (hdd hn2) hm2 hok2 h1 h2 w Bm Hm Hr1 Hr2).mono ?_;rintro e w' ⟨rfl,hg,H'⟩;exact ⟨0,_,_,rfl,hg,H',gG,.inr (.inr ⟨rfl,by omega,by omega,M,pM,.refl _⟩)⟩
  ·refine (replace_bad mb b E a1 a2 cap1 cap2 n1 n2 L1 L2 hn1 hm1 hok1 hn2 hc2 hm2 hok2 h1 (by omega) w Bm Hm Hr1 Hr2).mono ?_;rintro e w' ⟨rfl,hg,H'⟩;have g3:=(Good.takes (F:=L2.take (putRun (takeRun E L1).2 L2).1) (M:=M) gG).2;have n4:((L1 ++ M).flatMap ways).Nodup:=(flat_perm pM).nodup_iff.1 g.once;have g4:=(Good.puts (I:=L1) (M:=M) g3 (fun T hT=>g.val T (pM.mem_iff.2 (by simp [hT]))) n4).2;exact ⟨2,_,_,rfl,hg,H',g4,.inr (.inl ⟨rfl,by omega,by omega,pM.symm⟩)⟩
 ·refine (replace_none mb b E a1 a2 cap1 cap2 n1 n2 L1 hn1 hc1 hm1 hok1 (by omega) w Bm Hm Hr1).mono ?_;rintro e w' ⟨rfl,hg,H'⟩;have n4:((L1.take (takeRun E L1).1 ++ M).flatMap ways).Nodup:=(flat_perm pM).nodup_iff.1 g.once;have g4:=(Good.puts (I:=L1.take (takeRun E L1).1) (M:=M) gM (fun T hT=>g.val T (pM.mem_iff.2 (by simp [hT]))) n4).2;exact ⟨16,_,_,rfl,hg,H',g4,.inl ⟨rfl,by omega,pM.symm⟩⟩
end
section
open Go.RowKit Go.Sort
attribute [local go_sem] rOper rAt rUpon cell_set sg_i64 sg_u64 alloc_cell alloc_frozen
attribute [local go_sem 10000] pt_eql pt_neq tri_eql
attribute [local irreducible] rWalk
theorem flip_g (mb b:Nat) (E:Es) (p q:Pt) (hk:okW (p,q)) (L:List Tri3) (g:Good E L) (S R U V:Tri3) (C D:Pt) (h0:getE E (p,q)=some S) (h1:getE E (q,p)=some R) (hC:apx S p q=C) (hD:apx R p q=D) (hm:meetS p q C D=1) (hU:mk C p D=U) (hV:mk D q C=V) (hS:okT S) (hR:okT R) (hu:okT U) (hv:okT V) (w:World) (Bm:Box w mb [.map (some b)] 81) (Hm:HoldsMap eW eT okW w b E):Calls prog 90 #[pt0 mb,p,q] w fun e w'=>∃ r E' L',e=.returned (.int .i64 r)∧w.grownBy w' (some b)∧HoldsMap eW eT okW w' b E'∧Good E' L'∧Repl E L [S,R] [U,V] r L':=by
 have cl:=zJt mb b E p q S h0 hk;have cr:=zJt mb b E q p R h1 ⟨hk.2,hk.1⟩;clear h0 h1;have ca:=zF9 S p q;have cb:=zF9 R p q;have cm:=zHv p q C D;have cu:=zK3 C p D;have cv:=zK3 D q C;rw [hU] at cu;rw [hV] at cv;rw [hC] at ca;rw [hD] at cb;rw [hm] at cm;have cp:=fun a1 a2 w B H R1 R2=>mreplace_any mb b E L g a1 a2 2 2 2 2 [S,R] [U,V] rfl (by decide) (by decide) (by simpa using And.intro hS hR) rfl (by decide) (by decide) (by simpa using And.intro hu hv) w B H R1 R2;have HGG:=hdd g;clear hU hV hC hD hm hS hR hu hv g
 go_enter func90,ntmps90
 go_wp2_with fail;refine qE2 fun W1 Bp Bq hw=>?_;refine qC2 (cl _ (Bm.ee hw) (Hm.ee hw)) Bp Bq hw fun w2 Bp Bq hw F_pq=>?_;go_wp2_with fail;clear F_pq;refine zA4 fun W3 hW=>?_;obtain ⟨bks,hbs⟩:∃ b,w2.heap.size=b:=⟨_,rfl⟩;rw [hbs];obtain ⟨lps,lqs,fs,Bs,Bp,Bq,hw⟩:=qM2 hW hbs Bp Bq hw;clear hW hbs;refine qC3 (cr _ (Bm.ee hw) (Hm.ee hw)) Bp Bq Bs hw fun w4 Bp Bq Bs hw F_pqs=>?_;go_wp2_with fail;clear F_pqs;refine zA1 fun W5 hW=>?_;obtain ⟨bkr,hbr⟩:∃ b,w4.heap.size=b:=⟨_,rfl⟩;rw [hbr];obtain ⟨lpr,lqr,lsr,fr,Br,Bp,Bq,Bs,hw⟩:=qM3 hW hbr Bp Bq Bs hw;clear hW hbr;have g_pqsr:=J4 Bp.cells Bq.cells Bs.cells Br.cells;refine zAq 10 [⟨8,10,54,[(),()]⟩,⟨9,11,54,[(),()]⟩] ?_ (by kernel_rfl) (by decide) (by decide) (by kernel_rfl) (by decide) (C:=fun w'=>∃ p:Regrown,w'=grow (redrawn W5 p.d) p.os) rgB ?_
 ·simp only [jBt];refine ⟨⟨_,rfl,rfl,rfl,rfl,fun ρ W=>by simp [execOp,go_sem]⟩,⟨_,rfl,rfl,rfl,rfl,fun ρ W=>by simp [execOp,go_sem]⟩,fun _ h=>(by cases h)⟩
 simp only [jBf,jCg,jAv,jD0,dropIdx,jC4,jC8,Nat.reduceBEq,Nat.reduceAdd,jCz,jD7,jD8,jBb,jDs,jDf];refine wkx ?_;intro w6 β hL;simp only [putD,jBy,jC0];have qc:=hL.box ⟨8,10,54,[(),()]⟩ (by simp) (by simp);simp only at qc;have qd:=hL.box ⟨9,11,54,[(),()]⟩ (by simp) (by simp);simp only at qd;have ncd:=hL.apart 10 (by simp) 11 (by simp) (by decide);have ndc:=hL.apart 11 (by simp) 10 (by simp) (by decide);have hb:=hL.below;have lp:=Bp.lt;have lq:=Bq.lt;have ls:=Bs.lt;have lr:=Br.lt;clear g_pqsr;replace Bp:=Bp.ee hb;replace Bq:=Bq.ee hb;replace Bs:=Bs.ee hb;replace Br:=Br.ee hb;have hw0:=hw.size;replace hw:=upB hw hb;clear hb hL;generalize β 10=bkc at *
 generalize β 11=bkd at *
 clear β;obtain ⟨fc,Bc⟩:=qc;obtain ⟨fd,Bd⟩:=qd;simp only [Act.put];have Fc:=Bc.f;have Fd:=Bd.f;have Fp:=Bp.f;have Fq:=Bq.f;have Fs:=Bs.f;have Fr:=Br.f;have epbkc:(w.heap.size=bkc)=False:=by simp;omega
 have epbkc':(bkc=w.heap.size)=False:=by simp;omega
 have epbkd:(w.heap.size=bkd)=False:=by simp;omega
 have epbkd':(bkd=w.heap.size)=False:=by simp;omega
 have eqbkc:(w.heap.size+1=bkc)=False:=by simp;omega
 have eqbkc':(bkc=w.heap.size+1)=False:=by simp;omega
 have eqbkd:(w.heap.size+1=bkd)=False:=by simp;omega
 have eqbkd':(bkd=w.heap.size+1)=False:=by simp;omega
 have esbkc:(bks=bkc)=False:=by simp;omega
 have esbkc':(bkc=bks)=False:=by simp;omega
 have esbkd:(bks=bkd)=False:=by simp;omega
 have esbkd':(bkd=bks)=False:=by simp;omega
 have erbkc:(bkr=bkc)=False:=by simp;omega
 have erbkc':(bkc=bkr)=False:=by simp;omega
 have erbkd:(bkr=bkd)=False:=by simp;omega
 have erbkd':(bkd=bkr)=False:=by simp;omega
 have ebkcbkd:(bkc=bkd)=False:=by simp;omega
 have ebkdbkc:(bkd=bkc)=False:=by simp;omega
 go_wp2_with fail;refine zA4 fun W7 hW=>?_;replace Bp:=sto Bp hW;replace Bq:=sto Bq hW;replace Bs:=sto Bs hW;replace Br:=sto Br hW;replace Bc:=sto Bc hW;replace Bd:=sto Bd hW;replace hw:=stw hw hW;clear Fc Fd;clear Fp Fq Fs Fr epbkc epbkc' epbkd epbkd' eqbkc eqbkc' eqbkd eqbkd' esbkc esbkc' esbkd esbkd' erbkc erbkc' erbkd erbkd' ebkcbkd ebkdbkc;clear hW;refine qK6 (cm _) Bp Bq Bs Br Bc Bd hw fun w8 Bp Bq Bs Br Bc Bd hw=>?_;have Fp:=Bp.f;have Fq:=Bq.f;have Fs:=Bs.f;have Fr:=Br.f;have Fc:=Bc.f;have Fd:=Bd.f;go_wp2_with fail;clear Fp Fq Fs Fr Fc Fd;refine qC6 (cu _) Bp Bq Bs Br Bc Bd hw fun w9 Bp Bq Bs Br Bc Bd hw F_pqsrcd=>?_;go_wp2_with fail;clear F_pqsrcd;refine zA4 fun W10 hW=>?_;obtain ⟨bku,hbu⟩:∃ b,w9.heap.size=b:=⟨_,rfl⟩;rw [hbu];obtain ⟨lpu,lqu,lsu,lru,lcu,ldu,fu,Bu,Bp,Bq,Bs,Br,Bc,Bd,hw⟩:=qM6 hW hbu Bp Bq Bs Br Bc Bd hw;clear hW hbu;refine qK7 (cv _) Bp Bq Bs Br Bc Bd Bu hw fun w11 Bp Bq Bs Br Bc Bd Bu hw=>?_;have Fp:=Bp.f;have Fq:=Bq.f;have Fs:=Bs.f;have Fr:=Br.f;have Fc:=Bc.f;have Fd:=Bd.f;have Fu:=Bu.f;have es4:(bks=w11.heap.size+1)=False:=by have:=Bs.lt;simp;omega
 have es8:(bks=w11.heap.size+1+1)=False:=by have:=Bs.lt;simp;omega
 have er4:(bkr=w11.heap.size+1)=False:=by have:=Br.lt;simp;omega
 have er8:(bkr=w11.heap.size+1+1)=False:=by have:=Br.lt;simp;omega
 have eu4:(bku=w11.heap.size+1)=False:=by have:=Bu.lt;simp;omega
 have eu8:(bku=w11.heap.size+1+1)=False:=by have:=Bu.lt;simp;omega
 go_wp2_with fail;have row:∀ {w:World} {g:Nat} {X Y:Tri3},Box w g (cT X ++ cT Y) 56→RowAt cT 6 w (some ⟨g,0,none⟩) [X,Y]:=fun {w g X Y} h=>zEz (S:=[X,Y]) (by simpa using h);refine zA4 fun W12 hW=>?_;have R1:RowAt cT 6 W12 (some ⟨w11+1,0,none⟩) [S,R]:=row (by rw [hW];exact (Box.new (by simp)).old _);have R2:RowAt cT 6 W12 (some ⟨w11+1+1,0,none⟩) [U,V]:=row (by rw [hW];exact Box.new (by simp));replace hw:Below w w W12:=by have hl:=hw.size;rw [hW];go_grown
 clear hW row;have hlt:=Hm.lt;refine (cp _ _ _ (Bm.ee hw) (Hm.ee hw) R1 R2).mono ?_;rintro e w13 ⟨r,E9,L9,rfl,hg,H2,G2,R9⟩;replace hg:=below_then hw hg;clear Fp Fq Fs Fr Fc Fd Fu;go_wp2
 go_ret
 exact ⟨r,E9,L9,rfl,hg,H2,G2,R9⟩
theorem flip_m (mb b:Nat) (E:Es) (p q:Pt) (hk:okW (p,q)) (S R:Tri3) (C D:Pt) (h0:getE E (p,q)=some S) (h1:getE E (q,p)=some R) (hC:apx S p q=C) (hD:apx R p q=D) (hm:¬ meetS p q C D=1) (w:World) (Bm:Box w mb [.map (some b)] 81) (Hm:HoldsMap eW eT okW w b E):Calls prog 90 #[pt0 mb,p,q] w (Rt w (.int .i64 2)):=by
 have cl:=zJt mb b E p q S h0 hk;have cr:=zJt mb b E q p R h1 ⟨hk.2,hk.1⟩;clear h0 h1;have ca:=zF9 S p q;have cb:=zF9 R p q;have cm:=zHv p q C D;rw [hC] at ca;rw [hD] at cb;generalize meetS p q C D=z at *
 have hz:(z != 1)=true:=by simpa using hm
 clear hC hD
 go_enter func90,ntmps90
 go_wp2_with fail;refine qE2 fun W1 Bp Bq hw=>?_;refine qC2 (cl _ (Bm.ee hw) (Hm.ee hw)) Bp Bq hw fun w2 Bp Bq hw F_pq=>?_;go_wp2_with fail;clear F_pq;refine zA4 fun W3 hW=>?_;obtain ⟨bks,hbs⟩:∃ b,w2.heap.size=b:=⟨_,rfl⟩;rw [hbs];obtain ⟨lps,lqs,fs,Bs,Bp,Bq,hw⟩:=qM2 hW hbs Bp Bq hw;clear hW hbs;refine qC3 (cr _ (Bm.ee hw) (Hm.ee hw)) Bp Bq Bs hw fun w4 Bp Bq Bs hw F_pqs=>?_;go_wp2_with fail;clear F_pqs;refine zA1 fun W5 hW=>?_;obtain ⟨bkr,hbr⟩:∃ b,w4.heap.size=b:=⟨_,rfl⟩;rw [hbr];obtain ⟨lpr,lqr,lsr,fr,Br,Bp,Bq,Bs,hw⟩:=qM3 hW hbr Bp Bq Bs hw;clear hW hbr;have g_pqsr:=J4 Bp.cells Bq.cells Bs.cells Br.cells;refine zAq 10 [⟨8,10,54,[(),()]⟩,⟨9,11,54,[(),()]⟩] ?_ (by kernel_rfl) (by decide) (by decide) (by kernel_rfl) (by decide) (C:=fun w'=>∃ p:Regrown,w'=grow (redrawn W5 p.d) p.os) rgB ?_
 ·simp only [jBt];refine ⟨⟨_,rfl,rfl,rfl,rfl,fun ρ W=>by simp [execOp,go_sem]⟩,⟨_,rfl,rfl,rfl,rfl,fun ρ W=>by simp [execOp,go_sem]⟩,fun _ h=>(by cases h)⟩
 simp only [jBf,jCg,jAv,jD0,dropIdx,jC4,jC8,Nat.reduceBEq,Nat.reduceAdd,jCz,jD7,jD8,jBb,jDs,jDf];refine wkx ?_;intro w6 β hL;simp only [putD,jBy,jC0];have qc:=hL.box ⟨8,10,54,[(),()]⟩ (by simp) (by simp);simp only at qc;have qd:=hL.box ⟨9,11,54,[(),()]⟩ (by simp) (by simp);simp only at qd;have ncd:=hL.apart 10 (by simp) 11 (by simp) (by decide);have ndc:=hL.apart 11 (by simp) 10 (by simp) (by decide);have hb:=hL.below;have lp:=Bp.lt;have lq:=Bq.lt;have ls:=Bs.lt;have lr:=Br.lt;clear g_pqsr;replace Bp:=Bp.ee hb;replace Bq:=Bq.ee hb;replace Bs:=Bs.ee hb;replace Br:=Br.ee hb;have hw0:=hw.size;replace hw:=upB hw hb;clear hb hL;generalize β 10=bkc at *
 generalize β 11=bkd at *
 clear β;obtain ⟨fc,Bc⟩:=qc;obtain ⟨fd,Bd⟩:=qd;simp only [Act.put];have Fc:=Bc.f;have Fd:=Bd.f;have Fp:=Bp.f;have Fq:=Bq.f;have Fs:=Bs.f;have Fr:=Br.f;have epbkc:(w.heap.size=bkc)=False:=by simp;omega
 have epbkc':(bkc=w.heap.size)=False:=by simp;omega
 have epbkd:(w.heap.size=bkd)=False:=by simp;omega
 have epbkd':(bkd=w.heap.size)=False:=by simp;omega
 have eqbkc:(w.heap.size+1=bkc)=False:=by simp;omega
 have eqbkc':(bkc=w.heap.size+1)=False:=by simp;omega
 have eqbkd:(w.heap.size+1=bkd)=False:=by simp;omega
 have eqbkd':(bkd=w.heap.size+1)=False:=by simp;omega
 have esbkc:(bks=bkc)=False:=by simp;omega
 have esbkc':(bkc=bks)=False:=by simp;omega
 have esbkd:(bks=bkd)=False:=by simp;omega
 have esbkd':(bkd=bks)=False:=by simp;omega
 have erbkc:(bkr=bkc)=False:=by simp;omega
 have erbkc':(bkc=bkr)=False:=by simp;omega
 have erbkd:(bkr=bkd)=False:=by simp;omega
 have erbkd':(bkd=bkr)=False:=by simp;omega
 have ebkcbkd:(bkc=bkd)=False:=by simp;omega
 have ebkdbkc:(bkd=bkc)=False:=by simp;omega
 go_wp2_with fail;refine zA4 fun W7 hW=>?_;replace Bp:=sto Bp hW;replace Bq:=sto Bq hW;replace Bs:=sto Bs hW;replace Br:=sto Br hW;replace Bc:=sto Bc hW;replace Bd:=sto Bd hW;replace hw:=stw hw hW;clear Fc Fd;clear Fp Fq Fs Fr epbkc epbkc' epbkd epbkd' eqbkc eqbkc' eqbkd eqbkd' esbkc esbkc' esbkd esbkd' erbkc erbkc' erbkd erbkd' ebkcbkd ebkdbkc;clear hW;refine qK6 (cm _) Bp Bq Bs Br Bc Bd hw fun w8 Bp Bq Bs Br Bc Bd hw=>?_;have Fp:=Bp.f;have Fq:=Bq.f;have Fs:=Bs.f;have Fr:=Br.f;have Fc:=Bc.f;have Fd:=Bd.f;go_wp2
 go_ret
 exact ⟨rfl,by have hl:=hw.size;go_grown⟩
end
section
open Go.RowKit
theorem mk_okT (a b c:Pt):okT (mk a b c):=by
 by_cases h:ori a b c=0
 ·rw [zKp h];have z:vld (⟨0,0⟩:Pt)=true:=by decide
  exact ⟨zBj z,zBj z,zBj z⟩
 ·exact zB7 (mk_ok h).1
def FlipC (E:Es) (L:List Tri3) (p q:Pt) (r:Int) (L':List Tri3):Prop:=
 (r=16∧(getE E (p,q)=none∨getE E (q,p)=none)∧L'.Perm L) ∨
 (∃ S R,getE E (p,q)=some S∧getE E (q,p)=some R ∧
  ((meetS p q (apx S p q) (apx R p q)≠1∧r=2∧L'.Perm L) ∨
   (meetS p q (apx S p q) (apx R p q)=1∧Repl E L [S,R] [mk (apx S p q) p (apx R p q),mk (apx R p q) q (apx S p q)] r L')))
theorem mflip_any (mb b:Nat) (E:Es) (L:List Tri3) (g:Good E L) (p q:Pt) (hk:okW (p,q)) (w:World) (Bm:Box w mb [.map (some b)] 81) (Hm:HoldsMap eW eT okW w b E):Calls prog 90 #[pt0 mb,p,q] w fun e w'=>∃ r E' L',e=.returned (.int .i64 r)∧w.grownBy w' (some b)∧HoldsMap eW eT okW w' b E'∧Good E' L'∧FlipC E L p q r L':=by
 cases h0:getE E (p,q) with
 | none=>
  refine (flip_n0 mb b E p q hk h0 w Bm Hm).mono ?_;rintro e w' ⟨rfl,hb⟩;exact ⟨16,E,L,rfl,zA6 hb _,Hm.ee hb,g,.inl ⟨rfl,.inl h0,.refl _⟩⟩
 | some S=>
  cases h1:getE E (q,p) with
  | none=>
   refine (flip_n1 mb b E p q hk S h0 h1 w Bm Hm).mono ?_;rintro e w' ⟨rfl,hb⟩;exact ⟨16,E,L,rfl,zA6 hb _,Hm.ee hb,g,.inl ⟨rfl,.inr h1,.refl _⟩⟩
  | some R=>
   have hS:=zB7 (g.val _ (g.get.1 h0).1);have hR:=zB7 (g.val _ (g.get.1 h1).1);by_cases hm:meetS p q (apx S p q) (apx R p q)=1
   ·refine (flip_g mb b E p q hk L g S R _ _ _ _ h0 h1 rfl rfl hm rfl rfl hS hR (mk_okT _ _ _) (mk_okT _ _ _) w Bm Hm).mono ?_;rintro e w' ⟨r,E',L',rfl,hg,H',g',hr⟩;exact ⟨r,E',L',rfl,hg,H',g',.inr ⟨S,R,h0,h1,.inr ⟨hm,hr⟩⟩⟩
   ·refine (flip_m mb b E p q hk S R _ _ h0 h1 rfl rfl hm w Bm Hm).mono ?_;rintro e w' ⟨rfl,hb⟩;exact ⟨2,E,L,rfl,zA6 hb _,Hm.ee hb,g,.inr ⟨S,R,h0,h1,.inl ⟨hm,rfl,.refl _⟩⟩⟩
end
end Go.Proofs.YtogffkimgmlilaaGreat
