import Derived.Test.YthhcehmmglmlfaaGreatPgo6
import Derived.Lib.SliceRun
import Derived.Deep.LoopGhost
set_option maxRecDepth 100000
set_option maxHeartbeats 8000000
set_option linter.all false
namespace Go.Proofs.YthhcehmmglmlfaaGreat
open _root_.Go.Proofs.Tryz
section
open Go.RowKit
def PH (h:Pt->Int) (a b c d:Pt):Int:=det d b c * h a+det a d c * h b+det a b d * h c - det a b c * h d
theorem PH_cyc (h:Pt->Int) (a b c d:Pt):PH h b c a d=PH h a b c d:=by
 unfold PH;have e1:det d c a=det a d c:=by unfold det;grind
 have e2:det b d a=det a b d:=by unfold det;grind
 have e3:det b c d=det d b c:=by unfold det;grind
 have e4:det b c a=det a b c:=by unfold det;grind
 rw [e1,e2,e3,e4];omega
theorem PH_lft (a b c d:Pt):PH (λp=>p.x * p.x+p.y * p.y) a b c d=lft a b c d:=by unfold PH lft ht cr way det;grind
theorem wgt_ex:∃ (w:Pt->Int) (M:Int),(∀ p,vld p=true->0 < w p/\w p<=M)/\∀ p q,vld p=true->vld q=true->key p < key q->2251799545249801 * w q<=w p:=by
 have gen:∀ (B:Nat) (C N:Int),(B:Int)=C->0 < B->(∀ p,vld p=true->0<=key p/\key p<=N)->∃ (w:Pt->Int) (M:Int),(∀ p,vld p=true->0 < w p/\w p<=M)/\∀ p q,vld p=true->vld q=true->key p < key q->C * w q<=w p:=by
  intro B C N hC hB hN;refine ⟨λp=>((B ^ (N - key p).toNat:Nat):Int),((B ^ N.toNat:Nat):Int),λp hp=>?_,λp q hp hq hk=>?_⟩
  ·have h1:0 < B ^ (N - key p).toNat:=Nat.pow_pos hB;have h2:B ^ (N - key p).toNat<=B ^ N.toNat:=Nat.pow_le_pow_right hB (by have:=hN p hp;omega);refine ⟨?_,?_⟩
   ·show (0:Int) < ((B ^ (N - key p).toNat:Nat):Int);omega
   ·show ((B ^ (N - key p).toNat:Nat):Int)<=((B ^ N.toNat:Nat):Int);omega
  ·have:=hN q hq;have:=hN p hp;have e:(N - key p).toNat=((N - key q).toNat+1)+((N - key p).toNat - ((N - key q).toNat+1)):=by omega
   have h1:B ^ ((N - key q).toNat+1)<=B ^ (N - key p).toNat:=Nat.pow_le_pow_right hB (by omega);rw [Nat.pow_succ,Vv] at h1;show C * ((B ^ (N - key q).toNat:Nat):Int)<=((B ^ (N - key p).toNat:Nat):Int);rw [<-hC]
   exact_mod_cast h1
 exact gen 2251799545249801 2251799545249801 281474976710656 (by omega) (by omega) (λp hp=>by rw [zh] at hp;unfold key;omega)
theorem ky {u w D:Int} (h1 : -D<=u) (h2:u<=D) (hw:0<=w) : -(D * w)<=u * w/\u * w<=D * w:=by
 have e1:=Jx h2 hw;have e2:=Jx h1 hw;rw [Vk] at e2;exact ⟨e2,e1⟩
structure Hts (h:Pt->Int):Prop where
 nn:∀ p,vld p=true->0<=h p
 sign:∀ a b c d,vld a=true->vld b=true->vld c=true->vld d=true->0 < det a b c->d≠a->d≠b->d≠c->(circ a b c d=1/\0 < PH h a b c d/\0<=lft a b c d)\/(circ a b c d = -1/\PH h a b c d < 0)
theorem tie_main {w:Pt->Int} (hp:∀ p,vld p=true->0 < w p) (hw:∀ p q,vld p=true->vld q=true->key p < key q->2251799545249801 * w q<=w p) {a b c d:Pt} (ha:vld a) (hb:vld b) (hc:vld c) (hd:vld d) (hD:0 < det a b c) (e1:d≠a) (e2:d≠b) (e3:d≠c) (hl:lft a b c d=0):(circ a b c d=1/\PH w a b c d < 0)\/(circ a b c d = -1/\0 < PH w a b c d):=by
 obtain ⟨n1,n2,n3⟩:=zQ hD;have h0:¬ ori a b c=0:=by rw [ori_v ha hb hc,yZ];omega
 rw [yx h0 hd e1 e2 e3,J0 (by rw [hl];simp [sgn])];have hk:=qJ ha hb hc hd;have k1:∀ p q:Pt,vld p=true->vld q=true->p≠q->key p≠key q:=λp q hp hq hn h=>hn (yj hp hq h);have b0:=tb ha hb hc;have b1:=tb hd hb hc;have b2:=tb ha hd hc;have b3:=tb ha hb hd;have t1:det d b c≠0:=ki hl (by omega) e2 e3;have t2:det a d c≠0:=by
  have:=ki (a:=b) (b:=c) (c:=a) (d:=d) (by rw [jZ];exact hl) (by rw [zX];omega) e3 e1
  rwa [<-zX a d c]
 have t3:det a b d≠0:=by
  have:=ki (a:=c) (b:=a) (c:=b) (d:=d) (by rw [jZ b c a,jZ];exact hl) (by rw [zX b c a,zX];omega) e1 e2
  rwa [<-zX a b d,<-zX b d a]
 have pa:=hp a ha;have pb:=hp b hb;have pc:=hp c hc;have pd:=hp d hd;have q1:=ky b1.1 b1.2 (Jb pa);have q2:=ky b2.1 b2.2 (Jb pb);have q3:=ky b3.1 b3.2 (Jb pc);have q4:=ky b0.1 b0.2 (Jb pd);have one:∀ (u x:Int),u≠0->0 < x->(0 < u/\x<=u * x)\/(u < 0/\u * x <= -x):=by
  intro u x hu hx;rcases Int.lt_or_gt_of_ne hu with k | k
  ·right
   have:=JD (a := -1 - u) (b:=x) (by omega) (by omega);rw [Vl] at this;exact ⟨k,by omega⟩
  ·left
   have:=JD (a:=u - 1) (b:=x) (by omega) (by omega);rw [Vl] at this;exact ⟨k,by omega⟩
 unfold PH tie;rcases X0 a b c d with m | m | m | m
 ·rw [m] at hk;have x1:=hw a b ha hb (by have:=k1 a b ha hb n1;omega);have x2:=hw a c ha hc (by have:=k1 a c ha hc n3.symm;omega);have x3:=hw a d ha hd (by have:=k1 a d ha hd e1.symm;omega);rw [m,J0 (np e1.symm),JH (pp rfl),ori_v hd hb hc];have s:=zL (det d b c);have o:=one _ _ t1 pa;generalize det d b c * w a=z1 at *
  generalize det a d c * w b=z2 at *
  generalize det a b d * w c=z3 at *
  generalize det a b c * w d=z4 at *
  omega
 ·rw [m] at hk;have x1:=hw b a hb ha (by have:=k1 b a hb ha n1.symm;omega);have x2:=hw b c hb hc (by have:=k1 b c hb hc n2;omega);have x3:=hw b d hb hd (by have:=k1 b d hb hd e2.symm;omega);rw [m,J0 (np e2.symm),J0 (np n1.symm),JH (pp rfl),ori_v ha hd hc];have s:=zL (det a d c);have o:=one _ _ t2 pb;generalize det d b c * w a=z1 at *
  generalize det a d c * w b=z2 at *
  generalize det a b d * w c=z3 at *
  generalize det a b c * w d=z4 at *
  omega
 ·rw [m] at hk;have x1:=hw c a hc ha (by have:=k1 c a hc ha n3;omega);have x2:=hw c b hc hb (by have:=k1 c b hc hb n2.symm;omega);have x3:=hw c d hc hd (by have:=k1 c d hc hd e3.symm;omega);rw [m,J0 (np e3.symm),J0 (np n3),J0 (np n2.symm),ori_v ha hb hd];have s:=zL (det a b d);have o:=one _ _ t3 pc;generalize det d b c * w a=z1 at *
  generalize det a d c * w b=z2 at *
  generalize det a b d * w c=z3 at *
  generalize det a b c * w d=z4 at *
  omega
 ·rw [m] at hk;have x1:=hw d a hd ha (by have:=k1 d a hd ha e1;omega);have x2:=hw d b hd hb (by have:=k1 d b hd hb e2;omega);have x3:=hw d c hd hc (by have:=k1 d c hd hc e3;omega);rw [m,JH (pp rfl),ori_v ha hb hc];have s:=zL (det a b c);have o:=one _ _ (show det a b c≠0 by omega) pd;generalize det d b c * w a=z1 at *
  generalize det a d c * w b=z2 at *
  generalize det a b d * w c=z3 at *
  generalize det a b c * w d=z4 at *
  omega
theorem Kw:∃ h,Hts h:=by
 obtain ⟨w,M,hM,hw⟩:=wgt_ex;have hM0:0 < M:=by have:=hM ⟨0,0⟩ (by decide);omega
 refine ⟨λp=>(4 * 562949886312450 * M+1) * (p.x * p.x+p.y * p.y) - w p+M,λp hp=>?_,λa b c d ha hb hc hd hD e1 e2 e3=>?_⟩
 ·have:=hM p hp;have:=JD (a:=4 * 562949886312450 * M+1) (b:=p.x * p.x+p.y * p.y) (by omega) (by have:=sq_nn p.x;have:=sq_nn p.y;omega);show 0<=(4 * 562949886312450 * M+1) * (p.x * p.x+p.y * p.y) - w p+M;omega
 ·have e : PH (λp => (4 * 562949886312450 * M + 1) * (p.x * p.x + p.y * p.y) - w p + M) a b c d = (4 * 562949886312450 * M + 1) * lft a b c d - PH w a b c d := by
    have z:det d b c+det a d c+det a b d=det a b c:=by unfold det;grind
    rw [<-PH_lft];unfold PH;grind
  rw [e];have h0:¬ ori a b c=0:=by rw [ori_v ha hb hc,yZ];omega
  have pa:=hM a ha;have pb:=hM b hb;have pc:=hM c hc;have pd:=hM d hd;by_cases hl:lft a b c d=0
  ·have t:=tie_main (λp hp=>(hM p hp).1) hw ha hb hc hd hD e1 e2 e3 hl;rw [hl,Jh];omega
  ·have b0:=tb ha hb hc;have b1:=tb hd hb hc;have b2:=tb ha hd hc;have b3:=tb ha hb hd;have q1:=ky b1.1 b1.2 (Jb pa.1);have q2:=ky b2.1 b2.2 (Jb pb.1);have q3:=ky b3.1 b3.2 (Jb pc.1);have q4:=ky b0.1 b0.2 (Jb pd.1);rw [yx h0 hd e1 e2 e3];have s:=zL (lft a b c d);rw [JH (by rw [yZ];exact hl)];have key:(4 * 562949886312450 * M+1) * lft a b c d <= -(4 * 562949886312450 * M+1)\/(4 * 562949886312450 * M+1)<=(4 * 562949886312450 * M+1) * lft a b c d:=by
    rcases Int.lt_or_gt_of_ne hl with k | k
    ·left
     have:=JD (a:=4 * 562949886312450 * M+1) (b := -1 - lft a b c d) (by omega) (by omega);rw [VD] at this;omega
    ·right
     have:=JD (a:=4 * 562949886312450 * M+1) (b:=lft a b c d - 1) (by omega) (by omega);rw [VD] at this;omega
   have sg:0 < lft a b c d->(4 * 562949886312450 * M+1) * lft a b c d > 0:=λk=>JP (by omega) k;have sg':lft a b c d < 0->(4 * 562949886312450 * M+1) * lft a b c d < 0:=λk=>QE (by omega) k;unfold PH;generalize (4 * 562949886312450 * M+1) * lft a b c d=Q at *
   generalize det d b c * w a=z1 at *
   generalize det a d c * w b=z2 at *
   generalize det a b d * w c=z3 at *
   generalize det a b c * w d=z4 at *
   omega
theorem lft_edge (a b c d:Pt):lft a b c d=det c a d * ((b.x - a.x) * (b.x - a.x)+(b.y - a.y) * (b.y - a.y)) - det b a d * ((c.x - a.x) * (c.x - a.x)+(c.y - a.y) * (c.y - a.y)) - det a b c * ((d.x - a.x) * (d.x - a.x)+(d.y - a.y) * (d.y - a.y)):=by unfold lft ht cr way det;grind
theorem lft_edge2 (a b c d:Pt):lft a b c d=det d b c * ((b.x - a.x) * (b.x - a.x)+(b.y - a.y) * (b.y - a.y)) - det b a d * ((c.x - b.x) * (c.x - b.x)+(c.y - b.y) * (c.y - b.y)) - det a b c * ((d.x - b.x) * (d.x - b.x)+(d.y - b.y) * (d.y - b.y)):=by unfold lft ht cr way det;grind
theorem sq_ne {p q:Pt} (h:p≠q):0 < (q.x - p.x) * (q.x - p.x)+(q.y - p.y) * (q.y - p.y):=by
 have s1:=sq_nn (q.x - p.x);have s2:=sq_nn (q.y - p.y);refine JQ λk=>h ?_;have u1:=JF.1 (show (q.x - p.x) * (q.x - p.x)=0 by omega);have u2:=JF.1 (show (q.y - p.y) * (q.y - p.y)=0 by omega);rw [Pt.eq_iff];omega
theorem convex {a b c d:Pt} (h1:0 < det a b c) (h2:0 < det b a d) (hl:0<=lft a b c d):0 < det c a d/\0 < det d b c:=by
 obtain ⟨n1,n2,n3⟩:=zQ h1;obtain ⟨m1,m2,m3⟩:=zQ h2;have key:∀ g x y z:Int,0 < x->0 < y->0 < z->0<=g * x - det b a d * y - det a b c * z->0 < g:=by
  intro g x y z hx hy hz k;refine JQ λhg=>?_;have i1:=JD (a := -g) (b:=x) (by omega) (by omega);have i2:=JP h2 hy;have i3:=JP h1 hz;rw [Vk] at i1;omega
 refine ⟨key _ _ _ _ (sq_ne n1) (sq_ne n3.symm) (sq_ne m2) (by rw [<-lft_edge];exact hl),key _ _ _ _ (sq_ne n1) (sq_ne n2) (sq_ne m3.symm) (by rw [<-lft_edge2];exact hl)⟩
def vol (h:Pt->Int) (T:Tri3):Int:=det T.A T.B T.C * (h T.A+h T.B+h T.C)
def volS (h:Pt->Int):List Tri3->Int
 | []=>0
 | T :: L=>vol h T+volS h L
theorem ZS {h:Pt->Int} {l m:List Tri3} (p:l.Perm m):volS h l=volS h m:=by
 induction p with
 | nil=>rfl
 | cons x _ ih=>simp only [volS,ih]
 | swap x y l=>simp only [volS];omega
 | trans _ _ h1 h2=>exact h1.trans h2
theorem Cyc.vol {T:Tri3} {a b c:Pt} (h:Cyc T a b c) (f:Pt->Int):Go.Proofs.YthhcehmmglmlfaaGreat.vol f T=Go.Proofs.YthhcehmmglmlfaaGreat.det a b c * (f a+f b+f c):=by
 rw [h.det];unfold Go.Proofs.YthhcehmmglmlfaaGreat.vol;rcases h with ⟨rfl,rfl,rfl⟩ | ⟨rfl,rfl,rfl⟩ | ⟨rfl,rfl,rfl⟩
 ·rfl
 ·congr 1;omega
 ·congr 1;omega
theorem vol_flip (h:Pt->Int) {S R U V:Tri3} (M:List Tri3) {a b c d:Pt} (hS:Cyc S a b c) (hR:Cyc R b a d) (hU:Cyc U c a d) (hV:Cyc V d b c):volS h (S :: R :: M)=volS h (U :: V :: M)+PH h a b c d:=by
 simp only [volS];rw [hS.vol,hR.vol,hU.vol,hV.vol];unfold PH det;grind
theorem KC {h:Pt->Int} (hh:Hts h):∀ {L:List Tri3},(∀ T∈L,0 < det T.A T.B T.C/\vld T.A=true/\vld T.B=true/\vld T.C=true)->0<=volS h L
 | [],_=>Vm 0
 | T :: L,k=>by
  have k1:=k T (by simp);have k2:=KC hh (L:=L) (λS hS=>k S (by simp [hS]));have a1:=hh.nn _ k1.2.1;have a2:=hh.nn _ k1.2.2.1;have a3:=hh.nn _ k1.2.2.2;have:=JD (a:=det T.A T.B T.C) (b:=h T.A+h T.B+h T.C) (by omega) (by omega);unfold volS vol;omega
theorem PH_step (h:Pt->Int) (a b c d p:Pt):det a b c * PH h b a d p=det b a d * PH h a b c p - PH h a b c d * det b a p:=by unfold PH det;grind
theorem uI {W H:Int} {a b c p:Pt} (hr:onRim W H a b) (h1:0 < det a b c) (hc:inBox W H c) (hp:inBox W H p):0<=det a b p:=by
 refine JQ λk=>?_;have z:crd a b ⟨p.x - a.x,p.y - a.y⟩=det a b p:=by unfold crd det;grind
 have:=Z5 (p:=a) (x:=p) hr h1 hc hp (by unfold det;grind) (by omega);omega
theorem uS {α:Type} (n m:α->Int):∀ (L:List α),L≠[]->(∀ x∈L,0 < m x)->∃ x∈L,∀ y∈L,n y * m x<=n x * m y
 | [],h,_=>absurd rfl h
 | [x],_,_=>⟨x,by simp,λy hy=>by simp at hy;subst hy;exact Vm _⟩
 | x :: y :: L,_,hm=>by
  obtain ⟨z,hz,k⟩:=uS n m (y :: L) (by simp) (λu hu=>hm u (by simp [hu]));have pz:=hm z (by simp [hz]);have px:=hm x (by simp);by_cases g:n x * m z<=n z * m x
  ·refine ⟨z,by simp [hz],λu hu=>?_⟩;rcases J1.1 hu with rfl | hu
   ·exact g
   ·exact k u hu
  ·refine ⟨x,by simp,λu hu=>?_⟩;rcases J1.1 hu with rfl | hu
   ·exact Vm _
   ·have pu:=hm u (by simp [hu]);have k1:=k u hu
    -- n u / m u<=n z / m z < n x / m x
    have a1:n u * m z * m x<=n z * m u * m x:=Jx k1 (by omega);have a2:n z * m x * m u<=n x * m z * m u:=Jx (by omega) (by omega);have a3:m z * (n u * m x)<=m z * (n x * m u):=by
     have e1:m z * (n u * m x)=n u * m z * m x:=by grind
     have e2:m z * (n x * m u)=n x * m z * m u:=by grind
     have e3:n z * m u * m x=n z * m x * m u:=by grind
     omega
    exact QK a3 pz
def pH (h:Pt->Int) (p:Pt) (T:Tri3):Int:=PH h T.A T.B T.C p
theorem Cyc.pH {T:Tri3} {a b c:Pt} (hc:Cyc T a b c) (h:Pt->Int) (p:Pt):Go.Proofs.YthhcehmmglmlfaaGreat.pH h p T=PH h a b c p:=by
 unfold Go.Proofs.YthhcehmmglmlfaaGreat.pH;rcases hc with ⟨rfl,rfl,rfl⟩ | ⟨rfl,rfl,rfl⟩ | ⟨rfl,rfl,rfl⟩
 ·rfl
 ·exact (PH_cyc h T.A T.B T.C p).symm
 ·exact PH_cyc h T.C T.A T.B p
theorem PH_cnr (h:Pt->Int) (a b c:Pt):PH h a b c a=0:=by unfold PH det;grind
def insM (M:Int) (T:Tri3) (p:Pt):Prop:=0 < det (sc M T.A) (sc M T.B) p/\0 < det (sc M T.B) (sc M T.C) p/\0 < det (sc M T.C) (sc M T.A) p
theorem Zq {M:Int} {T:Tri3} {p:Pt} (h:insM M T p) (v:Pt):near M T p v:=⟨.inl h.1,.inl h.2.1,.inl h.2.2⟩
theorem uP {M:Int} (hM:0 < M) {T:Tri3} {p:Pt} (hp:0 < det T.A T.B T.C) (h:hasM M T p):near M T p ⟨M * (T.A.x+T.B.x+T.C.x) - 3 * p.x,M * (T.A.y+T.B.y+T.C.y) - 3 * p.y⟩:=by
 have e:∀ a b c:Pt,M * crd a b ⟨M * (a.x+b.x+c.x) - 3 * p.x,M * (a.y+b.y+c.y) - 3 * p.y⟩=M * (M * det a b c) - 3 * det (sc M a) (sc M b) p:=by intro a b c;unfold crd det sc;grind
 have key:∀ a b c:Pt,0 < det a b c->0<=det (sc M a) (sc M b) p->0 < det (sc M a) (sc M b) p\/(det (sc M a) (sc M b) p=0/\0 < crd a b ⟨M * (a.x+b.x+c.x) - 3 * p.x,M * (a.y+b.y+c.y) - 3 * p.y⟩):=by
  intro a b c h1 h2;rcases Jy h2 with k | k
  ·exact .inl k
  ·refine .inr ⟨k.symm,(zY hM).1 ?_⟩;rw [e,<-k];have:=JP hM (JP hM h1);omega
 obtain ⟨h1,h2,h3⟩:=h;have k1:=key T.A T.B T.C hp h1;have k2:=key T.B T.C T.A (by rw [zX];exact hp) h2;have k3:=key T.C T.A T.B (by rw [zX,zX];exact hp) h3;rw [show T.B.x+T.C.x+T.A.x=T.A.x+T.B.x+T.C.x by omega,show T.B.y+T.C.y+T.A.y=T.A.y+T.B.y+T.C.y by omega] at k2;rw [show T.C.x+T.A.x+T.B.x=T.A.x+T.B.x+T.C.x by omega,show T.C.y+T.A.y+T.B.y=T.A.y+T.B.y+T.C.y by omega] at k3;exact ⟨k1,k2,k3⟩
theorem Tiles.insM_one {W H:Int} {L:List Tri3} (h:Tiles W H L) {S T:Tri3} (hS:S∈L) (hT:T∈L) {M:Int} (hM:0 < M) {p:Pt} (h1:insM M S p) (h2:hasM M T p):S=T:=
 h.same hS hT hM (Zq h1 _) (uP hM (h.pos T hT) h2)
theorem xW {M:Int} {T:Tri3} {a b c p:Pt} (hc:Cyc T a b c):hasM M T p↔0<=det (sc M a) (sc M b) p/\0<=det (sc M b) (sc M c) p/\0<=det (sc M c) (sc M a) p:=by
 unfold hasM;rcases hc with ⟨rfl,rfl,rfl⟩ | ⟨rfl,rfl,rfl⟩ | ⟨rfl,rfl,rfl⟩ <;> omega
theorem insM_cyc {M:Int} {T:Tri3} {a b c p:Pt} (hc:Cyc T a b c):insM M T p↔0 < det (sc M a) (sc M b) p/\0 < det (sc M b) (sc M c) p/\0 < det (sc M c) (sc M a) p:=by
 unfold insM;rcases hc with ⟨rfl,rfl,rfl⟩ | ⟨rfl,rfl,rfl⟩ | ⟨rfl,rfl,rfl⟩ <;> omega
theorem tQ {M:Int} {a b c d p:Pt} (h1:0 < det a b c) (h2:0 < det b a d) (hz:det (sc M a) (sc M b) p=0) (k1:0<=det (sc M b) (sc M c) p) (k2:0<=det (sc M c) (sc M a) p):0<=det (sc M a) (sc M d) p/\0<=det (sc M d) (sc M b) p:=by
 have e1:det a b c * det (sc M a) (sc M d) p=det (sc M c) (sc M a) p * det b a d+det (sc M a) (sc M b) p * det a d c:=by unfold det sc;grind
 have e2:det a b c * det (sc M d) (sc M b) p=det (sc M b) (sc M c) p * det b a d - det (sc M a) (sc M b) p * det b d c:=by unfold det sc;grind
 rw [hz,Jn] at e1 e2;have:=JD k1 (Jb h2);have:=JD k2 (Jb h2);exact ⟨(zd h1).1 (by omega),(zd h1).1 (by omega)⟩
theorem leave {M:Int} (hM:0 < M) {T:Tri3} {x v:Pt} (hx:hasM M T x) (hv:¬ hasT T v):∃ a b c N n,Cyc T a b c/\det a b v < 0/\0<=n/\n < N/\det (sc (M * N) a) (sc (M * N) b) ⟨(N - n) * x.x+n * (M * v.x),(N - n) * x.y+n * (M * v.y)⟩=0/\0<=det (sc (M * N) b) (sc (M * N) c) ⟨(N - n) * x.x+n * (M * v.x),(N - n) * x.y+n * (M * v.y)⟩/\0<=det (sc (M * N) c) (sc (M * N) a) ⟨(N - n) * x.x+n * (M * v.x),(N - n) * x.y+n * (M * v.y)⟩:=by
 -- the edges beyond which v lies;of these the one that is reached first
 let E:List (Pt×Pt×Pt):=[(T.A,T.B,T.C),(T.B,T.C,T.A),(T.C,T.A,T.B)].filter λe=>decide (det e.1 e.2.1 v < 0)
 have hE:E≠[]:=by
  intro he;rw [VL] at he;apply hv;have h1:=he (T.A,T.B,T.C) (by simp);have h2:=he (T.B,T.C,T.A) (by simp);have h3:=he (T.C,T.A,T.B) (by simp);simp only [JA] at h1 h2 h3;exact ⟨by omega,by omega,by omega⟩
 have mE:∀ e,e∈E↔(e=(T.A,T.B,T.C)\/e=(T.B,T.C,T.A)\/e=(T.C,T.A,T.B))/\det e.1 e.2.1 v < 0:=by
  intro e;simp only [E,JZ,J1,JI,Jp,JA]
 have xn:∀ e∈E,0<=det (sc M e.1) (sc M e.2.1) x:=by
  intro e he;rcases ((mE e).1 he).1 with rfl | rfl | rfl
  ·exact hx.1
  ·exact hx.2.1
  ·exact hx.2.2
 have mm:∀ e∈E,0 < - (M * (M * det e.1 e.2.1 v)):=by
  intro e he;have:=JP hM (JP hM (show 0 < - det e.1 e.2.1 v by have:=((mE e).1 he).2;omega));rw [Ql,Ql] at this;exact this
 -- n / (n+m) least: n / m least: -n / m greatest
 obtain ⟨e,he,hmax⟩:=uS (λe:Pt×Pt×Pt => - det (sc M e.1) (sc M e.2.1) x) (λe => - (M * (M * det e.1 e.2.1 v))) E hE mm;have hn:=xn e he;have hm:=mm e he;have hmax:∀ f∈E,- det (sc M f.1) (sc M f.2.1) x * - (M * (M * det e.1 e.2.1 v)) <= - det (sc M e.1) (sc M e.2.1) x * - (M * (M * det f.1 f.2.1 v)):=hmax;obtain ⟨a,b,c⟩:=e;have hmax:∀ f∈E,- det (sc M f.1) (sc M f.2.1) x * - (M * (M * det a b v)) <= - det (sc M a) (sc M b) x * - (M * (M * det f.1 f.2.1 v)):=hmax;have hn:0<=det (sc M a) (sc M b) x:=hn;have hm:0 < - (M * (M * det a b v)):=hm;obtain ⟨hw,hneg⟩:=(mE _).1 he;have hc:Cyc T a b c:=by
  simp only [Jt] at hw;rcases hw with ⟨rfl,rfl,rfl⟩ | ⟨rfl,rfl,rfl⟩ | ⟨rfl,rfl,rfl⟩
  ·exact .inl ⟨rfl,rfl,rfl⟩
  ·exact .inr (.inl ⟨rfl,rfl,rfl⟩)
  ·exact .inr (.inr ⟨rfl,rfl,rfl⟩)
 obtain ⟨n,e0⟩:∃ n,n=det (sc M a) (sc M b) x:=⟨_,rfl⟩;obtain ⟨m,e1⟩:∃ m,m = - (M * (M * det a b v)):=⟨_,rfl⟩;rw [<-e0] at hn hmax;rw [<-e1] at hm hmax
 -- the value at the place along any edge
 have val:∀ p q:Pt,det (sc (M * (n+m)) p) (sc (M * (n+m)) q) ⟨(n+m - n) * x.x+n * (M * v.x),(n+m - n) * x.y+n * (M * v.y)⟩=(n+m) * (m * det (sc M p) (sc M q) x+n * (M * (M * det p q v))):=by
  intro p q;unfold det sc;grind
 have oth:∀ p q r:Pt,(p,q,r)=(T.A,T.B,T.C)\/(p,q,r)=(T.B,T.C,T.A)\/(p,q,r)=(T.C,T.A,T.B)->0<=det (sc M p) (sc M q) x->0<=m * det (sc M p) (sc M q) x+n * (M * (M * det p q v)):=by
  intro p q r hpq hx0;by_cases hs:det p q v < 0
  ·have:=hmax (p,q,r) ((mE _).2 ⟨hpq,hs⟩);have e2 : - det (sc M p) (sc M q) x * m = - (m * det (sc M p) (sc M q) x):=by grind
   have e3 : - n * - (M * (M * det p q v))=n * (M * (M * det p q v)):=by grind
   have this : - det (sc M p) (sc M q) x * m <= - n * - (M * (M * det p q v)):=this;omega
  ·have a1:=JD (Jb hm) hx0;have a2:=JD hn (JD (Jb hM) (JD (Jb hM) (show 0<=det p q v by omega)));omega
 have hx':=(xW hc).1 hx;have hw2:(b,c,a)=(T.A,T.B,T.C)\/(b,c,a)=(T.B,T.C,T.A)\/(b,c,a)=(T.C,T.A,T.B):=by
  simp only [Jt];rcases hc with ⟨h1,h2,h3⟩ | ⟨h1,h2,h3⟩ | ⟨h1,h2,h3⟩
  ·exact .inr (.inl ⟨h2,h3,h1⟩)
  ·exact .inr (.inr ⟨h2,h3,h1⟩)
  ·exact .inl ⟨h2,h3,h1⟩
 have hw3:(c,a,b)=(T.A,T.B,T.C)\/(c,a,b)=(T.B,T.C,T.A)\/(c,a,b)=(T.C,T.A,T.B):=by
  simp only [Jt];rcases hc with ⟨h1,h2,h3⟩ | ⟨h1,h2,h3⟩ | ⟨h1,h2,h3⟩
  ·exact .inr (.inr ⟨h3,h1,h2⟩)
  ·exact .inl ⟨h3,h1,h2⟩
  ·exact .inr (.inl ⟨h3,h1,h2⟩)
 refine ⟨a,b,c,n+m,n,hc,hneg,hn,by omega,?_,?_,?_⟩
 ·rw [val,<-e0];have:M * (M * det a b v) = -m:=by omega
  rw [this,Ql,VQ m n];rw [show n * m + -(n * m)=0 by omega,Jh]
 ·rw [val];exact JD (by omega) (oth b c a hw2 hx'.2.1)
 ·rw [val];exact JD (by omega) (oth c a b hw3 hx'.2.2)
structure Fixed (W H:Int) (wl:Pt->Pt->Prop) (L:List Tri3):Prop where
 tiles:Tiles W H L
 good:∀ S∈L,∀ R∈L,∀ a b c d,Cyc S a b c->Cyc R b a d->¬ wl a b->circ a b c d≠1
theorem seen {W H:Int} {L1 L2:List Tri3} (hW:W < 16777216) (hH:H < 16777216) {wl:Pt->Pt->Prop} (h1:Fixed W H wl L1) (h2:Tiles W H L2) (hw:∀ S∈L1,∀ R∈L1,∀ a b c d,Cyc S a b c->Cyc R b a d->wl a b->(a,b)∈L2.flatMap ways\/(b,a)∈L2.flatMap ways) (hv:∀ T∈L2,∀ p,isCnr T p->∃ S∈L1,isCnr S p) {ht:Pt->Int} (hh:Hts ht) {T2:Tri3} (m2:T2∈L2) {v:Pt} (hc2:isCnr T2 v) {T1:Tri3} (m1:T1∈L1) {M:Int} (hM:0 < M) {x:Pt} (x2:insM M T2 x) (x1:hasM M T1 x):pH ht v T1<=0:=by
 classical
 have vb:∀ q,inBox W H q->vld q=true:=λq hq=>by rw [zh];unfold inBox at hq;omega
 have bv:inBox W H v:=by
  obtain ⟨b,c,hc⟩:=qo hc2;exact h2.cyc_box m2 hc
 have hv2:hasT T2 v:=(YL (h2.pos T2 m2) hc2).1;obtain ⟨Sv,mSv,cSv⟩:=hv T2 m2 v hc2
 let F:List Tri3:=L1.filter λT=>decide (∃ M x,0 < M/\insM M T2 x/\hasM M T x)
 have mF:∀ T,T∈F↔T∈L1/\∃ M x,0 < M/\insM M T2 x/\hasM M T x:=by
  intro T;simp only [F,JZ,JA]
 have f1:T1∈F:=(mF T1).2 ⟨m1,M,x,hM,x2,x1⟩;obtain ⟨X,hX,hmax⟩:=uS (pH ht v) (λT=>det T.A T.B T.C) F (List.ne_nil_of_mem f1) (λT hT=>h1.tiles.pos T ((mF T).1 hT).1);obtain ⟨mX,N,y,hN,y2,yX⟩:=(mF X).1 hX;have pX:=h1.tiles.pos X mX;have hXp:pH ht v X<=0:=by
  refine JQ λk=>?_;have nC:¬ isCnr X v:=λg=>by
   obtain ⟨b,c,hc⟩:=qo g;have:=hc.pH ht v;rw [PH_cnr] at this;omega
  have nh:¬ hasT X v:=λg=>nC (h1.tiles.cnr_all mSv mX cSv g);obtain ⟨a,b,c,Q,n,hc,hneg,n0,nQ,z1,z2,z3⟩:=leave hN yX nh;have p1:=h1.tiles.cyc_pos mX hc;rcases h1.tiles.rim (a,b) (y7 mX hc.way) with hr | hr
  ·obtain ⟨R,hR,hwy⟩:=JO.1 hr;have hwy:(b,a)∈ways R:=hwy;obtain ⟨d,hd⟩:=yd hwy;have p2:=h1.tiles.cyc_pos hR hd;have hQN:0 < N * Q:=JP hN (by omega)
   -- the place lies within T2
   have in2:insM (N * Q) T2 ⟨(Q - n) * y.x+n * (N * v.x),(Q - n) * y.y+n * (N * v.y)⟩:=by
    have val:∀ p q:Pt,det (sc (N * Q) p) (sc (N * Q) q) ⟨(Q - n) * y.x+n * (N * v.x),(Q - n) * y.y+n * (N * v.y)⟩=Q * ((Q - n) * det (sc N p) (sc N q) y+n * (N * (N * det p q v))):=by
     intro p q;unfold det sc;grind
    have pos:∀ p q:Pt,0 < det (sc N p) (sc N q) y->0<=det p q v->0 < det (sc (N * Q) p) (sc (N * Q) q) ⟨(Q - n) * y.x+n * (N * v.x),(Q - n) * y.y+n * (N * v.y)⟩:=by
     intro p q k1 k2;rw [val];have a1:=JP (show 0 < Q - n by omega) k1;have a2:=JD n0 (JD (Jb hN) (JD (Jb hN) k2));exact JP (by omega) (by omega)
    exact ⟨pos _ _ y2.1 hv2.1,pos _ _ y2.2.1 hv2.2.1,pos _ _ y2.2.2 hv2.2.2⟩
   have nw:¬ wl a b:=by
    intro w;have bad:∀ p q,(p,q)∈L2.flatMap ways->det (sc (N * Q) p) (sc (N * Q) q) ⟨(Q - n) * y.x+n * (N * v.x),(Q - n) * y.y+n * (N * v.y)⟩=0->(∃ r,0 < det p q r/\0<=det (sc (N * Q) q) (sc (N * Q) r) ⟨(Q - n) * y.x+n * (N * v.x),(Q - n) * y.y+n * (N * v.y)⟩/\0<=det (sc (N * Q) r) (sc (N * Q) p) ⟨(Q - n) * y.x+n * (N * v.x),(Q - n) * y.y+n * (N * v.y)⟩)->False:=by
     intro p q hm hz ⟨r,r0,r1,r2⟩;obtain ⟨U,mU,hU⟩:=JO.1 hm;obtain ⟨s,hs⟩:=yd hU;have pU:=h2.cyc_pos mU hs
     -- p q r and p q s lie on one side
     have e1:det p q r * det (sc (N * Q) q) (sc (N * Q) s) ⟨(Q - n) * y.x+n * (N * v.x),(Q - n) * y.y+n * (N * v.y)⟩=det (sc (N * Q) q) (sc (N * Q) r) ⟨(Q - n) * y.x+n * (N * v.x),(Q - n) * y.y+n * (N * v.y)⟩ * det p q s+det (sc (N * Q) p) (sc (N * Q) q) ⟨(Q - n) * y.x+n * (N * v.x),(Q - n) * y.y+n * (N * v.y)⟩ * det q s r:=by
      generalize (⟨(Q - n) * y.x+n * (N * v.x),(Q - n) * y.y+n * (N * v.y)⟩:Pt)=z
      unfold det sc;grind
     have e2:det p q r * det (sc (N * Q) s) (sc (N * Q) p) ⟨(Q - n) * y.x+n * (N * v.x),(Q - n) * y.y+n * (N * v.y)⟩=det (sc (N * Q) r) (sc (N * Q) p) ⟨(Q - n) * y.x+n * (N * v.x),(Q - n) * y.y+n * (N * v.y)⟩ * det p q s - det (sc (N * Q) p) (sc (N * Q) q) ⟨(Q - n) * y.x+n * (N * v.x),(Q - n) * y.y+n * (N * v.y)⟩ * det p s r:=by
      generalize (⟨(Q - n) * y.x+n * (N * v.x),(Q - n) * y.y+n * (N * v.y)⟩:Pt)=z
      unfold det sc;grind
     rw [hz,Jn] at e1 e2;have g1:=JD r1 (Jb pU);have g2:=JD r2 (Jb pU);have hU':hasM (N * Q) U ⟨(Q - n) * y.x+n * (N * v.x),(Q - n) * y.y+n * (N * v.y)⟩:=(xW hs).2 ⟨by omega,(zd r0).1 (by omega),(zd r0).1 (by omega)⟩;have e:=h2.insM_one m2 mU hQN in2 hU';rw [e] at in2;have:=((insM_cyc hs).1 in2).1;omega
    rcases hw X mX R hR a b c d hc hd w with k | k
    ·exact bad a b k z1 ⟨c,p1,z2,z3⟩
    ·have o:=tQ p1 p2 z1 z2 z3;refine bad b a k (by rw [zW];omega) ⟨d,p2,o.1,o.2⟩
   have hnb:=h1.good X mX R hR a b c d hc hd nw;obtain ⟨q1,q2,q3⟩:=zQ p2;have dc:d≠c:=by
    rintro rfl;rw [zW] at p2;omega
   have sg:=hh.sign a b c d (vb _ (h1.tiles.cyc_box mX hc)) (vb _ (h1.tiles.cyc_box mX hc.turn)) (vb _ (h1.tiles.cyc_box mX hc.turn.turn)) (vb _ (h1.tiles.cyc_box hR hd.turn.turn)) p1 (Ne.symm q2) q3 dc;have hneg2:PH ht a b c d < 0:=by omega
   have o:=tQ p1 p2 z1 z2 z3;have fR:R∈F:=(mF R).2 ⟨hR,_,_,hQN,in2,(xW hd).2 ⟨by rw [zW];omega,o.1,o.2⟩⟩;have st:=PH_step ht a b c d v;have mx:pH ht v R * det X.A X.B X.C<=pH ht v X * det R.A R.B R.C:=hmax R fR;rw [hd.pH,hc.pH,<-hc.det,<-hd.det] at mx;have:0 < det b a v:=by rw [zW];omega
   have:=Int.mul_neg_of_neg_of_pos hneg2 this;have e1:det a b c * PH ht b a d v=PH ht b a d v * det a b c:=VQ _ _;have e2:det b a d * PH ht a b c v=PH ht a b c v * det b a d:=VQ _ _;omega
  ·have hr:onRim W H a b:=hr;have:=uI hr p1 (h1.tiles.cyc_box mX hc.turn.turn) bv;omega
 have mx:pH ht v T1 * det X.A X.B X.C<=pH ht v X * det T1.A T1.B T1.C:=hmax T1 f1;have pT:=h1.tiles.pos T1 m1;have:pH ht v X * det T1.A T1.B T1.C<=0:=VP hXp (by omega);refine JQ λk=>?_;have:=JP (show 0 < pH ht v T1 by omega) pX;omega
theorem planes (ht:Pt->Int) (a b c d e f x:Pt) (M:Int):det (sc M b) (sc M c) x * PH ht d e f a+det (sc M c) (sc M a) x * PH ht d e f b+det (sc M a) (sc M b) x * PH ht d e f c+(det (sc M e) (sc M f) x * PH ht a b c d+det (sc M f) (sc M d) x * PH ht a b c e+det (sc M d) (sc M e) x * PH ht a b c f)=0:=by
 unfold PH det sc;grind
theorem one_mesh {W H:Int} {L1 L2:List Tri3} (hW0:0 < W) (hH0:0 < H) (hW:W < 16777216) (hH:H < 16777216) {wl:Pt->Pt->Prop} (h1:Fixed W H wl L1) (h2:Fixed W H wl L2) (w1:∀ S∈L1,∀ R∈L1,∀ a b c d,Cyc S a b c->Cyc R b a d->wl a b->(a,b)∈L2.flatMap ways\/(b,a)∈L2.flatMap ways) (w2:∀ S∈L2,∀ R∈L2,∀ a b c d,Cyc S a b c->Cyc R b a d->wl a b->(a,b)∈L1.flatMap ways\/(b,a)∈L1.flatMap ways) (v1:∀ T∈L1,∀ p,isCnr T p->∃ S∈L2,isCnr S p) (v2:∀ T∈L2,∀ p,isCnr T p->∃ S∈L1,isCnr S p) {T2:Tri3} (m2:T2∈L2):∃ T1∈L1,Cyc T1 T2.A T2.B T2.C:=by
 obtain ⟨ht,hh⟩:=Kw;have p2:=h2.tiles.pos T2 m2;have b2:=h2.tiles.box T2 m2;have vb:∀ q,inBox W H q->vld q=true:=λq hq=>by rw [zh];unfold inBox at hq;omega
 -- the middle of T2,and a triangle that has it
 let x:Pt:=⟨T2.A.x+T2.B.x+T2.C.x,T2.A.y+T2.B.y+T2.C.y⟩
 have ex:∀ a b:Pt,det (sc 3 a) (sc 3 b) x=3 * (det a b T2.A+det a b T2.B+det a b T2.C):=by
  intro a b;show det (sc 3 a) (sc 3 b) ⟨T2.A.x+T2.B.x+T2.C.x,T2.A.y+T2.B.y+T2.C.y⟩=_;unfold det sc;grind
 have z1:det T2.A T2.B T2.A=0:=by unfold det;grind
 have z2:det T2.A T2.B T2.B=0:=by unfold det;grind
 have z3:det T2.B T2.C T2.B=0:=by unfold det;grind
 have z4:det T2.B T2.C T2.C=0:=by unfold det;grind
 have z5:det T2.C T2.A T2.C=0:=by unfold det;grind
 have z6:det T2.C T2.A T2.A=0:=by unfold det;grind
 have c1:=zX T2.A T2.B T2.C;have c2:=zX T2.B T2.C T2.A;have x2:insM 3 T2 x:=⟨by rw [ex];omega,by rw [ex];omega,by rw [ex];omega⟩;have bx:inBox (3 * W) (3 * H) x:=by
  show inBox (3 * W) (3 * H) ⟨T2.A.x+T2.B.x+T2.C.x,T2.A.y+T2.B.y+T2.C.y⟩;unfold inBox at *;simp only;omega
 obtain ⟨T1,m1,x1⟩:=h1.tiles.covM hW0 hH0 (M:=3) (by omega) bx;refine ⟨T1,m1,?_⟩;have p1:=h1.tiles.pos T1 m1;have b1:=h1.tiles.box T1 m1
 -- a place within both
 let v:Pt:=⟨3 * (T1.A.x+T1.B.x+T1.C.x) - 3 * x.x,3 * (T1.A.y+T1.B.y+T1.C.y) - 3 * x.y⟩
 let K:Int:=big 3 T1 v+big 3 T2 v+1
 have hK:0 < K:=by show 0 < big 3 T1 v+big 3 T2 v+1;unfold big;omega
 have n1:=uP (M:=3) (by omega) p1 x1;have n2:=Zq x2 v;have g2:∀ (T:Tri3),near 3 T x v->big 3 T v < K->insM (K * 3) T ⟨K * x.x+v.x,K * x.y+v.y⟩:=by
  intro T ⟨k1,k2,k3⟩ hb;unfold big at hb;exact ⟨ka (by omega) hK k1 (xU 3 K _ _ x v) (by omega),ka (by omega) hK k2 (xU 3 K _ _ x v) (by omega),ka (by omega) hK k3 (xU 3 K _ _ x v) (by omega)⟩
 have i1:=g2 T1 n1 (by show big 3 T1 v < big 3 T1 v+big 3 T2 v+1;unfold big;omega);have i2:=g2 T2 n2 (by show big 3 T2 v < big 3 T1 v+big 3 T2 v+1;unfold big;omega);generalize hy:(⟨K * x.x+v.x,K * x.y+v.y⟩:Pt)=y at i1 i2
 have hK3:0 < K * 3:=by omega
 generalize K * 3=N at *
 have weak:∀ {T:Tri3},insM N T y->hasM N T y:=λ⟨k1,k2,k3⟩=>⟨by omega,by omega,by omega⟩;have s1:∀ q,isCnr T2 q->pH ht q T1<=0:=λq hq=>seen hW hH h1 h2.tiles w1 v2 hh m2 hq m1 hK3 i2 (weak i1);have s2:∀ q,isCnr T1 q->pH ht q T2<=0:=λq hq=>seen hW hH h2 h1.tiles w2 v1 hh m1 hq m2 hK3 i1 (weak i2);have pl:=planes ht T2.A T2.B T2.C T1.A T1.B T1.C y N;have a1:=s1 T2.A (.inl rfl);have a2:=s1 T2.B (.inr (.inl rfl));have a3:=s1 T2.C (.inr (.inr rfl));have a4:=s2 T1.A (.inl rfl);have a5:=s2 T1.B (.inr (.inl rfl));have a6:=s2 T1.C (.inr (.inr rfl));unfold pH at a1 a2 a3 a4 a5 a6;have np:∀ u w:Int,0 < u->w<=0->u * w<=0:=λu w hu hw=>QV (by omega) hw;have e1:=np _ _ i2.2.1 a1;have e2:=np _ _ i2.2.2 a2;have e3:=np _ _ i2.1 a3;have e4:=np _ _ i1.2.1 a4;have e5:=np _ _ i1.2.2 a5;have e6:=np _ _ i1.1 a6;have zz:∀ u w:Int,0 < u->u * w=0->w=0:=λu w hu h=>(JF.1 h).resolve_left (by omega);have f1:=zz _ _ i2.2.1 (show det (sc N T2.B) (sc N T2.C) y * PH ht T1.A T1.B T1.C T2.A=0 by omega);have f2:=zz _ _ i2.2.2 (show det (sc N T2.C) (sc N T2.A) y * PH ht T1.A T1.B T1.C T2.B=0 by omega);have f3:=zz _ _ i2.1 (show det (sc N T2.A) (sc N T2.B) y * PH ht T1.A T1.B T1.C T2.C=0 by omega);have cn:∀ q,inBox W H q->PH ht T1.A T1.B T1.C q=0->q=T1.A\/q=T1.B\/q=T1.C:=by
  intro q hq hz;refine JQ λk=>?_;simp only [UG] at k;have:=hh.sign _ _ _ q (vb _ b1.1) (vb _ b1.2.1) (vb _ b1.2.2) (vb _ hq) p1 k.1 k.2.1 k.2.2;omega
 have q1:=cn _ b2.1 f1;have q2:=cn _ b2.2.1 f2;have q3:=cn _ b2.2.2 f3;obtain ⟨d1,d2,d3⟩:=zQ p2;have turn:∀ a b c:Pt,0 < det a b c->0 < det a c b->False:=λa b c k1 k2=>by
  have:det a c b = - det a b c:=by unfold det;grind
  omega
 unfold Cyc;generalize T1.A=A at *
 generalize T1.B=B at *
 generalize T1.C=C at *
 have cA:=zX A B C;have cB:=zX B C A;have k1:=zX A C B;have k2:=zX C B A;have sw:det A C B = - det A B C:=by unfold det;grind
 rcases q1 with q1 | q1 | q1 <;> rcases q2 with q2 | q2 | q2 <;> rcases q3 with q3 | q3 | q3
 all_goals first
  | (exfalso;apply d1;rw [q1,q2];done)
  | (exfalso;apply d2;rw [q2,q3];done)
  | (exfalso;apply d3;rw [q3,q1];done)
  | (exfalso;rw [q1,q2,q3] at p2;omega)
  | exact .inl ⟨q1,q2,q3⟩
  | exact .inr (.inl ⟨q1,q2,q3⟩)
  | exact .inr (.inr ⟨q1,q2,q3⟩)
theorem ZL {M:Tri3} {p:Pt} (hM:valT M) (vp:vld p):hasP M p=true↔0<=det M.A M.B p/\0<=det M.B M.C p/\0<=det M.C M.A p:=by
 obtain ⟨va,vb,vc,hD⟩:=k8 hM;unfold hasP;rw [hM,vp,Qq,Qq];simp only [JB,JA,(Ks va vb vp).2.1,(Ks vb vc vp).2.1,(Ks vc va vp).2.1]
open Go.Sort
attribute [local go_sem] rOper rAt rUpon cell_set sg_i64 sg_u64 alloc_cell alloc_frozen
attribute [local go_sem 10000] pt_eql pt_neq
attribute [local irreducible] rWalk
theorem tP:(prog.info? 34).map (λi=>(i.zero,i.size,i.bytes))=some (some (.agg #[(),()]),2,16):=by kernel_rfl
theorem vM {w:World} {B g n cap:Nat} {xs tl:List Value} {T:TypeId} (h:Box w g (xs ++ tl) T) (hB:B<=g) (hl:xs.length=n * 2) (hn:n<=cap) (hc:cap<=maxLen) (ht:tl.length=(cap - n) * 2):w.ownsRow B T 2 (.slice (some ⟨g,0,none⟩) n cap) n xs:=by
 refine ⟨hl,Or.inr ⟨g,cap,(xs ++ tl).toArray,rfl,hB,h,hn,hc,?_,?_⟩⟩
 ·simp [hl,ht];omega
 ·simp [<-hl]
theorem YU {w:World} {ops:Array Oper} {rest:List Oper} {o:Oper} {a:Act} {Q:Exit->Act->World->Prop} (hgd:o.guard=none) (s x:Operand) (ho:o.op=.call { callee:=.builtin .append,args:=#[s,x],argTypes:=#[134,134] }) (B n:Nat) (v:Value) (xs:List Value) (hs:a.eval s=v) (hown:w.ownsRow B 34 2 v n xs) (bx:Nat) (p:Pt) (hx:a.eval x=.slice (some ⟨bx,0,none⟩) 1 1) (hbx:Box w bx [p.x,p.y] 34) (hn:n<=1000000) (hbase:B<=w.heap.size) (h:∀ w' g cap tl,B<=g->Box w' g (xs ++ .int .i64 p.x :: .int .i64 p.y :: tl) 34->n+1<=cap->cap<=maxLen->tl.length=(cap - (n+1)) * 2->w.grownBy w' v.ownBlock->wpList prog ops Q rest (a.put o.dst (.slice (some ⟨g,0,none⟩) (n+1) cap)) w'):wpList prog ops Q (o :: rest) a w:=by
 obtain ⟨i0,hi,hz0,hz1,hz2⟩:=info_parts tP;refine wpList_append_own w hgd s x 134 ho B 34 i0 _ 2 16 underlying134 hi hz0 hz1 hz2 rfl (by decide) v n xs hs hown ⟨bx,0,none⟩ 1 1 [p.x,p.y] hx rfl ?_ ?_ ?_ ?_ hbase ?_
 ·intro j u hj;have:=hbx.f.1
  match j,hj with
  | 0,hj=>simp at hj;subst hj;simp [Addr.add,this]
  | 1,hj=>simp at hj;subst hj;simp [Addr.add,this]
 ·intro u hu;simp at hu;rcases hu with rfl | rfl <;> rfl
 ·unfold maxLen;omega
 ·omega
 ·intro v' w' hown' hg _;obtain ⟨hl,⟨_,h0⟩ | ⟨g,cap,cur,rfl,hB,hb,h1,h2,h3,h4⟩⟩:=hown'
  ·omega
  ·refine h w' g cap (cur.toList.drop ((n+1) * 2)) hB ?_ h1 h2 ?_ hg
   ·unfold Box;rw [hb];have e:xs ++ .int .i64 p.x :: .int .i64 p.y :: cur.toList.drop ((n+1) * 2)=cur.toList:=by
     rw [show xs ++ .int .i64 p.x :: .int .i64 p.y :: cur.toList.drop ((n+1) * 2)=(xs ++ [.int .i64 p.x,.int .i64 p.y]) ++ cur.toList.drop ((n+1) * 2) by simp,<-h4,Jj]
    rw [e]
   ·rw [Ja,Vf,h3,Nat.sub_mul]
attribute [local go_sem 10000] tri_eql
def Two (w:World) (A:Addr) (p:Pt):Prop:=A.block < w.heap.size/\w.cell? A=some (.int .i64 p.x)/\w.cell? ⟨A.block,A.off+1,none⟩=some (.int .i64 p.y)
theorem RowAt.two {w:World} {a:Option Addr} {L:List Pt} (h:RowAt cP 2 w a L) {j:Nat} (hj:j < L.length):∃ ad A,a=some ad/\ad.add (j * 2)=A/\Two w A L[j]:=by
 obtain ⟨ad,A,h1,h2,_,h4,h5⟩:=h.pt hj;exact ⟨ad,A,h1,h2,h4,h5⟩
theorem Two.ext {w w':World} {A:Addr} {p:Pt} {n:Nat} (h:Two w A p) (hb:Below n w w') (hn:n=w.heap.size):Two w' A p:=by
 obtain ⟨h0,h1,h2⟩:=h;have e:∀ q:Addr,q.block=A.block->w'.cell? q=w.cell? q:=λq hq=>hb.cell (by rw [hq,hn];exact h0);exact ⟨QN h0 hb.size,(e A rfl).trans h1,(e ⟨A.block,A.off+1,none⟩ rfl).trans h2⟩
theorem Two.ee {w w':World} {A:Addr} {p:Pt} (h:Two w A p) (hb:Below w w w'):Two w' A p:=h.ext hb rfl
theorem Two.f {w:World} {A:Addr} {p:Pt} (h:Two w A p):(A.block=w.heap.size)=False/\w.cell? A=some (.int .i64 p.x)/\w.cell? ⟨A.block,A.off+1,none⟩=some (.int .i64 p.y):=⟨by simp;have:=h.1;omega,h.2⟩
theorem Two.cells {w:World} {A:Addr} {p:Pt} (h:Two w A p):(∀ d os,(grow (redrawn w d) os).cell? A=some (.int .i64 p.x))/\(∀ d os,(grow (redrawn w d) os).cell? ⟨A.block,A.off+1,none⟩=some (.int .i64 p.y)):=
 ⟨λd os=>(h.ext (below_regrown w d os) rfl).2.1,λd os=>(h.ext (below_regrown w d os) rfl).2.2⟩
theorem XT (tl:List Value):∀ (S:List Pt) (j:Nat) (p:Pt),j < S.length->((S.flatMap cP ++ tl).set (j * 2) (.int .i64 p.x)).set (j * 2+1) (.int .i64 p.y)=(S.set j p).flatMap cP ++ tl
 | q :: S,0,p,_=>by simp [cP]
 | q :: S,j+1,p,h=>by
  have ih:=XT tl S j p (by simpa using h);simp only [JE,cP,Jw,Jz,VU] at ih ⊢;rw [show (j+1) * 2=j * 2+1+1 by omega];simp only [VU];rw [ih]
theorem vf {w:World} {g:Nat} {S:List Pt} {tl:List Value} (h:Box w g (S.flatMap cP ++ tl) 34) {j:Nat} (hj:j < S.length):w.cell? ⟨g,j * 2,none⟩=some (.int .i64 S[j].x)/\w.cell? ⟨g,j * 2+1,none⟩=some (.int .i64 S[j].y)/\w.frozen? ⟨g,j * 2,none⟩=false/\w.frozen? ⟨g,j * 2+1,none⟩=false:=by
 have hf:=h.f;have e:∀ i,i < 2->(S.flatMap cP ++ tl)[j * 2+i]? = (cP S[j])[i]? := λi hi=>by
  rw [Qa (by rw [zS tn];omega)];exact yL tn S j i S[j] (JG hj) hi
 have e0:=e 0 (by omega);have e1:=e 1 (by omega);refine ⟨by rw [hf.1,show j * 2=j * 2+0 from rfl,e0];rfl,by rw [hf.1,e1];rfl,hf.2.1 _,hf.2.1 _⟩
theorem YR {w:World} {g:Nat} {S:List Pt} {tl:List Value} (h:Box w g (S.flatMap cP ++ tl) 34) {j:Nat} (hj:j < S.length) (p:Pt):Box ((w.setCell ⟨g,j * 2,none⟩ (.int .i64 p.x)).setCell ⟨g,j * 2+1,none⟩ (.int .i64 p.y)) g ((S.set j p).flatMap cP ++ tl) 34:=by
 rw [<-XT tl S j p hj];exact (h.set (j * 2) _).set (j * 2+1) _
theorem rsortP_any (a0:Option Addr) (c0 n:Nat) (L:List Pt) (hL:Hi (L.length=n)) (hn:n<=500000) (w:World) (h0:RowAt cP 2 w a0 L):Calls prog 139 #[.slice a0 n c0] w λe w'=>∃ (M:List Pt) (a:Option Addr) (cap:Nat),e=.returned (.slice a M.length cap)/\RowAt cP 2 w' a M/\Rising cmpP M/\(∀ p,p∈M↔p∈L)/\Below w w w':=by
 go_enter func139,ntmps139
 go_wp2
 go_loopw [3,4] (λvo vi wr=>∃ (k:Nat) (M:List Pt),vi=.int .i64 k/\k<=n/\Hi (Rising cmpP M)/\Hi (∀ p,p∈M↔p∈L.take k)/\M.length<=k/\wr.ownsRow w.heap.size 34 2 vo M.length (M.flatMap cP)/\Below w w wr) (λ_ vi _=>n - (intOf vi).toNat)
 case atStart=>exact ⟨0,[],rfl,Jl _,hdd (by simp [Rising]),hdd (by simp),JJ _,World.ownsRow_nil _ _ _ _,Below.refl _ _⟩
 case round=>
  obtain ⟨k,M,rfl,hk,hR,hM,hMk,hown,hw⟩:=hrel;by_cases hlt:k < n
  case neg=>
   obtain ⟨a,cap,rfl,_,hr⟩:=zx tn hown;have HM:=hdd (show ∀ p,p∈M↔p∈L by intro p;rw [hM.o p,JV (by rw [hL.o];omega)]);go_wp2
   go_ret
   exact ⟨M,a,cap,rfl,hr,hR.o,HM.o,hw⟩
  case pos=>
   have hlk:k < L.length:=hL.o▸hlt;obtain ⟨ad,A,ea,eA,hA0⟩:=h0.two hlk;have hA:=hA0.ee hw;obtain ⟨a1,c1,rfl,hc1,hr1⟩:=zx tn hown;have hT:=hdd (show L.take (k+1)=L.take k ++ [L[k]] from JK hlk);generalize L[k]=x at *
   go_wp2;obtain ⟨W0,rfl⟩:∃ W0,W0=wr:=⟨_,rfl⟩
   go_loopw [5] (λva wr=>∃ a:Nat,va=.int .i64 a/\a<=M.length/\Hi (∀ (i:Nat) (_:a<=i) (h2:i < M.length),0 < cmpP (M[i]'h2) x)/\Below W0 W0 wr) (λva _=>(intOf va).toNat)
   case atStart=>exact ⟨M.length,rfl,JJ _,hdd (λi h1 h2=>by omega),Below.refl _ _⟩
   case round=>
    obtain ⟨a,rfl,haM,hhi,hw1⟩:=hrel;rcases a with _ | j
    ·have hAT:0<=M.length:=Jl _;have hlo:∀ (i:Nat) (hi:i < 0),cmpP (M[i]'(by omega)) x < 0:=λi hi=>by omega
     have hhi2:∀ (i:Nat) (_:0<=i) (h2:i < M.length),0 < cmpP (M[i]'h2) x:=λi h1 h2=>hhi.o i h1 h2;have HHI:=hdd hhi2;clear hhi hhi2;go_wp2;refine rgn 14 (λw2 hb=>?_);have hw2:=(upB hw1 hb);go_wp2;refine rgn 13 (λw3 hb3=>?_);have hw3:=(upB hw2 hb3);have hhi2:=HHI.o;have HI:=hdd (xR wholeP hR.o (x:=x) (k:=0) hAT hlo hhi2);obtain ⟨z1,t0,t1⟩:=(hA.ee hw3).f;have own3:=hown.kept (zM hw3 none) (by cases a1 <;> simp [Value.ownBlock]);have HB:=hdd (JY hw.size hw3.size);have hMn:M.length<=1000000:=by omega
     have hw3w:=(upB hw hw3);have hlt0:=λq hq=>(own3.lt q hq).1;clear hlo hhi2;go_wp2_with (at_builtin;refine YU rfl _ _ rfl w.heap.size M.length _ (M.flatMap cP) rfl (own3.alloc _) w3.heap.size x rfl (Box.new rfl) hMn (by have:=HB.o;simp;omega) ?_;intro w4 g cap tl hg0 hbx hcp1 hcp2 htl hg4)
     have hw4:=(hw3w.alloc HB.o (.cells #[x.x,x.y] 34)).grown hg4 (by have:=HB.o;simp;omega) hlt0;have hbx2:Box w4 g ((M ++ [x]).flatMap cP ++ tl) 34:=by simpa [cP] using hbx
     clear z1 t0 t1 own3 hg4 hlt0 hbx
     go_loopw [6] (λvk wr=>∃ (q:Nat) (S:List Pt),vk=.int .i64 q/\0<=q/\q<=M.length/\Hi (Moved M S q)/\Box wr g (S.flatMap cP ++ tl) 34/\Below w w wr) (λvk _=>(intOf vk).toNat)
     case atStart=>exact ⟨M.length,M ++ [x],by first | rfl | go_num,hAT,JJ _,hdd (vP M x),hbx2,hw4⟩
     case round=>
      clear hbx2 hw4;obtain ⟨q,S,rfl,hq1,hq2,hS,hbS,hwS⟩:=hrel;have hSl:=hS.o.len;by_cases hq:0 < q
      ·rcases q with _ | q
       ·omega
       ·have hqM:q < M.length:=hq2;obtain ⟨u0,u1,_,_⟩:=vf hbS (j:=q) (by omega);obtain ⟨y0,y1,v0,v1,f0,f1⟩:∃ y0 y1,wr.cell? ⟨g,(q+1) * 2,none⟩=some y0/\wr.cell? ⟨g,(q+1) * 2+1,none⟩=some y1/\wr.frozen? ⟨g,(q+1) * 2,none⟩=false/\wr.frozen? ⟨g,(q+1) * 2+1,none⟩=false:=⟨_,_,vf hbS (j:=q+1) (by omega)⟩;have eg:S[q]=M[q]:=hS.o.get hqM;have hHS:=hdd (hS.o.step hqM);have hbS2:=YR hbS (j:=q+1) (by omega) (M[q]'hqM);rw [eg] at u0 u1;have n5:q < M.length+1:=by omega
        have n6:q+1 < M.length+1:=by omega
        have HBS:=hdd hbS2;have HW:=hdd hwS;clear eg hbS2 hwS hS;clear hbS hSl;go_wp2;exact ⟨⟨q,S.set (q+1) (M[q]'hqM),rfl,by omega,by omega,hHS,HBS.o,(HW.o.setCell hg0 _).setCell hg0 _⟩,by simp [intOf]⟩
      ·obtain rfl:q=0:=by omega
       obtain ⟨y0,y1,v0,v1,f0,f1⟩:∃ y0 y1,wr.cell? ⟨g,0,none⟩=some y0/\wr.cell? ⟨g,1,none⟩=some y1/\wr.frozen? ⟨g,0,none⟩=false/\wr.frozen? ⟨g,1,none⟩=false:=⟨_,_,vf hbS (j:=0) (by omega)⟩;have hbS2:=YR hbS (j:=0) (by omega) x;rw [hS.o.done hAT x] at hbS2;have HBS:=hdd hbS2;have HW:=hdd ((hwS.setCell (p:=⟨g,0,none⟩) hg0 (.int .i64 x.x)).setCell (p:=⟨g,1,none⟩) hg0 (.int .i64 x.y));obtain ⟨z1,t0,t1⟩:=(hA0.ee hwS).f;have n8:0 < M.length+1:=by omega
       have HLn:=hdd (show (M.take 0 ++ x :: M.drop 0).length=M.length+1 by rw [JC,JW,Jc,Ja];omega);have HMB:=hdd (show ∀ p,p∈M.take 0 ++ x :: M.drop 0↔p∈L.take (k+1) by intro p;rw [HI.o.2 p,hM.o p,hT.o];simp);clear hbS2 hwS hbS hS hSl hq;go_wp2;try rw [<-ea]
       go_roundw
       case rel=>exact ⟨k+1,M.take 0 ++ x :: M.drop 0,by go_num,by omega,hdd HI.o.1,HMB,by rw [HLn.o];omega,by rw [HLn.o];exact vM HBS.o hg0 (by rw [zS tn,HLn.o]) hcp1 hcp2 htl,HW.o⟩
       case measure=>simp [intOf];omega
    ·obtain ⟨ad1,A1,ea1,eA1,hB0⟩:=hr1.two (j:=j) (by omega);have hB:=hB0.ee hw1;have hA1:=hA.ee hw1;have hjM:j < M.length:=haM;have cc:=zV (M[j]'(by omega)) x;have e1:IntKind.i64.wrap (j:Int)=j:=by rw [IntKind.wrap_i64];omega
     by_cases hc:0 < cmpP (M[j]'(by omega)) x
     ·have hd:decide (0 < cmpP (M[j]'(by omega)) x)=true:=by simpa using hc
      have HH:=hdd (show ∀ (i:Nat) (_:j<=i) (h2:i < M.length),0 < cmpP (M[i]'h2) x from λi h1 h2=>by
       by_cases e:i=j
       ·subst e;exact hc
       ·exact hhi.o i (by omega) h2)
      clear hc hhi;generalize cmpP (M[j]'(by omega)) x=q at *
      obtain ⟨t0,t1⟩:=hA1.cells;obtain ⟨s0,s1⟩:=hB.cells;go_wp2;refine rgn 14 (λw2 hb=>?_);have hw2:=(upB hw1 hb);have e2:wrap64 (((j+1:Nat):Int) - 1)=j:=by rw [w64];omega
      go_wp2;try rw [<-ea1]
      try rw [<-ea]
      go_roundw
      case rel=>exact ⟨j,by go_num,by omega,HH,hw2⟩
      case measure=>simp [intOf]
     ·have hd:decide (0 < cmpP (M[j]'(by omega)) x)=false:=by simpa using hc
      by_cases hx:M[j]'hjM=x
      ·skip
       have hp:peqI (M[j]'hjM).x (M[j]'hjM).y x.x x.y=true:=yo.2 hx;have HMB:=hdd (show ∀ p,p∈M↔p∈L.take (k+1) by
        intro p;rw [hT.o,JM,<-hM.o p];constructor
        ·exact .inl
        ·rintro (h | h)
         ·exact h
         ·simp at h;subst h;rw [<-hx];exact JX hjM)
       clear hc hx hhi;generalize cmpP (M[j]'hjM) x=q at *
       obtain ⟨t0,t1⟩:=hA1.cells;obtain ⟨s0,s1⟩:=hB.cells;go_wp2;refine rgn 14 (λw2 hb=>?_);have hw2:=(upB hw1 hb);clear t0 t1 s0 s1 hd;obtain ⟨t0,t1⟩:=(hA1.ee hb).cells;obtain ⟨s0,s1⟩:=(hB.ee hb).cells;go_wp2;refine rgn 13 (λw3 hb3=>?_);have hw3:=(upB hw2 hb3);have own3:=hown.kept (zM hw3 none) (by cases a1 <;> simp [Value.ownBlock]);have hw3w:=(upB hw hw3);clear t0 t1 s0 s1 hp cc hb3 hw1 hw2;go_wp2;try rw [<-ea1]
       try rw [<-ea]
       go_roundw
       case rel=>exact ⟨k+1,M,by go_num,by omega,hR,HMB,by omega,own3,hw3w⟩
       case measure=>simp [intOf];omega
      ·have hlt1:cmpP (M[j]'hjM) x < 0:=by have:=zP (p:=M[j]'hjM) (q:=x);have:cmpP (M[j]'hjM) x≠0:=λe=>hx (this.1 e);omega
       have hAT:j+1<=M.length:=hjM;have hlo:∀ (i:Nat) (hi:i < j+1),cmpP (M[i]'(by omega)) x < 0:=rising_below wholeP hR.o hjM hlt1;have hhi2:=λi h1 h2=>hhi.o i h1 h2;have hp:peqI (M[j]'hjM).x (M[j]'hjM).y x.x x.y=false:=by rw [<-QO,yo];exact hx
       clear hc hx hlt1 hhi;generalize cmpP (M[j]'hjM) x=q at *
       obtain ⟨t0,t1⟩:=hA1.cells;obtain ⟨s0,s1⟩:=hB.cells;go_wp2;refine rgn 14 (λw2 hb=>?_);have hw2:=(upB hw1 hb);clear t0 t1 s0 s1 hd;obtain ⟨t0,t1⟩:=(hA1.ee hb).cells;obtain ⟨s0,s1⟩:=(hB.ee hb).cells;go_wp2;refine rgn 13 (λw3 hb3=>?_);have hw3:=(upB hw2 hb3);clear t0 t1 s0 s1 hp cc;have HI:=hdd (xR wholeP hR.o (x:=x) (k:=(j+1)) hAT hlo hhi2);obtain ⟨z1,t0,t1⟩:=(hA.ee hw3).f;have own3:=hown.kept (zM hw3 none) (by cases a1 <;> simp [Value.ownBlock]);rw [ea1] at own3;have HB:=hdd (JY hw.size hw3.size);have hMn:M.length<=1000000:=by omega
       have hw3w:=(upB hw hw3);have hlt0:=λq hq=>(own3.lt q hq).1;clear hlo hhi2;go_wp2_with (at_builtin;refine YU rfl _ _ rfl w.heap.size M.length _ (M.flatMap cP) rfl (own3.alloc _) w3.heap.size x rfl (Box.new rfl) hMn (by have:=HB.o;simp;omega) ?_;intro w4 g cap tl hg0 hbx hcp1 hcp2 htl hg4)
       have hw4:=(hw3w.alloc HB.o (.cells #[x.x,x.y] 34)).grown hg4 (by have:=HB.o;simp;omega) hlt0;have hbx2:Box w4 g ((M ++ [x]).flatMap cP ++ tl) 34:=by simpa [cP] using hbx
       clear z1 t0 t1 own3 hg4 hlt0 hbx
       go_loopw [6] (λvk wr=>∃ (q:Nat) (S:List Pt),vk=.int .i64 q/\(j+1)<=q/\q<=M.length/\Hi (Moved M S q)/\Box wr g (S.flatMap cP ++ tl) 34/\Below w w wr) (λvk _=>(intOf vk).toNat)
       case atStart=>exact ⟨M.length,M ++ [x],by first | rfl | go_num,hAT,JJ _,hdd (vP M x),hbx2,hw4⟩
       case round=>
        clear hbx2 hw4;obtain ⟨q,S,rfl,hq1,hq2,hS,hbS,hwS⟩:=hrel;have hSl:=hS.o.len;by_cases hq:(j+1) < q
        ·rcases q with _ | q
         ·omega
         ·have hqM:q < M.length:=hq2;obtain ⟨u0,u1,_,_⟩:=vf hbS (j:=q) (by omega);obtain ⟨y0,y1,v0,v1,f0,f1⟩:∃ y0 y1,wr.cell? ⟨g,(q+1) * 2,none⟩=some y0/\wr.cell? ⟨g,(q+1) * 2+1,none⟩=some y1/\wr.frozen? ⟨g,(q+1) * 2,none⟩=false/\wr.frozen? ⟨g,(q+1) * 2+1,none⟩=false:=⟨_,_,vf hbS (j:=q+1) (by omega)⟩;have eg:S[q]=M[q]:=hS.o.get hqM;have hHS:=hdd (hS.o.step hqM);have hbS2:=YR hbS (j:=q+1) (by omega) (M[q]'hqM);rw [eg] at u0 u1;have n5:q < M.length+1:=by omega
          have n6:q+1 < M.length+1:=by omega
          have HBS:=hdd hbS2;have HW:=hdd hwS;clear eg hbS2 hwS hS;clear hbS hSl;go_wp2;exact ⟨⟨q,S.set (q+1) (M[q]'hqM),rfl,by omega,by omega,hHS,HBS.o,(HW.o.setCell hg0 _).setCell hg0 _⟩,by simp [intOf]⟩
        ·obtain rfl:q=(j+1):=by omega
         obtain ⟨y0,y1,v0,v1,f0,f1⟩:∃ y0 y1,wr.cell? ⟨g,(j+1) * 2,none⟩=some y0/\wr.cell? ⟨g,(j+1) * 2+1,none⟩=some y1/\wr.frozen? ⟨g,(j+1) * 2,none⟩=false/\wr.frozen? ⟨g,(j+1) * 2+1,none⟩=false:=⟨_,_,vf hbS (j:=(j+1)) (by omega)⟩;have hbS2:=YR hbS (j:=(j+1)) (by omega) x;rw [hS.o.done hAT x] at hbS2;have HBS:=hdd hbS2;have HW:=hdd ((hwS.setCell (p:=⟨g,(j+1) * 2,none⟩) hg0 (.int .i64 x.x)).setCell (p:=⟨g,(j+1) * 2+1,none⟩) hg0 (.int .i64 x.y));obtain ⟨z1,t0,t1⟩:=(hA0.ee hwS).f;have n8:(j+1) < M.length+1:=by omega
         have HLn:=hdd (show (M.take (j+1) ++ x :: M.drop (j+1)).length=M.length+1 by rw [JC,JW,Jc,Ja];omega);have HMB:=hdd (show ∀ p,p∈M.take (j+1) ++ x :: M.drop (j+1)↔p∈L.take (k+1) by intro p;rw [HI.o.2 p,hM.o p,hT.o];simp);clear hbS2 hwS hbS hS hSl hq;go_wp2;try rw [<-ea]
         go_roundw
         case rel=>exact ⟨k+1,M.take (j+1) ++ x :: M.drop (j+1),by go_num,by omega,hdd HI.o.1,HMB,by rw [HLn.o];omega,by rw [HLn.o];exact vM HBS.o hg0 (by rw [zS tn,HLn.o]) hcp1 hcp2 htl,HW.o⟩
         case measure=>simp [intOf];omega
def cnrs (L:List Tri3):List Pt:=L.flatMap λT=>[T.A,T.B,T.C]
theorem Xf:∀ L:List Tri3,(cnrs L).length=3 * L.length
 | []=>rfl
 | T :: L=>by have:=Xf L;unfold cnrs at *;rw [JE,JC,this];simp;omega
section
variable {α:Type} [DecidableEq α] {c:α->α->Int}
structure Cpt (c:α->α->Int) (L:List α) (r:Nat) (M:List α):Prop where
 rise:Rising c M
 mem:∀ p,p∈M↔p∈L.take r
 last:∀ (h:0 < r) (h2:r<=L.length),M.getLast? = some (L[r - 1]'(by omega))
 len:M.length<=r
omit [DecidableEq α] in
theorem rising_snoc (W:Whole c) {M:List α} {x y:α} (h:Rising c M) (hl:M.getLast? = some y) (hxy:c y x < 0):Rising c (M ++ [x]):=by
 unfold Rising at *;rw [V1];refine ⟨h,by simp,λa ha b hb=>?_⟩;simp at hb;subst hb;rw [List.getLast?_eq_some_iff] at hl;obtain ⟨N,rfl⟩:=hl;rw [V1] at h;rcases JM.1 ha with ha | ha
 ·exact W.trans (h.2.2 a ha y (by simp)) hxy
 ·simp at ha;subst ha;exact hxy
omit [DecidableEq α] in
theorem Cpt.start {L:List α} (h:0 < L.length):Cpt c L 1 (L.take 1):=by
 cases L with
 | nil=>simp at h
 | cons x L=>exact ⟨by simp [Rising],by simp,by simp,by simp⟩
omit [DecidableEq α] in
theorem Cpt.next (W:Whole c) {L M:List α} {r:Nat} (h:Cpt c L r M) (ho:InOrder c L) (h0:0 < r) (hr:r < L.length) (hne:L[r]≠L[r - 1]'(by omega)):Cpt c L (r+1) (M ++ [L[r]]):=by
 have hl:=h.last h0 (by omega);have hle:c (L[r - 1]'(by omega)) L[r]<=0:=by
  unfold InOrder at ho;rw [Jd] at ho;exact ho _ _ _ _ (by omega)
 have hlt:c (L[r - 1]'(by omega)) L[r] < 0:=by
  have:c (L[r - 1]'(by omega)) L[r]≠0:=λe=>hne (W.eq0.1 e).symm;omega
 refine ⟨rising_snoc W h.rise hl hlt,λp=>?_,λ_ _=>by simp,by have:=h.len;simp;omega⟩;rw [JK hr,JM,JM,h.mem p]
omit [DecidableEq α] in
theorem Cpt.same {L M:List α} {r:Nat} (h:Cpt c L r M) (h0:0 < r) (hr:r < L.length) (he:L[r]=L[r - 1]'(by omega)):Cpt c L (r+1) M:=by
 refine ⟨h.rise,λp=>?_,λ_ _=>?_,by have:=h.len;omega⟩
 ·rw [JK hr,JM,h.mem p];constructor
  ·exact .inl
  ·rintro (hp | hp)
   ·exact hp
   ·simp at hp;rw [hp,he];exact VX.2 ⟨r - 1,by omega,rfl⟩
 ·rw [h.last h0 (by omega)];simp [he]
omit [DecidableEq α] in
theorem Cpt.all (W:Whole c) {L:List α} (ho:InOrder c L):∀ r,r<=L.length->0 < r->(∀ (i:Nat) (h0:0 < i) (_:i < r) (h2:i < L.length),L[i]≠L[i - 1]'(by omega))->Cpt c L r (L.take r)
 | 0,_,h,_=>absurd h (by omega)
 | 1,h,_,_=>Cpt.start (by omega)
 | r+2,h,_,hd=>by
  have ih:=Cpt.all W ho (r+1) (by omega) (by omega) (λi h0 h1 h2=>hd i h0 (by omega) h2);have:=ih.next W ho (by omega) (by omega) (hd (r+1) (by omega) (by omega) (by omega))
  rwa [<-JK (by omega)] at this
end
theorem tr {w:World} {ops:Array Oper} {rest:List Oper} {o:Oper} {a:Act} {Q:Exit->Act->World->Prop} (hgd:o.guard=none) (s x:Operand) (ho:o.op=.call { callee:=.builtin .append,args:=#[s,x],argTypes:=#[134,134] }) (B:Nat) (v:Value) (L:List Pt) (hs:a.eval s=v) (hown:w.ownsRow B 34 2 v L.length (L.flatMap cP)) (bx:Nat) (p:Pt) (hx:a.eval x=.slice (some ⟨bx,0,none⟩) 1 1) (hbx:Box w bx (cP p) 34) (hn:L.length<=1000000) (hbase:B<=w.heap.size) (h:∀ w' v',w'.ownsRow B 34 2 v' (L ++ [p]).length ((L ++ [p]).flatMap cP)->w.grownBy w' v.ownBlock->v'≠.slice none 0 0->wpList prog ops Q rest (a.put o.dst v') w'):wpList prog ops Q (o :: rest) a w:=by
 obtain ⟨i0,hi,hz0,hz1,hz2⟩:=info_parts tP;refine wpList_append_own w hgd s x 134 ho B 34 i0 _ 2 16 underlying134 hi hz0 hz1 hz2 rfl (by decide) v L.length _ hs hown ⟨bx,0,none⟩ 1 1 (cP p) hx rfl ?_ (cP_one p) ?_ ?_ hbase ?_
 ·intro j u hj;have:=hbx.f.1 j;rw [hj] at this;rw [Addr.add_lit,QJ];exact this
 ·unfold maxLen;omega
 ·omega
 ·intro v' w' hown' hg hnil;refine h w' v' ?_ hg (λe=>by have:=(hnil.1 e).2;omega);rw [JC,QB,Je]
  simpa using hown'
def froms (E:Es):List Pt:=E.map λe=>e.1.1
def wys (T:Tri3):Es:=[((T.A,T.B),T),((T.B,T.C),T),((T.C,T.A),T)]
theorem jB {T:Tri3} (h:valT T):T.A≠T.B/\T.B≠T.C/\T.C≠T.A:=by
 unfold valT at h;simp only [JB,V4,QF] at h;have h0:=h.1;refine ⟨λe=>h0 ?_,λe=>h0 ?_,λe=>h0 ?_⟩
 ·rw [e];unfold ori det;simp [sgn]
 ·rw [e];unfold ori det;rw [VQ (T.C.x - T.A.x)];simp [sgn]
 ·rw [e];unfold ori det;simp [sgn]
theorem tY {E:Es} {T:Tri3} (h:fitsE E T):getE E (T.A,T.B)=none/\getE E (T.B,T.C)=none/\getE E (T.C,T.A)=none/\valT T=true:=by
 unfold fitsE at h
 simpa only [JB,Vr] using h
theorem putT_eq {E:Es} {T:Tri3} (h:fitsE E T):(putT E T).Perm (E ++ wys T):=by
 obtain ⟨h1,h2,h3,hv⟩:=tY h;obtain ⟨a1,a2,a3⟩:=jB hv;rw [qQ] at h1 h2 h3;unfold putT putE wys;rw [kO h1,kO (x:=(T.B,T.C)) (E:=((T.A,T.B),T) :: E) (λp hp=>by
  rcases J1.1 hp with rfl | hp
  ·intro e;simp at e;exact a1 e.1
  ·exact h2 p hp),kO (x:=(T.C,T.A)) (E:=((T.B,T.C),T) :: ((T.A,T.B),T) :: E) (λp hp=>by
  rcases J1.1 hp with rfl | hp
  ·intro e;simp at e;exact a2 e.1
  ·rcases J1.1 hp with rfl | hp
   ·intro e;simp at e;exact a3 e.1.symm
   ·exact h3 p hp)]
 refine List.Perm.trans ?_ (Jq (l₁:=[((T.A,T.B),T),((T.B,T.C),T),((T.C,T.A),T)]));exact (List.reverse_perm [((T.A,T.B),T),((T.B,T.C),T),((T.C,T.A),T)]).append_right E
structure Good (E:Es) (L:List Tri3):Prop where
 perm:E.Perm (L.flatMap wys)
 nodup:KeysNodup E
 val:∀ T∈L,valT T=true
theorem Zz:∀ (L:List Tri3),(∀ T∈L,valT T=true)->heads yes (L.flatMap wys)=L
 | [],_=>rfl
 | T :: L,h=>by
  obtain ⟨a1,a2,a3⟩:=jB (h T (by simp));rw [JE,zu,Zz L (λS hS=>h S (by simp [hS]))];have:heads yes (wys T)=[T]:=by
   unfold heads wys yes;simp [Ne.symm a1,a3]
  rw [this];rfl
theorem Good.heads {E:Es} {L:List Tri3} (h:Good E L):(heads yes E).Perm L:=by
 have:=xf (p:=yes) h.perm
 rwa [Zz L h.val] at this
theorem Ya:∀ L:List Tri3,(L.flatMap wys).length=3 * L.length
 | []=>rfl
 | T :: L=>by rw [JE,JC,Ya L,JW];simp [wys];omega
theorem Good.len {E:Es} {L:List Tri3} (h:Good E L):E.length=3 * L.length:=by rw [h.perm.length_eq,Ya]
theorem yG {a b c:Pt} (va:vld a) (vb:vld b) (vc:vld c) (h:0 < det a b c):Cyc (mk a b c) a b c/\valT (mk a b c)=true:=by
 have o:ori a b c=1:=by rw [ori_v va vb vc,sgn_pos];exact h
 have h0:¬ ori a b c=0:=by omega
 obtain ⟨_,_,_,n1,n2,n3⟩:=Yz h0;have e0:mk a b c=mkT a b c:=by unfold mk;rw [J0 h0,JH o]
 refine ⟨?_,(mk_ok h0).1⟩;rw [e0];rcases kG va vb vc n1 n2 n3 with ⟨_,_,e⟩ | ⟨_,_,e⟩ | ⟨_,_,e⟩ <;> rw [e]
 ·exact .inl ⟨rfl,rfl,rfl⟩
 ·exact .inr (.inr ⟨rfl,rfl,rfl⟩)
 ·exact .inr (.inl ⟨rfl,rfl,rfl⟩)
theorem Yd {T:Tri3} (h:valT T):key T.A < key T.B/\key T.A < key T.C:=by
 obtain ⟨va,vb,vc,hD⟩:=k8 h;obtain ⟨n1,n2,n3⟩:=zQ hD;rw [Z3] at h;unfold valS lds at h;rw [xA va vb,xA va vc] at h;simp only [JB,JA] at h;have k1:key T.A≠key T.B:=λe=>n1 (yj va vb e);have k2:key T.A≠key T.C:=λe=>n3 (yj va vc e).symm;omega
theorem val_cyc {S T:Tri3} (hS:valT S) (hT:valT T) (h:Cyc S T.A T.B T.C):S=T:=by
 have s:=Yd hS;have t:=Yd hT;rcases h with ⟨h1,h2,h3⟩ | ⟨h1,h2,h3⟩ | ⟨h1,h2,h3⟩
 ·cases S;cases T;simp_all
 ·rw [h1,h2,h3] at t;omega
 ·rw [h1,h2,h3] at t;omega
def part (p a b:Pt):List Tri3:=if ori a b p=0 then [] else [mk a b p]
def cutP (p:Pt) (T:Tri3):List Tri3:=part p T.A T.B ++ (part p T.B T.C ++ part p T.C T.A)
theorem zy {p a b:Pt} (va:vld a) (vb:vld b) (vp:vld p) (h:0 < det a b p):part p a b=[mk a b p]:=by
 unfold part;rw [J0];rw [ori_v va vb vp,yZ];omega
theorem qb {p a b:Pt} (va:vld a) (vb:vld b) (vp:vld p) (h:det a b p=0):part p a b=[]:=by
 unfold part;rw [JH];rw [ori_v va vb vp,h];rfl
theorem xw {T:Tri3} {a b c:Pt} (h:Cyc T a b c) (p:Pt):(cutP p T).Perm (part p a b ++ (part p b c ++ part p c a)):=by
 unfold cutP;rcases h with ⟨rfl,rfl,rfl⟩ | ⟨rfl,rfl,rfl⟩ | ⟨rfl,rfl,rfl⟩
 ·exact .refl _
 ·exact List.perm_append_comm.trans (by rw [JL])
 ·rw [<-JL];exact Jq
theorem jf {L:List Tri3} (h:(L.flatMap ways).Nodup):L.Nodup:=by
 induction L with
 | nil=>exact UL
 | cons T L ih=>
  rw [JE,Jg] at h;rw [Jf];refine ⟨λhT=>?_,ih h.2.1⟩;exact h.2.2 (T.A,T.B) (by simp [ways]) (T.A,T.B) (JO.2 ⟨T,hT,by simp [ways]⟩) rfl
theorem tZ {α:Type} [DecidableEq α] {L:List α} (hn:L.Nodup) {p:α->Bool} {a:α} (ha:a∈L) (h:∀ x∈L,p x=true↔x=a):(L.filter p).Perm [a]/\L.Perm (a :: L.filter λx => !p x):=by
 have h1:(L.filter p).Perm [a]:=by
  refine (V2 (hn.sublist List.filter_sublist) (by simp)).2 λx=>?_;simp only [JZ,QP];exact ⟨λ⟨k1,k2⟩=>(h x k1).1 k2,λk=>by subst k;exact ⟨ha,(h x ha).2 rfl⟩⟩
 refine ⟨h1,?_⟩;have:=List.filter_append_perm p L;exact this.symm.trans (h1.append_right _)
theorem filter_two {α:Type} [DecidableEq α] {L:List α} (hn:L.Nodup) {p:α->Bool} {a b:α} (ha:a∈L) (hb:b∈L) (hab:a≠b) (h:∀ x∈L,p x=true↔(x=a\/x=b)):(L.filter p).Perm [a,b]/\L.Perm (a :: b :: L.filter λx => !p x):=by
 have h1:(L.filter p).Perm [a,b]:=by
  refine (V2 (hn.sublist List.filter_sublist) (by simp [hab])).2 λx=>?_;simp only [JZ,J1,JI,Jp];refine ⟨λ⟨k1,k2⟩=>(h x k1).1 k2,λk=>?_⟩;rcases k with rfl | rfl
  ·exact ⟨ha,(h x ha).2 (.inl rfl)⟩
  ·exact ⟨hb,(h x hb).2 (.inr rfl)⟩
 refine ⟨h1,?_⟩;have:=List.filter_append_perm p L;exact this.symm.trans (h1.append_right _)
inductive Spots (W H:Int) (L:List Tri3) (p:Pt):List Tri3->Prop
 | within (T:Tri3):T∈L->insT T p->Spots W H L p [T]
 | rim (T:Tri3) (a b c:Pt):T∈L->Cyc T a b c->edg a b c p->onRim W H a b->Spots W H L p [T]
 | edge (T S:Tri3) (a b c d:Pt):T∈L->S∈L->Cyc T a b c->Cyc S b a d->edg a b c p->¬ onRim W H a b->Spots W H L p [T,S]
section
variable {W H:Int} {L:List Tri3} (h:Tiles W H L)
include h
theorem Tiles.spots (hW:0 < W) (hH:0 < H) {p:Pt} (hp:inBox W H p) (hn:∀ T∈L,¬ isCnr T p) {f:Tri3->Bool} (hf:∀ T∈L,f T=true↔hasT T p):∃ F,Spots W H L p F/\(L.filter f).Perm F/\L.Perm (F ++ L.filter λx => !f x):=by
 obtain ⟨T,hT,k⟩:=h.covers hW hH hp;have nd:=jf h.once;rcases uT (h.pos T hT) k with g | g | ⟨a,b,c,hc,g⟩
 ·exact absurd g (hn T hT)
 ·have := tZ nd hT (p := f) (λx hx => by
    rw [hf x hx];exact ⟨λq=>(h.ins_one hT hx g q).symm,λe=>by rw [e];exact k⟩)
  exact ⟨_,.within T hT g,this⟩
 ·have two:=λx hx (q:hasT x p)=>h.edg_two hT hx hc g q (hn x hx);by_cases hr:onRim W H a b
  ·have := tZ nd hT (p := f) (λx hx => by
     rw [hf x hx];refine ⟨λq=>?_,λe=>by rw [e];exact k⟩;rcases two x hx q with e | ⟨_,e⟩
     ·exact e
     ·exact absurd hr e)
   exact ⟨_,.rim T a b c hT hc g hr,this⟩
  ·have hm:=(h.rim (a,b) (y7 hT hc.way)).resolve_right hr;obtain ⟨S,hS,hw⟩:=JO.1 hm;have hw:(b,a)∈ways S:=hw;obtain ⟨d,hd⟩:=yd hw;have pT:=h.cyc_pos hT hc;have pS:=h.cyc_pos hS hd;have ho:=qi pT pS g;have hne:T≠S:=by
    rintro rfl;have e1:=(hd.cnr_iff c).1 hc.turn.turn.cnr;obtain ⟨n1,n2,n3⟩:=zQ pT;rcases e1 with e | e | e
    ·exact n2 e.symm
    ·exact n3 e
    ·rw [<-e,zW] at pS;omega
   have hasS:hasT S p:=by
    obtain ⟨o1,o2,o3⟩:=ho;have:0<=det b a p/\0<=det a d p/\0<=det d b p:=⟨by omega,by omega,by omega⟩;unfold hasT;rcases hd with ⟨rfl,rfl,rfl⟩ | ⟨rfl,rfl,rfl⟩ | ⟨rfl,rfl,rfl⟩
    ·exact this
    ·exact ⟨this.2.2,this.1,this.2.1⟩
    ·exact ⟨this.2.1,this.2.2,this.1⟩
   have:=filter_two nd hT hS hne (p:=f) (λx hx=>by
    rw [hf x hx];refine ⟨λq=>?_,λe=>?_⟩
    ·rcases two x hx q with e | ⟨e,_⟩
     ·exact .inl e
     ·exact .inr (x8 h.once hx hS e hw)
    ·rcases e with rfl | rfl
     ·exact k
     ·exact hasS)
   exact ⟨_,.edge T S a b c d hT hS hc hd g hr,this⟩
theorem vz (hW:0 < W) (hH:0 < H) (hW':W < 16777216) (hH':H < 16777216) {p:Pt} (hp:inBox W H p) (hn:∀ T∈L,¬ isCnr T p) {F M:List Tri3} (hF:Spots W H L p F) (hL:L.Perm (F ++ M)):Tiles W H (F.flatMap (cutP p) ++ M)/\(∀ T∈F.flatMap (cutP p),valT T=true/\isCnr T p):=by
 have vb:∀ q,inBox W H q->vld q=true:=λq hq=>by rw [zh];unfold inBox at hq;omega
 have vp:=vb p hp;cases hF with
 | within T hT hi=>
  have hc:=Cyc.refl T;have va:=vb _ (h.cyc_box hT hc);have vb':=vb _ (h.cyc_box hT hc.turn);have vc:=vb _ (h.cyc_box hT hc.turn.turn);obtain ⟨i1,i2,i3⟩:=hi;have e:[T].flatMap (cutP p)=[mk T.A T.B p,mk T.B T.C p,mk T.C T.A p]:=by
   simp only [JE,QQ,Ji];unfold cutP;rw [zy va vb' vp i1,zy vb' vc vp i2,zy vc va vp i3];rfl
  rw [e];have m1:=yG va vb' vp i1;have m2:=yG vb' vc vp i2;have m3:=yG vc va vp i3;refine ⟨h.cut3 hn hp hL hc ⟨i1,i2,i3⟩ m1.1 m2.1 m3.1,λX hX=>?_⟩;simp only [J1,JI,Jp] at hX;rcases hX with rfl | rfl | rfl
  ·exact ⟨m1.2,m1.1.turn.turn.cnr⟩
  ·exact ⟨m2.2,m2.1.turn.turn.cnr⟩
  ·exact ⟨m3.2,m3.1.turn.turn.cnr⟩
 | rim T a b c hT hc hi hr=>
  have va:=vb _ (h.cyc_box hT hc);have vb':=vb _ (h.cyc_box hT hc.turn);have vc:=vb _ (h.cyc_box hT hc.turn.turn);obtain ⟨i1,i2,i3⟩:=hi;have e:([T].flatMap (cutP p)).Perm [mk b c p,mk c a p]:=by
   simp only [JE,QQ,Ji];have:=xw hc p;rw [qb va vb' vp i1,zy vb' vc vp i2,zy vc va vp i3] at this;exact this
  have m2:=yG vb' vc vp i2;have m3:=yG vc va vp i3;refine ⟨(h.cut2r hn hp hL hc ⟨i1,i2,i3⟩ hr m2.1 m3.1).perm (e.symm.append_right M),λX hX=>?_⟩;rw [e.mem_iff] at hX;simp only [J1,JI,Jp] at hX;rcases hX with rfl | rfl
  ·exact ⟨m2.2,m2.1.turn.turn.cnr⟩
  ·exact ⟨m3.2,m3.1.turn.turn.cnr⟩
 | edge T S a b c d hT hS hc hd hi hr=>
  have va:=vb _ (h.cyc_box hT hc);have vb':=vb _ (h.cyc_box hT hc.turn);have vc:=vb _ (h.cyc_box hT hc.turn.turn);have vd:=vb _ (h.cyc_box hS hd.turn.turn);have ho:=qi (h.cyc_pos hT hc) (h.cyc_pos hS hd) hi;obtain ⟨i1,i2,i3⟩:=hi;obtain ⟨o1,o2,o3⟩:=ho;have e:([T,S].flatMap (cutP p)).Perm [mk b c p,mk c a p,mk a d p,mk d b p]:=by
   simp only [JE,QQ,Ji];have e1:=xw hc p;rw [qb va vb' vp i1,zy vb' vc vp i2,zy vc va vp i3] at e1;have e2:=xw hd p;rw [qb vb' va vp o1,zy va vd vp o2,zy vd vb' vp o3] at e2;exact e1.append e2
  have m1:=yG vb' vc vp i2;have m2:=yG vc va vp i3;have m3:=yG va vd vp o2;have m4:=yG vd vb' vp o3;refine ⟨(h.cut4 hn hp hL hc hd ⟨i1,i2,i3⟩ m1.1 m2.1 m3.1 m4.1).perm (e.symm.append_right M),λX hX=>?_⟩;rw [e.mem_iff] at hX;simp only [J1,JI,Jp] at hX;rcases hX with rfl | rfl | rfl | rfl
  ·exact ⟨m1.2,m1.1.turn.turn.cnr⟩
  ·exact ⟨m2.2,m2.1.turn.turn.cnr⟩
  ·exact ⟨m3.2,m3.1.turn.turn.cnr⟩
  ·exact ⟨m4.2,m4.1.turn.turn.cnr⟩
end
theorem jR (L:List Tri3):(L.flatMap wys).map (·.1)=L.flatMap ways:=by
 induction L with
 | nil=>rfl
 | cons T L ih=>rw [JE,JE,QC,ih];rfl
theorem kw {L:List Tri3} {w:Pt×Pt} {T:Tri3}:(w,T)∈L.flatMap wys↔T∈L/\w∈ways T:=by
 rw [JO];constructor
 ·rintro ⟨S,hS,h⟩;simp only [wys,J1,Jt,JI,Jp] at h;rcases h with ⟨rfl,rfl⟩ | ⟨rfl,rfl⟩ | ⟨rfl,rfl⟩ <;> exact ⟨hS,by simp [ways]⟩
 ·rintro ⟨hS,h⟩;refine ⟨T,hS,?_⟩;simp only [ways,J1,JI,Jp] at h;rcases h with rfl | rfl | rfl <;> simp [wys]
section
variable {E:Es} {L:List Tri3} (h:Good E L)
include h
theorem Good.once:(L.flatMap ways).Nodup:=by
 rw [<-jR];have hn:=h.nodup;unfold KeysNodup at hn;exact (h.perm.map (·.1)).nodup_iff.1 hn
theorem Good.get {a b:Pt} {T:Tri3}:getE E (a,b)=some T↔T∈L/\(a,b)∈ways T:=by
 rw [getE_iff h.nodup,h.perm.mem_iff,kw]
theorem Good.get_none {a b:Pt}:getE E (a,b)=none↔(a,b) ∉ L.flatMap ways:=by
 rw [qQ];constructor
 ·intro k hm;rw [<-jR,JS] at hm;obtain ⟨p,hp,e⟩:=hm;exact k p (h.perm.mem_iff.2 hp) e
 ·intro k p hp e;apply k;rw [<-jR,JS];exact ⟨p,h.perm.mem_iff.1 hp,e⟩
theorem Good.has {T:Tri3}:hasE E T=true↔T∈L:=by
 unfold hasE;constructor
 ·intro k;cases hg:getE E (T.A,T.B) with
  | none=>rw [hg] at k;cases k
  | some S=>
   rw [hg] at k;have e:=k9.1 k;rw [<-e];exact (h.get.1 hg).1
 ·intro k;rw [h.get.2 ⟨k,by simp [ways]⟩];exact k9.2 rfl
theorem Good.order {M:List Tri3} (p:L.Perm M):Good E M:=⟨h.perm.trans (p.flatMap_right _),h.nodup,λT hT=>h.val T (p.mem_iff.2 hT)⟩
end
theorem takeT_nodup {E:Es} (h:KeysNodup E) (T:Tri3):KeysNodup (takeT E T):=xj (xj (xj h _) _) _
theorem Good.take {E:Es} {T:Tri3} {M:List Tri3} (h:Good E (T :: M)):hasE E T=true/\Good (takeT E T) M:=by
 refine ⟨h.has.2 (by simp),?_,takeT_nodup h.nodup T,λS hS=>h.val S (by simp [hS])⟩;have hT:=h.val T (by simp);have ho:=h.once;rw [JE,Jg] at ho
 -- what is taken: the three pairs of T
 have hp:E.Perm (wys T ++ M.flatMap wys):=by have:=h.perm;rwa [JE] at this
 have e1:takeT E T=E.filter (λp=>decide (p.1 ∉ ways T)):=by
  unfold takeT delE;rw [UI,UI];refine List.filter_congr λp _=>?_;simp only [ways,J1,JI,Jp];by_cases a1:p.1=(T.A,T.B) <;> by_cases a2:p.1=(T.B,T.C) <;> by_cases a3:p.1=(T.C,T.A) <;> simp [a1,a2,a3]
 rw [e1];refine (hp.filter _).trans ?_;rw [Qf];have f1:(wys T).filter (λp=>decide (p.1 ∉ ways T))=[]:=by
  rw [VL];intro p hp';have:p.1∈ways T:=by
   have:p∈[T].flatMap wys:=by simpa using hp'
   obtain ⟨q,S⟩:=p;have:=kw.1 this;simp only [QP] at this;rw [<-this.1];exact this.2
  simpa using this
 have f2:(M.flatMap wys).filter (λp=>decide (p.1 ∉ ways T))=M.flatMap wys:=by
  rw [Qv];intro p hp';have:p.1 ∉ ways T:=λk=>ho.2.2 p.1 k p.1 (by rw [<-jR];exact List.mem_map_of_mem hp') rfl
  simpa using this
 rw [f1,f2,Jz]
theorem Good.put {E:Es} {T:Tri3} {M:List Tri3} (h:Good E M) (hv:valT T) (hn:∀ w∈ways T,w ∉ M.flatMap ways):fitsE E T=true/\Good (putT E T) (T :: M):=by
 have hf:fitsE E T=true:=by
  unfold fitsE;simp only [JB,Vr];exact ⟨h.get_none.2 (hn _ (by simp [ways])),h.get_none.2 (hn _ (by simp [ways])),h.get_none.2 (hn _ (by simp [ways])),hv⟩
 refine ⟨hf,?_,qG (qG (qG h.nodup _ _) _ _) _ _,λS hS=>?_⟩
 ·refine (putT_eq hf).trans ?_;rw [JE];exact (h.perm.append_right _).trans Jq
 ·rcases J1.1 hS with rfl | hS
  ·exact hv
  ·exact h.val S hS
theorem Good.takes:∀ {F:List Tri3} {E:Es} {M:List Tri3},Good E (F ++ M)->(takeRun E F).1=F.length/\Good (takeRun E F).2 M
 | [],E,M,h=>⟨rfl,h⟩
 | T :: F,E,M,h=>by
  obtain ⟨h1,h2⟩:=Good.take (E:=E) (T:=T) (M:=F ++ M) h;obtain ⟨k1,k2⟩:=Good.takes h2;unfold takeRun;rw [JH h1];exact ⟨by simp [k1],k2⟩
theorem Good.puts:∀ {I:List Tri3} {E:Es} {M:List Tri3},Good E M->(∀ T∈I,valT T=true)->((I ++ M).flatMap ways).Nodup->(putRun E I).1=I.length/\Good (putRun E I).2 (I ++ M)
 | [],E,M,h,_,_=>⟨rfl,h⟩
 | T :: I,E,M,h,hv,hn=>by
  have hn':(ways T ++ (I ++ M).flatMap ways).Nodup:=by rw [<-JE];exact hn
  rw [Jg] at hn';obtain ⟨h1,h2⟩:=Good.put (E:=E) (T:=T) (M:=M) h (hv T (by simp)) (λw hw k=>hn'.2.2 w hw w (by rw [Je];exact Jr _ k) rfl);obtain ⟨k1,k2⟩:=Good.puts (I:=I) h2 (λS hS=>hv S (by simp [hS])) ((zv (QM (a:=T) (l₁:=I) (l₂:=M))).nodup_iff.2 hn);unfold putRun;rw [JH h1];exact ⟨by simp [k1],k2.order QM⟩
def someC (L:List Tri3) (p:Pt):Prop:=∃ T∈L,isCnr T p
structure Kept (K:Pt->Pt->Prop) (L L':List Tri3):Prop where
 len:L'.length=L.length
 cnr:∀ p,someC L' p↔someC L p
 wall:∀ a b,K a b->(a,b)∈L.flatMap ways->(a,b)∈L'.flatMap ways
theorem Kept.refl (K:Pt->Pt->Prop) (L:List Tri3):Kept K L L:=⟨rfl,λ_=>Vw,λ_ _ _ h=>h⟩
theorem Kept.trans {K:Pt->Pt->Prop} {A B C:List Tri3} (h:Kept K A B) (k:Kept K B C):Kept K A C:=
 ⟨k.len.trans h.len,λp=>(k.cnr p).trans (h.cnr p),λa b w m=>k.wall a b w (h.wall a b w m)⟩
theorem Kept.perm {K:Pt->Pt->Prop} {L M:List Tri3} (p:L.Perm M):Kept K L M:=
 ⟨p.length_eq.symm,λq=>by unfold someC;simp only [p.mem_iff],λ_ _ _ h=>(zv p).mem_iff.1 h⟩
structure Flp (K:Pt->Pt->Prop) (L:List Tri3) (S R:Tri3) (M:List Tri3) (a b c d:Pt):Prop where
 make ::
 perm:L.Perm (S :: R :: M)
 one:Cyc S a b c
 two:Cyc R b a d
 free:¬ K a b/\¬ K b a
 left:0 < det c a d
 right:0 < det d b c
section
variable {W H:Int} {K:Pt->Pt->Prop} {L:List Tri3} {S R:Tri3} {M:List Tri3} {a b c d:Pt}
theorem Flp.pts (f:Flp K L S R M a b c d) (h:Tiles W H L):inBox W H a/\inBox W H b/\inBox W H c/\inBox W H d:=by
 have mS:S∈L:=f.perm.mem_iff.2 (by simp);have mR:R∈L:=f.perm.mem_iff.2 (by simp);exact ⟨h.cyc_box mS f.one,h.cyc_box mS f.one.turn,h.cyc_box mS f.one.turn.turn,h.cyc_box mR f.two.turn.turn⟩
theorem Flp.news (f:Flp K L S R M a b c d) (h:Tiles W H L) (hW:W < 16777216) (hH:H < 16777216):(Cyc (mk c a d) c a d/\valT (mk c a d)=true)/\(Cyc (mk d b c) d b c/\valT (mk d b c)=true):=by
 have vb:∀ q,inBox W H q->vld q=true:=λq hq=>by rw [zh];unfold inBox at hq;omega
 obtain ⟨ba,bb,bc,bd⟩:=f.pts h;exact ⟨yG (vb _ bc) (vb _ ba) (vb _ bd) f.left,yG (vb _ bd) (vb _ bb) (vb _ bc) f.right⟩
theorem Flp.tiles (f:Flp K L S R M a b c d) (h:Tiles W H L) (hW:W < 16777216) (hH:H < 16777216):Tiles W H (mk c a d :: mk d b c :: M):=by
 obtain ⟨u,v⟩:=f.news h hW hH;exact h.flip f.perm f.one f.two f.left f.right u.1 v.1
theorem Flp.kept (f:Flp K L S R M a b c d) (h:Tiles W H L) (hW:W < 16777216) (hH:H < 16777216):Kept K L (mk c a d :: mk d b c :: M):=by
 obtain ⟨⟨u,_⟩,v,_⟩:=f.news h hW hH;refine (Kept.perm f.perm).trans ⟨rfl,λp=>?_,λx y hk hm=>?_⟩
 ·unfold someC;simp only [J1];constructor
  ·rintro ⟨T,rfl | rfl | hT,hp⟩
   ·rcases (u.cnr_iff p).1 hp with rfl | rfl | rfl
    ·exact ⟨S,.inl rfl,f.one.turn.turn.cnr⟩
    ·exact ⟨S,.inl rfl,f.one.cnr⟩
    ·exact ⟨R,.inr (.inl rfl),f.two.turn.turn.cnr⟩
   ·rcases (v.cnr_iff p).1 hp with rfl | rfl | rfl
    ·exact ⟨R,.inr (.inl rfl),f.two.turn.turn.cnr⟩
    ·exact ⟨S,.inl rfl,f.one.turn.cnr⟩
    ·exact ⟨S,.inl rfl,f.one.turn.turn.cnr⟩
   ·exact ⟨T,.inr (.inr hT),hp⟩
  ·rintro ⟨T,rfl | rfl | hT,hp⟩
   ·rcases (f.one.cnr_iff p).1 hp with rfl | rfl | rfl
    ·exact ⟨_,.inl rfl,u.turn.cnr⟩
    ·exact ⟨_,.inr (.inl rfl),v.turn.cnr⟩
    ·exact ⟨_,.inl rfl,u.cnr⟩
   ·rcases (f.two.cnr_iff p).1 hp with rfl | rfl | rfl
    ·exact ⟨_,.inr (.inl rfl),v.turn.cnr⟩
    ·exact ⟨_,.inl rfl,u.turn.cnr⟩
    ·exact ⟨_,.inr (.inl rfl),v.cnr⟩
   ·exact ⟨T,.inr (.inr hT),hp⟩
 ·rw [JE,JE] at hm ⊢;simp only [JM] at hm ⊢;rw [f.one.ways.mem_iff,f.two.ways.mem_iff] at hm;rw [u.ways.mem_iff,v.ways.mem_iff];simp only [J1,Jt,JI,Jp] at hm ⊢;obtain ⟨f1,f2⟩:=f.free;rcases hm with (⟨rfl,rfl⟩ | h | h) | (⟨rfl,rfl⟩ | h | h) | h
  ·exact absurd hk f1
  ·exact .inr (.inl (.inr (.inl h)))
  ·exact .inl (.inl h)
  ·exact absurd hk f2
  ·exact .inl (.inr (.inl h))
  ·exact .inr (.inl (.inl h))
  ·exact .inr (.inr h)
theorem Flp.less {h:Pt->Int} (f:Flp K L S R M a b c d) (t:Tiles W H L) (hW:W < 16777216) (hH:H < 16777216) (hp:0 < PH h a b c d):volS h (mk c a d :: mk d b c :: M) < volS h L:=by
 obtain ⟨u,v⟩:=f.news t hW hH;rw [ZS f.perm,vol_flip h M f.one f.two u.1 v.1];omega
end
theorem Tiles.vols {W H:Int} {L:List Tri3} (h:Tiles W H L) (hW:W < 16777216) (hH:H < 16777216) {ht:Pt->Int} (hh:Hts ht):0<=volS ht L:=by
 have vb:∀ q,inBox W H q->vld q=true:=λq hq=>by rw [zh];unfold inBox at hq;omega
 refine KC hh λT hT=>⟨h.pos T hT,vb _ (h.box T hT).1,vb _ (h.box T hT).2.1,vb _ (h.box T hT).2.2⟩
theorem Tiles.flip_bad {W H:Int} {K:Pt->Pt->Prop} {L:List Tri3} (h:Tiles W H L) (hW:W < 16777216) (hH:H < 16777216) {ht:Pt->Int} (hh:Hts ht) {S R:Tri3} (hS:S∈L) (hR:R∈L) {a b c d:Pt} (cS:Cyc S a b c) (cR:Cyc R b a d) (hk:¬ K a b/\¬ K b a) (hb:circ a b c d=1):0 < PH ht a b c d/\∃ M,Flp K L S R M a b c d:=by
 have vb:∀ q,inBox W H q->vld q=true:=λq hq=>by rw [zh];unfold inBox at hq;omega
 have p1:=h.cyc_pos hS cS;have p2:=h.cyc_pos hR cR;obtain ⟨q1,q2,q3⟩:=zQ p2;have dc:d≠c:=by
  rintro rfl;rw [zW] at p2;omega
 have sg:=hh.sign a b c d (vb _ (h.cyc_box hS cS)) (vb _ (h.cyc_box hS cS.turn)) (vb _ (h.cyc_box hS cS.turn.turn)) (vb _ (h.cyc_box hR cR.turn.turn)) p1 (Ne.symm q2) q3 dc;have hne:S≠R:=by
  rintro rfl;obtain ⟨n1,n2,n3⟩:=zQ p1;rcases (cR.cnr_iff c).1 cS.turn.turn.cnr with e | e | e
  ·exact n2 e.symm
  ·exact n3 e
  ·exact dc e.symm
 rcases sg with ⟨_,s2,s3⟩ | ⟨s1,_⟩
 ·obtain ⟨x,y⟩:=convex p1 p2 s3;obtain ⟨M,hM⟩:=k7 hS hR hne;exact ⟨s2,M,hM,cS,cR,hk,x,y⟩
 ·omega
def atRim (W H:Int) (p:Pt):Prop:=p.x=0\/p.y=0\/p.x=W\/p.y=H
theorem Kc {W H:Int} {a b c p:Pt} (h1:0 < det a b c) (ba:inBox W H a) (bb:inBox W H b) (he:edg a b c p):atRim W H p↔onRim W H a b:=by
 obtain ⟨z,q1,q2⟩:=he;have s:=qn a b c p;have ex:det a b c * p.x=det b c p * a.x+det c a p * b.x+det a b p * c.x:=by unfold det;grind
 have ey:det a b c * p.y=det b c p * a.y+det c a p * b.y+det a b p * c.y:=by unfold det;grind
 rw [z,Jn] at ex ey;rw [z] at s;have key:∀ u v t:Int,0<=u->0<=v->det a b c * t=det b c p * u+det c a p * v->(t=0↔u=0/\v=0):=by
  intro u v t hu hv e;have m1:=JD (Jb q1) hu;have m2:=JD (Jb q2) hv;constructor
  ·intro h;rw [h,Jh] at e;have z1:det b c p * u=0:=by omega
   have z2:det c a p * v=0:=by omega
   rcases JF.1 z1 with k | k <;> rcases JF.1 z2 with k' | k' <;> omega
  ·rintro ⟨rfl,rfl⟩;rw [Jh,Jh] at e;rcases JF.1 (show det a b c * t=0 by omega) with k | k <;> omega
 unfold inBox at ba bb;have k1:=key a.x b.x p.x ba.1.1 bb.1.1 (by omega);have k2:=key a.y b.y p.y ba.2.1 bb.2.1 (by omega);have s':det b c p+det c a p=det a b c:=by omega
 have w1:det a b c * W=det b c p * W+det c a p * W:=by rw [<-s',Vz]
 have w2:det a b c * H=det b c p * H+det c a p * H:=by rw [<-s',Vz]
 have k3:=key (W - a.x) (W - b.x) (W - p.x) (by omega) (by omega) (by rw [VD,VD,VD];omega);have k4:=key (H - a.y) (H - b.y) (H - p.y) (by omega) (by omega) (by rw [VD,VD,VD];omega);unfold atRim onRim;omega
theorem ins_norim {W H:Int} {T:Tri3} {p:Pt} (hp:0 < det T.A T.B T.C) (hb:inBox W H T.A/\inBox W H T.B/\inBox W H T.C) (hi:insT T p):¬ atRim W H p:=by
 obtain ⟨q1,q2,q3⟩:=hi;have s:=qn T.A T.B T.C p;have ex:det T.A T.B T.C * p.x=det T.B T.C p * T.A.x+det T.C T.A p * T.B.x+det T.A T.B p * T.C.x:=by unfold det;grind
 have ey:det T.A T.B T.C * p.y=det T.B T.C p * T.A.y+det T.C T.A p * T.B.y+det T.A T.B p * T.C.y:=by unfold det;grind
 have flat:∀ al be ga:Int,al * T.A.x+be * T.A.y+ga=0->al * T.B.x+be * T.B.y+ga=0->al * T.C.x+be * T.C.y+ga=0->(al≠0\/be≠0)->False:=by
  intro al be ga e1 e2 e3 hn;have i1:al * det T.A T.B T.C=((al * T.B.x+be * T.B.y+ga) - (al * T.A.x+be * T.A.y+ga)) * (T.C.y - T.A.y) - ((al * T.C.x+be * T.C.y+ga) - (al * T.A.x+be * T.A.y+ga)) * (T.B.y - T.A.y):=by unfold det;grind
  have i2:be * det T.A T.B T.C=((al * T.C.x+be * T.C.y+ga) - (al * T.A.x+be * T.A.y+ga)) * (T.B.x - T.A.x) - ((al * T.B.x+be * T.B.y+ga) - (al * T.A.x+be * T.A.y+ga)) * (T.C.x - T.A.x):=by unfold det;grind
  rw [e1,e2,e3] at i1 i2;simp only [VB,Jn] at i1 i2;rcases JF.1 i1 with k | k <;> rcases JF.1 i2 with k' | k' <;> omega
 have key:∀ al be ga:Int,(al≠0\/be≠0)->0<=al * T.A.x+be * T.A.y+ga->0<=al * T.B.x+be * T.B.y+ga->0<=al * T.C.x+be * T.C.y+ga->al * p.x+be * p.y+ga≠0:=by
  intro al be ga hn h1 h2 h3 e;have i:det T.A T.B T.C * (al * p.x+be * p.y+ga)=det T.B T.C p * (al * T.A.x+be * T.A.y+ga)+det T.C T.A p * (al * T.B.x+be * T.B.y+ga)+det T.A T.B p * (al * T.C.x+be * T.C.y+ga):=by unfold det;grind
  rw [e,Jh] at i;have m1:=JD (Jb q2) h1;have m2:=JD (Jb q3) h2;have m3:=JD (Jb q1) h3;have z1:=(JF.1 (show det T.B T.C p * (al * T.A.x+be * T.A.y+ga)=0 by omega)).resolve_left (by omega);have z2:=(JF.1 (show det T.C T.A p * (al * T.B.x+be * T.B.y+ga)=0 by omega)).resolve_left (by omega);have z3:=(JF.1 (show det T.A T.B p * (al * T.C.x+be * T.C.y+ga)=0 by omega)).resolve_left (by omega);exact flat al be ga z1 z2 z3 hn
 unfold inBox at hb;have k1:=key 1 0 0 (by omega) (by omega) (by omega) (by omega);have k2:=key 0 1 0 (by omega) (by omega) (by omega) (by omega);have k3:=key (-1) 0 W (by omega) (by omega) (by omega) (by omega);have k4:=key 0 (-1) H (by omega) (by omega) (by omega) (by omega);unfold atRim;omega
theorem has_box {W H:Int} {T:Tri3} {p:Pt} (hp:0 < det T.A T.B T.C) (hb:inBox W H T.A/\inBox W H T.B/\inBox W H T.C) (hi:hasT T p):inBox W H p:=by
 obtain ⟨q1,q2,q3⟩:=hi;have key:∀ al be ga:Int,0<=al * T.A.x+be * T.A.y+ga->0<=al * T.B.x+be * T.B.y+ga->0<=al * T.C.x+be * T.C.y+ga->0<=al * p.x+be * p.y+ga:=by
  intro al be ga h1 h2 h3;have i:det T.A T.B T.C * (al * p.x+be * p.y+ga)=det T.B T.C p * (al * T.A.x+be * T.A.y+ga)+det T.C T.A p * (al * T.B.x+be * T.B.y+ga)+det T.A T.B p * (al * T.C.x+be * T.C.y+ga):=by unfold det;grind
  have m1:=JD q2 h1;have m2:=JD q3 h2;have m3:=JD q1 h3;exact (zd hp).1 (by omega)
 unfold inBox at *;have k1:=key 1 0 0 (by omega) (by omega) (by omega);have k2:=key 0 1 0 (by omega) (by omega) (by omega);have k3:=key (-1) 0 W (by omega) (by omega) (by omega);have k4:=key 0 (-1) H (by omega) (by omega) (by omega);omega
theorem Tiles.cone {W H:Int} {L:List Tri3} (h:Tiles W H L) (hW:0 < W) (hH:0 < H) {p q:Pt} (hp:inBox W H p) (hq:inBox W H q) (hc:someC L p):∃ T∈L,∃ b c,Cyc T p b c/\0<=det p b q/\0<=det c p q:=by
 obtain ⟨v,ev⟩:∃ v:Pt,v=⟨q.x - p.x,q.y - p.y⟩:=⟨_,rfl⟩;have evx:v.x=q.x - p.x:=by rw [ev]
 have evy:v.y=q.y - p.y:=by rw [ev]
 let M:Int:=1+bigs 1 v L
 have p0:∀ l:List Tri3,0<=bigs 1 v l:=λl=>by
  induction l with
  | nil=>exact Vm 0
  | cons U l ih=>unfold bigs big;omega
 have hM:1<=M:=by have:=p0 L;omega
 have bx:inBox (M * W) (M * H) ⟨M * p.x+v.x,M * p.y+v.y⟩:=by
  obtain ⟨⟨h1,h2⟩,h3,h4⟩:=hp;obtain ⟨⟨k1,k2⟩,k3,k4⟩:=hq;have j1:=JD (a:=M - 1) (b:=p.x) (by omega) h1;have j2:=JD (a:=M - 1) (b:=p.y) (by omega) h3;have j3:=QI (c:=M - 1) h2 (by omega);have j4:=QI (c:=M - 1) h4 (by omega);rw [Vl,VE] at j1 j2;rw [Vl,Vl,VE,VE] at j3 j4;unfold inBox;simp only;omega
 obtain ⟨T,hT,hh⟩:=h.covM hW hH (M:=M) (by omega) bx;have sd:∀ a b:Pt,det (sc M a) (sc M b) ⟨M * p.x+v.x,M * p.y+v.y⟩=M * (M * det a b p+crd a b v):=by
  intro a b;have:=xU 1 M a b p v
  rwa [Int.mul_one,jt,jt,VE] at this
 unfold hasM at hh;rw [sd,sd,sd] at hh;have hb:=Xl 1 v hT;unfold big at hb;rw [VE,VE,VE] at hb;have s1:=jz (M:=1) (K:=M) (d:=det T.A T.B p) (c:=crd T.A T.B v) (by omega) (by rw [VE];omega) (by rw [VE];exact hh.1);have s2:=jz (M:=1) (K:=M) (d:=det T.B T.C p) (c:=crd T.B T.C v) (by omega) (by rw [VE];omega) (by rw [VE];exact hh.2.1);have s3:=jz (M:=1) (K:=M) (d:=det T.C T.A p) (c:=crd T.C T.A v) (by omega) (by rw [VE];omega) (by rw [VE];exact hh.2.2);obtain ⟨S,hS,hp'⟩:=hc;have hcT:=h.cnr_all hS hT hp' ⟨s1,s2,s3⟩;obtain ⟨b,c,hcy⟩:=qo hcT;have hM0:0 < M:=by omega
 have hh':0<=M * (M * det p b p+crd p b v)/\0<=M * (M * det c p p+crd c p v):=by
  rcases hcy with ⟨rfl,rfl,rfl⟩ | ⟨rfl,rfl,rfl⟩ | ⟨rfl,rfl,rfl⟩
  ·exact ⟨hh.1,hh.2.2⟩
  ·exact ⟨hh.2.1,hh.1⟩
  ·exact ⟨hh.2.2,hh.2.1⟩
 refine ⟨T,hT,b,c,hcy,?_,?_⟩
 ·have e : M * det p b p + crd p b v = det p b q := by
    have z:det p b p=0:=by unfold det;grind
    rw [z,Jh,Vn];unfold crd det;rw [evx,evy]
  have:=(zd hM0).1 hh'.1;omega
 ·have e : M * det c p p + crd c p v = det c p q := by
    have z:det c p p=0:=by unfold det;grind
    rw [z,Jh,Vn];unfold crd det;rw [evx,evy];grind
  have:=(zd hM0).1 hh'.2;omega
theorem kA (T:Tri3) (L:List Tri3) (q:Pt):someC (T :: L) q↔isCnr T q\/someC L q:=by
 unfold someC;simp
theorem xX {L M:List Tri3} (p:L.Perm M) (q:Pt):someC L q↔someC M q:=by
 unfold someC;simp only [p.mem_iff]
theorem xp (L M:List Tri3) (q:Pt):someC (L ++ M) q↔someC L q\/someC M q:=by
 unfold someC;simp only [JM];constructor
 ·rintro ⟨T,h | h,k⟩
  ·exact .inl ⟨T,h,k⟩
  ·exact .inr ⟨T,h,k⟩
 ·rintro (⟨T,h,k⟩ | ⟨T,h,k⟩)
  ·exact ⟨T,.inl h,k⟩
  ·exact ⟨T,.inr h,k⟩
theorem jD (q:Pt):¬ someC [] q:=by unfold someC;simp
theorem te {W H:Int} {L:List Tri3} (h:Tiles W H L) (hW':W < 16777216) (hH':H < 16777216) {p:Pt} (hp:inBox W H p) {F:List Tri3} (hF:Spots W H L p F):(∀ q,someC (F.flatMap (cutP p)) q↔someC F q\/q=p)/\((F.flatMap (cutP p)).length=F.length+2/\¬ atRim W H p\/(F.flatMap (cutP p)).length=F.length+1/\atRim W H p):=by
 have vb:∀ q,inBox W H q->vld q=true:=λq hq=>by rw [zh];unfold inBox at hq;omega
 have vp:=vb p hp;cases hF with
 | within T hT hi=>
  have hc:=Cyc.refl T;have va:=vb _ (h.cyc_box hT hc);have vb':=vb _ (h.cyc_box hT hc.turn);have vc:=vb _ (h.cyc_box hT hc.turn.turn);obtain ⟨i1,i2,i3⟩:=hi;have e:[T].flatMap (cutP p)=[mk T.A T.B p,mk T.B T.C p,mk T.C T.A p]:=by
   simp only [JE,QQ,Ji];unfold cutP;rw [zy va vb' vp i1,zy vb' vc vp i2,zy vc va vp i3];rfl
  rw [e];have m1:=(yG va vb' vp i1).1;have m2:=(yG vb' vc vp i2).1;have m3:=(yG vc va vp i3).1;refine ⟨λq=>?_,.inl ⟨rfl,ins_norim (h.pos T hT) (h.box T hT) ⟨i1,i2,i3⟩⟩⟩;simp only [kA,m1.cnr_iff,m2.cnr_iff,m3.cnr_iff,hc.cnr_iff,UC (jD q),Jp];constructor
  ·rintro ((k | k | k) | (k | k | k) | (k | k | k)) <;> simp [k]
  ·rintro ((k | k | k) | k) <;> simp [k]
 | rim T a b c hT hc hi hr=>
  have va:=vb _ (h.cyc_box hT hc);have vb':=vb _ (h.cyc_box hT hc.turn);have vc:=vb _ (h.cyc_box hT hc.turn.turn);have hrim:=(Kc (h.cyc_pos hT hc) (h.cyc_box hT hc) (h.cyc_box hT hc.turn) hi).2 hr;obtain ⟨i1,i2,i3⟩:=hi;have e:([T].flatMap (cutP p)).Perm [mk b c p,mk c a p]:=by
   simp only [JE,QQ,Ji];have:=xw hc p;rw [qb va vb' vp i1,zy vb' vc vp i2,zy vc va vp i3] at this;exact this
  have m2:=(yG vb' vc vp i2).1;have m3:=(yG vc va vp i3).1;refine ⟨λq=>?_,.inr ⟨by rw [e.length_eq];rfl,hrim⟩⟩;rw [xX e];simp only [kA,m2.cnr_iff,m3.cnr_iff,hc.cnr_iff,UC (jD q),Jp];constructor
  ·rintro ((k | k | k) | (k | k | k)) <;> simp [k]
  ·rintro ((k | k | k) | k) <;> simp [k]
 | edge T S a b c d hT hS hc hd hi hr=>
  have va:=vb _ (h.cyc_box hT hc);have vb':=vb _ (h.cyc_box hT hc.turn);have vc:=vb _ (h.cyc_box hT hc.turn.turn);have vd:=vb _ (h.cyc_box hS hd.turn.turn);have ho:=qi (h.cyc_pos hT hc) (h.cyc_pos hS hd) hi;have hrim:¬ atRim W H p:=λk=>hr ((Kc (h.cyc_pos hT hc) (h.cyc_box hT hc) (h.cyc_box hT hc.turn) hi).1 k);obtain ⟨i1,i2,i3⟩:=hi;obtain ⟨o1,o2,o3⟩:=ho;have e:([T,S].flatMap (cutP p)).Perm [mk b c p,mk c a p,mk a d p,mk d b p]:=by
   simp only [JE,QQ,Ji];have e1:=xw hc p;rw [qb va vb' vp i1,zy vb' vc vp i2,zy vc va vp i3] at e1;have e2:=xw hd p;rw [qb vb' va vp o1,zy va vd vp o2,zy vd vb' vp o3] at e2;exact e1.append e2
  have m1:=(yG vb' vc vp i2).1;have m2:=(yG vc va vp i3).1;have m3:=(yG va vd vp o2).1;have m4:=(yG vd vb' vp o3).1;refine ⟨λq=>?_,.inl ⟨by rw [e.length_eq];rfl,hrim⟩⟩;rw [xX e];simp only [kA,m1.cnr_iff,m2.cnr_iff,m3.cnr_iff,m4.cnr_iff,hc.cnr_iff,hd.cnr_iff,UC (jD q),Jp];constructor
  ·rintro ((k | k | k) | (k | k | k) | (k | k | k) | (k | k | k)) <;> simp [k]
  ·rintro (((k | k | k) | (k | k | k)) | k) <;> simp [k]
theorem Good.takesF:∀ {F:List Tri3} {E:Es} {M:List Tri3},Good E (F ++ M)->Good (F.foldl takeT E) M
 | [],_,_,h=>h
 | T :: F,E,M,h=>by
  obtain ⟨_,h2⟩:=Good.take (E:=E) (T:=T) (M:=F ++ M) h;exact Good.takesF (F:=F) h2
theorem yY {p:Pt} (h:vld p):okP p:=by
 rw [zh] at h;have mn:IntKind.i64.min = -9223372036854775808:=by decide
 have mx:IntKind.i64.max=9223372036854775807:=by decide
 have key:∀ n:Int,0<=n->n < 16777216->okI n:=λn h1 h2=>by
  show (decide (IntKind.i64.min<=n) && decide (n<=IntKind.i64.max))=true;rw [mn,mx];simp;omega
 exact ⟨key _ h.1.1 h.1.2,key _ h.2.1 h.2.2⟩
theorem ye {T:Tri3} (h:valT T):okT T:=by
 obtain ⟨va,vb,vc,_⟩:=k8 h;exact ⟨yY va,yY vb,yY vc⟩
theorem isE_sym (p q:Pt) (x:Wl):isE p q x=isE q p x:=by unfold isE;exact Bool.or_comm _ _
theorem qg (L:List Wl) (p q:Pt):kindD L p q=kindD L q p:=by
 unfold kindD;rw [show isE p q=isE q p from funext (isE_sym p q)]
def wll (D:List Wl) (a b:Pt):Prop:=kindD D a b≠0
theorem qA {T:Tri3} {a b c:Pt} (h:Cyc T a b c) (h1:a≠b) (h2:b≠c) (h3:c≠a):apx T a b=c/\apx T b a=c:=by
 have t:∀ p:Pt,peqI p.x p.y p.x p.y=true:=λp=>pp rfl;unfold apx;rcases h with ⟨rfl,rfl,rfl⟩ | ⟨rfl,rfl,rfl⟩ | ⟨rfl,rfl,rfl⟩
 ·simp [t]
 ·rw [JH ⟨yM.2 h3,yM.2 (Ne.symm h2)⟩,JH ⟨yM.2 (Ne.symm h2),yM.2 h3⟩];exact ⟨rfl,rfl⟩
 ·simp [t,yM.2 h3,yM.2 (Ne.symm h2)]
theorem YQ {T:Tri3} {a b c:Pt} (h:Cyc T a b c) (d:Pt):circ T.A T.B T.C d=circ a b c d:=by
 rcases h with ⟨rfl,rfl,rfl⟩ | ⟨rfl,rfl,rfl⟩ | ⟨rfl,rfl,rfl⟩
 ·rfl
 ·exact (un T.A T.B T.C d).symm
 ·exact un T.C T.A T.B d
theorem xL {E:Es} {T:Tri3} (h:fitsE E T):freeE E T=true:=by
 rw [ud] at h;simp only [JB] at h;exact h.1
structure Flips (E:Es) (p q:Pt) (S R U V:Tri3) (C D:Pt):Prop where
 h0:getE E (p,q)=some S
 h1:getE E (q,p)=some R
 hC:apx S p q=C
 hD:apx R p q=D
 o1:decide (ori p D C<=0)=false
 o2:decide (ori D q C<=0)=false
 hU:mk p D C=U
 hV:mk D q C=V
 he:getE E (D,C)=none
 hf:getE E (C,D)=none
 hc:okW (C,D)
 hS:okT S
 hR:okT R
 hu:okT U
 hv:okT V
 f1:freeE (takeT (takeT E S) R) U=true
 f2:freeE (putT (takeT (takeT E S) R) U) V=true
def flipE (E:Es) (S R U V:Tri3):Es:=putT (putT (takeT (takeT E S) R) U) V
section
variable {W H:Int} {E:Es} {L:List Tri3} {D:List Wl} (hW:W < 16777216) (hH:H < 16777216) {h:Pt->Int}
include hW hH
theorem Flp.go {K:Pt->Pt->Prop} {S R:Tri3} {M:List Tri3} {p q c d:Pt} (g:Good E L) (t:Tiles W H L) (f:Flp K L S R M p q c d):Flips E p q S R (mk p d c) (mk d q c) c d/\Good (flipE E S R (mk p d c) (mk d q c)) (mk c p d :: mk d q c :: M):=by
 have vb:∀ q,inBox W H q->vld q=true:=λq hq=>by rw [zh];unfold inBox at hq;omega
 obtain ⟨bp,bq,bc,bd⟩:=f.pts t;have mS:S∈L:=f.perm.mem_iff.2 (by simp);have mR:R∈L:=f.perm.mem_iff.2 (by simp);obtain ⟨n1,n2,n3⟩:=zQ (t.cyc_pos mS f.one);obtain ⟨m1,m2,m3⟩:=zQ (t.cyc_pos mR f.two);obtain ⟨u,v⟩:=f.news t hW hH;have t':=f.tiles t hW hH;have eU:mk p d c=mk c p d:=ZH c p d;have k1:=Good.takes (F:=[S,R]) (M:=M) (g.order f.perm);have k2:Good (takeT (takeT E S) R) M:=by
  have a1:=(Good.take (E:=E) (T:=S) (M:=R :: M) (g.order f.perm)).2;exact (Good.take (E:=takeT E S) (T:=R) (M:=M) a1).2
 have n0:=t'.once;have nn:∀ w∈ways (mk c p d),w ∉ M.flatMap ways:=λw hw hm=>by
  rw [JE,Jg] at n0;exact n0.2.2 w hw w (by rw [JE];exact Jr _ hm) rfl
 obtain ⟨p1,p2⟩:=Good.put (E:=takeT (takeT E S) R) (T:=mk c p d) (M:=M) k2 u.2 nn;have nn2:∀ w∈ways (mk d q c),w ∉ (mk c p d :: M).flatMap ways:=λw hw hm=>by
  rw [JE,Jg] at n0;rw [JE,JM] at hm;rcases hm with hm | hm
  ·exact n0.2.2 w hm w (by rw [JE];exact Jk _ hw) rfl
  ·have:=n0.2.1;rw [JE,Jg] at this;exact this.2.2 w hw w hm rfl
 obtain ⟨q1,q2⟩:=Good.put (E:=putT (takeT (takeT E S) R) (mk c p d)) (T:=mk d q c) (M:=mk c p d :: M) p2 v.2 nn2;rw [eU];refine ⟨⟨g.get.2 ⟨mS,f.one.way⟩,g.get.2 ⟨mR,f.two.way⟩,(qA f.one n1 n2 n3).1,(qA f.two m1 m2 m3).2,?_,?_,eU,rfl,g.get_none.2 (t.no_diag mS f.one f.left f.right),g.get_none.2 (t.no_diag mR f.two f.right f.left),⟨yY (vb _ bc),yY (vb _ bd)⟩,ye (g.val _ mS),ye (g.val _ mR),ye u.2,ye v.2,xL p1,xL q1⟩,q2.order (List.Perm.swap _ _ _)⟩
 ·rw [ori_v (vb _ bp) (vb _ bd) (vb _ bc)];have:=zL (det p d c);have e:det p d c=det c p d:=zX c p d;have:=f.left;simp;omega
 ·rw [ori_v (vb _ bd) (vb _ bq) (vb _ bc)];have:=zL (det d q c);have:=f.right;simp;omega
theorem bad_go (hh:Hts h) (g:Good E L) (t:Tiles W H L) {p q:Pt} (hb:badD E D p q):∃ S R U V C D',Flips E p q S R U V C D'/\∃ L',Good (flipE E S R U V) L'/\Tiles W H L'/\Kept (wll D) L L'/\volS h L' < volS h L:=by
 unfold badD at hb;cases h1:getE E (p,q) with
 | none=>rw [yW h1] at hb;simp at hb
 | some S=>
  cases h2:getE E (q,p) with
  | none=>rw [yW h2] at hb;simp at hb
  | some R=>
   rw [zf h1,zf h2] at hb;simp only [Qq,JB,JA] at hb;obtain ⟨k0,kc⟩:=hb;obtain ⟨mS,wS⟩:=g.get.1 h1;obtain ⟨mR,wR⟩:=g.get.1 h2;obtain ⟨c,cS⟩:=yd wS;obtain ⟨d,cR⟩:=yd wR;obtain ⟨m1,m2,m3⟩:=zQ (t.cyc_pos mR cR);rw [(qA cR m1 m2 m3).2,YQ cS] at kc;obtain ⟨hp,M,f⟩:=t.flip_bad (K:=wll D) hW hH hh mS mR cS cR ⟨λk=>k k0,λk=>k (by rw [qg];exact k0)⟩ kc;have go:=f.go hW hH g t;exact ⟨S,R,_,_,c,d,go.1,_,go.2,f.tiles t hW hH,f.kept t hW hH,f.less t hW hH hp⟩
theorem none_bad (g:Good E L) (t:Tiles W H L) (hb:badsD E D E=[]):Fixed W H (wll D) L:=by
 have vb:∀ q,inBox W H q->vld q=true:=λq hq=>by rw [zh];unfold inBox at hq;omega
 have main:∀ S∈L,∀ R∈L,∀ a b c d,Cyc S a b c->Cyc R b a d->¬ wll D a b->cmpP a b < 0->circ a b c d≠1:=by
  intro S hS R hR a b c d cS cR hk hc he;have e1:=g.get.2 ⟨hS,cS.way⟩;have e2:=g.get.2 ⟨hR,cR.way⟩;obtain ⟨m1,m2,m3⟩:=zQ (t.cyc_pos hR cR);have k0:kindD D a b=0:=JQ λk=>hk k;have hbad:badD E D a b=true:=by
   unfold badD;rw [zf e1,zf e2];simp only [Qq,JB,JA];exact ⟨k0,by rw [(qA cR m1 m2 m3).2,YQ cS];exact he⟩
  have hm:((a,b),S)∈E:=ZN e1;have:(⟨a,b,1⟩:Wl)∈badsD E D E:=by
   unfold badsD;rw [VR];exact ⟨_,hm,by simp [hbad,hc]⟩
  rw [hb] at this;cases this
 refine ⟨t,λS hS R hR a b c d cS cR hk he=>?_⟩;have va:=vb _ (t.cyc_box hS cS);have vb':=vb _ (t.cyc_box hR cR);have p1:=t.cyc_pos hS cS;have p2:=t.cyc_pos hR cR;have nab:=j9 p1;have hs:=zL (key a - key b);have hck:=xO va vb';by_cases hlt:cmpP a b < 0
 ·exact main S hS R hR a b c d cS cR hk hlt he
 ·have hne:key a≠key b:=λe=>nab (yj va vb' e);have hgt:cmpP b a < 0:=by
   rw [xO vb' va];have:=zL (key b - key a);omega
  refine main R hR S hS b a d c cR cS (λk=>hk (by unfold wll at *;rw [qg];exact k)) hgt ?_;have vd:=vb _ (t.cyc_box hR cR.turn.turn);have vc:=vb _ (t.cyc_box hS cS.turn.turn);have o1:¬ ori a b c=0:=by rw [ori_v va vb' vc,yZ];omega
  have o2:¬ ori a b d=0:=by
   rw [ori_v va vb' vd,yZ];rw [zW] at p2;omega
  have dc:d≠c:=by
   rintro rfl;rw [zW] at p2;omega
  rw [um,YP o1 o2 dc,he];rfl
end
theorem cW_ne (x:Wl):cW x≠[]:=by simp [cW]
theorem DocRd.turn {w w':World} {db c n b:Nat} {a0:Option Addr} {L:List Wl} {E:Es} (S:DocRd w db a0 c n L) (H:Hs w b E) (hg:w.grownBy w' (some b)):DocRd w' db a0 c n L:=
 ⟨S.box.turn H hg,S.row.turn cW_ne H hg,S.len,S.le,S.nc,S.flat⟩
theorem ZM {E:Es} {L:List Tri3} (g:Good E L):∀ e∈E,okW e.1:=λe he=>by
 obtain ⟨w,T⟩:=e;obtain ⟨hT,hw⟩:=kw.1 (g.perm.mem_iff.1 he);have ok:=okT_w (ye (g.val T hT));simp only [ways,J1,JI,Jp] at hw;rcases hw with rfl | rfl | rfl
 ·exact ok.1
 ·exact ok.2.1
 ·exact ok.2.2
structure RSt (W H:Int) (D:List Wl) (L:List Tri3) (E1:Es) (L1:List Tri3):Prop where
 good:Good E1 L1
 tiles:Tiles W H L1
 kept:Kept (wll D) L L1
def RepPost (W H:Int) (b:Nat) (D:List Wl) (L:List Tri3) (w:World) (e:Ending) (w':World):Prop:=
 e=.returned (.tuple #[])/\∃ E1 L1,w.grownBy w' (some b)/\Hs w' b E1/\RSt W H D L E1 L1/\Fixed W H (wll D) L1
theorem kf (mb b db:Nat) (a0:Option Addr) (c n:Nat) (E:Es) (L:List Tri3) (D:List Wl) (W H:Int) (hW:W < 16777216) (hH:H < 16777216) (hL:L.length<=30000) (g:Good E L) (ti:Tiles W H L) (w:World) (Bm:Box w mb [.map (some b)] 98) (Hm:Hs w b E) (Dw:DocRd w db a0 c n D):Calls prog 43 #[pt0 mb,pt0 db] w (RepPost W H b D L w):=by
 obtain ⟨h,hh⟩:=Kw;have S0:=hdd (show RSt W H D L E L from ⟨g,ti,Kept.refl _ _⟩);have HLL:=hdd hL;clear g ti hL
 go_enter func43,ntmps43
 go_wp2
 go_loopg [4] ((volS h L).toNat+1) (λk v wr=>∃ (E1:Es) (L1:List Tri3) (ag:Bool),v=.bool ag/\Hs wr b E1/\Hi (RSt W H D L E1 L1)/\Hi (ag=false->Fixed W H (wll D) L1)/\Hi (ag=true->(volS h L1).toNat < k)/\w.grownBy wr (some b))
 case atStart=>exact ⟨E,L,true,rfl,Hm,S0,hdd (λe=>by cases e),hdd (λ_=>Nat.lt_succ_self _),kL _ _⟩
 case round=>
  obtain ⟨E1,L1,ag,rfl,H1,hS,hF,hV,hg⟩:=hrel;cases ag with
  | false=>
   have HFX:=hdd (hF.o rfl);clear hF hV;go_wp2;exact bodyPost_end (results_none rfl _ _ _) rfl ⟨rfl,E1,L1,hg,H1,hS.o,HFX.o⟩
  | true=>
   have HV:=hdd (hV.o rfl);clear hV;have B1:=Bm.turn Hm hg;have D1:=Dw.turn Hm hg;have hlen:L1.length<=30000:=by rw [hS.o.kept.len];exact HLL.o
   have hE1:E1.length<=100000:=by rw [hS.o.good.len];omega
   have cB:=rBad_any mb b db a0 c n E1 D hE1 (ZM hS.o.good) wr B1 H1 D1;have hE2:=hdd hE1;clear hlen hE1 hF;go_wp2_with fail;refine cB.mono ?_;rintro e w2 ⟨a,cap,l,rfl,hl,hr,hb⟩;have hll:=hdd (show l.length<=100000 by rw [hl.length_eq];exact JY (YS E1 D E1) hE2.o);have HLB:=hdd hl;have g2:=zO hg hb;have H2:=H1.ee hb;clear cB hb hl B1 D1 H1 hE2;obtain ⟨m,hm⟩:∃ m,l.length=m:=⟨_,rfl⟩;have HM:=hdd hm;rw [hm] at hll;rw [hm];clear hm;go_wp2
   go_loopw [4,6] (λv4 v6 wi=>∃ (i:Nat) (E2:Es) (L2:List Tri3) (ag:Bool),v4=.bool ag/\v6=.int .i64 i/\i<=m/\Hs wi b E2/\Hi (RSt W H D L E2 L2)/\Hi ((i=0/\ag=false/\E2=E1/\L2=L1)\/(0 < i/\ag=true/\volS h L2 < volS h L1))/\RowAt cW 5 wi a l/\w.grownBy wi (some b)) (λ_ v6 _=>m - (intOf v6).toNat)
   case atStart=>exact ⟨0,E1,L1,false,rfl,rfl,Jl _,H2,hS,hdd (.inl ⟨rfl,rfl,rfl,rfl⟩),hr,g2⟩
   case round=>
    clear g2 H2 hr;obtain ⟨i,E2,L2,ag,rfl,rfl,hi,H2,hS2,hC,hr,g2⟩:=hrel;have hm1:=hll.o;by_cases hlt:i < m
    ·have hil:i < l.length:=by rw [HM.o];exact hlt
     have B2:=Bm.turn Hm g2;have D2:=Dw.turn Hm g2;obtain ⟨ad,A,ea,eA,hA⟩:=hr.five (j:=i) hil;have hmem:l[i]∈badsD E1 D E1:=HLB.o.mem_iff.1 (JX hil);generalize l[i]=X at hA hmem
     obtain ⟨XA,XB,XK⟩:=X;have hk2:okW (XA,XB):=by
      unfold badsD at hmem;rw [VR] at hmem;obtain ⟨e,he,hx⟩:=hmem;split at hx
      ·simp only [Qi,Wl.mk.injEq] at hx;have:=ZM hS.o.good e he;rw [<-hx.1,<-hx.2.1];exact this
      ·cases hx
     have HBAD:=hdd (show badD E1 D XA XB=true by
      unfold badsD at hmem;rw [VR] at hmem;obtain ⟨e,he,hx⟩:=hmem;split at hx
      ·rename_i hc
       simp only [Qi,Wl.mk.injEq] at hx;simp only [JB] at hc;rw [<-hx.1,<-hx.2.1];exact hc.2
      ·cases hx)
     have q0:(i:Int) < (m:Int):=by omega
     obtain ⟨s0,s1,s2,s3,s4⟩:=hA.cells;have cb:∀ d os,Calls prog 84 #[pt0 mb,pt0 db,XA,XB] (grow (redrawn wr d) os) λe w'=>e=.returned (.bool (badD E2 D XA XB))/\Below (grow (redrawn wr d) os).heap.size (grow (redrawn wr d) os) w':=λd os=>Yp mb b db a0 c n E2 D XA XB hk2 _ (B2.ext (below_regrown wr d os) rfl) (H2.ext (below_regrown wr d os) rfl) (D2.ext (below_regrown wr d os) rfl);clear hmem;subst ea;cases hbd:badD E2 D XA XB with
     | false=>
      rw [hbd] at cb;have HNZ:=hdd (show 0 < i/\ag=true/\volS h L2 < volS h L1 by
       rcases hC.o with ⟨_,_,e1,_⟩ | k
       ·rw [e1,HBAD.o] at hbd;cases hbd
       ·exact k)
      clear hC HBAD hA hbd;go_wp2_with fail;refine wrt 25 (by kernel_rfl) (by kernel_rfl) ?_;simp only [tK1,tK0,dP1,dP0];refine wkx ?_;intro w4 hb;clear s0 s1 s2 s3 s4;have H4:=H2.ee hb;have r4:=hr.ee hb;have g4:=zO g2 hb;clear hb cb;go_wp2
      go_roundw
      case rel=>exact ⟨i+1,E2,L2,true,by rw [HNZ.o.2.1],by go_num,by omega,H4,hS2,hdd (.inr ⟨by omega,rfl,HNZ.o.2.2⟩),r4,g4⟩
      case measure=>simp [intOf];omega
     | true=>
      rw [hbd] at cb;obtain ⟨S,R,U,V,C,D',fl,L3,g3,t3,k3,v3⟩:=bad_go hW hH hh hS2.o.good hS2.o.tiles hbd;have HS3:=hdd (show RSt W H D L (flipE E2 S R U V) L3 from ⟨g3,t3,hS2.o.kept.trans k3⟩);have HV3:=hdd (show volS h L3 < volS h L1 by
       rcases hC.o with ⟨_,_,_,e2⟩ | ⟨_,_,k⟩
       ·rw [<-e2];exact v3
       ·omega)
      have cf:=λw0 B1 H1=>Yo mb b E2 XA XB hk2 S R U V C D' fl.h0 fl.h1 fl.hC fl.hD fl.o1 fl.o2 fl.hU fl.hV fl.he fl.hf fl.hc fl.hS fl.hR fl.hu fl.hv fl.f1 fl.f2 w0 B1 H1
      change ∀ (w0:World) B1 H1,Calls _ _ _ _ λe w'=>e=.returned (.int .i64 0)/\w0.grownBy w' (some b)/\Hs w' b (flipE E2 S R U V) at cf
      clear hC HBAD hA hbd fl g3 t3 k3 v3;generalize flipE E2 S R U V=E3 at *
      go_wp2_with fail;refine wrt 25 (by kernel_rfl) (by kernel_rfl) ?_;simp only [tK1,tK0,dP1,dP0];refine wkx ?_;intro w4 hb;clear s0 s1 s2 s3 s4;have H4:=H2.ee hb;have r4:=hr.ee hb;have g4:=zO g2 hb;have B4:=B2.ee hb;clear hb cb;go_wp2_with fail;refine (cf _ B4 H4).mono ?_;rintro e w5 ⟨rfl,hg5,H5⟩;have r5:=r4.turn cW_ne H4 hg5;have g5:=zR g4 hg5;clear cf hg5 H4 r4 g4 B4;go_wp2
      go_roundw
      case rel=>exact ⟨i+1,E3,L3,true,rfl,by go_num,by omega,H5,HS3,hdd (.inr ⟨by omega,rfl,HV3.o⟩),r5,g5⟩
      case measure=>simp [intOf];omega
    ·have q0:decide ((i:Int) < (m:Int))=false:=by simpa using hlt
     have him:i=m:=by omega
     have HE:=hdd (show (ag=false->Fixed W H (wll D) L2) by
      intro e;rcases hC.o with ⟨e0,_,_,e2⟩ | ⟨_,e1,_⟩
      ·have l0:l=[]:=Ju.1 (by rw [HM.o,<-him,e0]);rw [e2];exact none_bad hW hH hS.o.good hS.o.tiles (List.Perm.eq_nil (by have:=HLB.o;rw [l0] at this;exact this.symm))
      ·rw [e] at e1;cases e1)
     have HT:=hdd (show (ag=true->(volS h L2).toNat < (volS h L1).toNat) by
      intro e;rcases hC.o with ⟨_,e1,_,_⟩ | ⟨_,_,k⟩
      ·rw [e] at e1;cases e1
      ·have:=hS2.o.tiles.vols hW hH hh;omega)
     clear hC;go_wp2
     go_roundg (volS h L1).toNat
     case measure=>exact HV.o
     case rel=>exact ⟨E2,L2,ag,rfl,H2,hS2,HE,HT,g2⟩
def cutOk (T:Tri3) (p:Pt):Bool:=hasP T p && (!peqI p.x p.y T.A.x T.A.y && (!peqI p.x p.y T.B.x T.B.y && !peqI p.x p.y T.C.x T.C.y))
def cutR (T:Tri3) (p:Pt):List Tri3:=if cutOk T p=true then cutP p T else []
def cutK (p:Pt) (T:Tri3):Nat->List Tri3
 | 0=>[]
 | k+1=>cutK p T k ++ part p (crn T k) (crn T (k+1))
theorem cutK3 (p:Pt) (T:Tri3):cutK p T 3=cutP p T:=by
 show (([] ++ part p T.A T.B) ++ part p T.B T.C) ++ part p T.C T.A=_;unfold cutP;simp
theorem uM (p a b:Pt):(part p a b).length<=1:=by unfold part;split <;> simp
theorem jl (p:Pt) (T:Tri3):∀ k,(cutK p T k).length<=k
 | 0=>by simp [cutK]
 | k+1=>by
  have:=jl p T k;have:=uM p (crn T k) (crn T (k+1));show (cutK p T k ++ _).length<=_;rw [JC];omega
theorem jk (p:Pt) (T:Tri3):(cutP p T).length<=3:=by
 unfold cutP;have:=uM p T.A T.B;have:=uM p T.B T.C;have:=uM p T.C T.A;simp only [JC];omega
theorem rcut_no0 (T:Tri3) (p:Pt) (h0:hasP T p=false) (w:World):Calls prog 89 #[T,p] w λe w'=>∃ a cap,e=.returned (.slice a 0 cap)/\RowAt cT 6 w' a []/\Below w w w':=by
 have cH:=qZ T p;rw [h0] at cH;clear h0
 go_enter func89,ntmps89
 go_wp2_with fail;refine qD2 λW1 Bt Ba hw=>?_;refine wp_loop_rounds 2 ?_;try rw [rounds_succ]
 have Gj:=J2 Bt.f Ba.f;go_wp2_with fail;clear Gj;refine qC2 (cH _) Bt Ba hw λw2 Bt Ba hw Gj=>?_;go_wp2_with fail;refine (xY none 0 0 [] (hdd rfl) (by omega) (by omega) _ (λj x hx=>by cases hx)).mono ?_;rintro e w9 ⟨a,cap,rfl,hr,hb⟩;have e0:srt cmpT ([]:List Tri3)=[]:=Ju.1 (by rw [(zU _).length_eq];rfl);rw [e0] at hr;go_wp2
 go_ret
 exact ⟨a,cap,rfl,hr,(upB hw hb)⟩
theorem rcut_no1 (T:Tri3) (p:Pt) (h0:hasP T p) (h1:peqI p.x p.y T.A.x T.A.y) (w:World):Calls prog 89 #[T,p] w λe w'=>∃ a cap,e=.returned (.slice a 0 cap)/\RowAt cT 6 w' a []/\Below w w w':=by
 have cH:=qZ T p;rw [h0] at cH;clear h0
 go_enter func89,ntmps89
 go_wp2_with fail;refine qD2 λW1 Bt Ba hw=>?_;refine wp_loop_rounds 2 ?_;try rw [rounds_succ]
 have Gj:=J2 Bt.f Ba.f;go_wp2_with fail;clear Gj;refine qC2 (cH _) Bt Ba hw λw2 Bt Ba hw Gj=>?_;go_wp2_with fail;refine (xY none 0 0 [] (hdd rfl) (by omega) (by omega) _ (λj x hx=>by cases hx)).mono ?_;rintro e w9 ⟨a,cap,rfl,hr,hb⟩;have e0:srt cmpT ([]:List Tri3)=[]:=Ju.1 (by rw [(zU _).length_eq];rfl);rw [e0] at hr;go_wp2
 go_ret
 exact ⟨a,cap,rfl,hr,(upB hw hb)⟩
theorem rcut_no2 (T:Tri3) (p:Pt) (h0:hasP T p) (h1:peqI p.x p.y T.A.x T.A.y=false) (h2:peqI p.x p.y T.B.x T.B.y) (w:World):Calls prog 89 #[T,p] w λe w'=>∃ a cap,e=.returned (.slice a 0 cap)/\RowAt cT 6 w' a []/\Below w w w':=by
 have cH:=qZ T p;rw [h0] at cH;clear h0
 go_enter func89,ntmps89
 go_wp2_with fail;refine qD2 λW1 Bt Ba hw=>?_;refine wp_loop_rounds 2 ?_;try rw [rounds_succ]
 have Gj:=J2 Bt.f Ba.f;go_wp2_with fail;clear Gj;refine qC2 (cH _) Bt Ba hw λw2 Bt Ba hw Gj=>?_;go_wp2_with fail;refine (xY none 0 0 [] (hdd rfl) (by omega) (by omega) _ (λj x hx=>by cases hx)).mono ?_;rintro e w9 ⟨a,cap,rfl,hr,hb⟩;have e0:srt cmpT ([]:List Tri3)=[]:=Ju.1 (by rw [(zU _).length_eq];rfl);rw [e0] at hr;go_wp2
 go_ret
 exact ⟨a,cap,rfl,hr,(upB hw hb)⟩
theorem rcut_no3 (T:Tri3) (p:Pt) (h0:hasP T p) (h1:peqI p.x p.y T.A.x T.A.y=false) (h2:peqI p.x p.y T.B.x T.B.y=false) (h3:peqI p.x p.y T.C.x T.C.y) (w:World):Calls prog 89 #[T,p] w λe w'=>∃ a cap,e=.returned (.slice a 0 cap)/\RowAt cT 6 w' a []/\Below w w w':=by
 have cH:=qZ T p;rw [h0] at cH;clear h0
 go_enter func89,ntmps89
 go_wp2_with fail;refine qD2 λW1 Bt Ba hw=>?_;refine wp_loop_rounds 2 ?_;try rw [rounds_succ]
 have Gj:=J2 Bt.f Ba.f;go_wp2_with fail;clear Gj;refine qC2 (cH _) Bt Ba hw λw2 Bt Ba hw Gj=>?_;go_wp2_with fail;refine (xY none 0 0 [] (hdd rfl) (by omega) (by omega) _ (λj x hx=>by cases hx)).mono ?_;rintro e w9 ⟨a,cap,rfl,hr,hb⟩;have e0:srt cmpT ([]:List Tri3)=[]:=Ju.1 (by rw [(zU _).length_eq];rfl);rw [e0] at hr;go_wp2
 go_ret
 exact ⟨a,cap,rfl,hr,(upB hw hb)⟩
theorem rcut_yes (T:Tri3) (p:Pt) (h0:hasP T p) (h1:peqI p.x p.y T.A.x T.A.y=false) (h2:peqI p.x p.y T.B.x T.B.y=false) (h3:peqI p.x p.y T.C.x T.C.y=false) (w:World):Calls prog 89 #[T,p] w λe w'=>∃ a cap,e=.returned (.slice a (srt cmpT (cutP p T)).length cap)/\(srt cmpT (cutP p T)).length<=cap/\RowAt cT 6 w' a (srt cmpT (cutP p T))/\Below w w w':=by
 have cH:=qZ T p;rw [h0] at cH;clear h0
 go_enter func89,ntmps89
 go_wp2_with fail;refine qD2 λW1 Bt Ba hw=>?_
 go_loopw [5,6] (λv i wr=>∃ (k:Nat) (j:Int),k<=3/\i=.int .i64 j/\Hi (j=k)/\wr.ownsRow (w.heap.size+2) 45 6 v (cutK p T k).length ((cutK p T k).flatMap cT)/\Box wr w [T.A.x,T.A.y,T.B.x,T.B.y,T.C.x,T.C.y] 45/\Box wr (w+1) [p.x,p.y] 34/\Below w w wr) (λ_ i _=>3 - (intOf i).toNat)
 case atStart=>exact ⟨0,0,by omega,rfl,hdd rfl,World.ownsRow_nil _ _ _ _,Bt,Ba,hw⟩
 case round=>
  clear Bt Ba hw;obtain ⟨k,j,hk,rfl,hj,hown,Bt,Ba,hw⟩:=hrel;have hk':k=0\/k=1\/k=2\/k=3:=by omega
  rcases hk' with rfl | rfl | rfl | rfl
  ·have hj:j=0:=by simpa using hj.o
   subst hj;have hq1:IntKind.i64.wrap (0+1)=1:=by decide
   have hq2:IntKind.i64.wrap 1=1:=by decide
   have c1:=yg T 0;have c2:=yg T 1;have c3:=yT (crn T 0) (crn T 1) p;have hst:cutK p T (0+1)=cutK p T 0 ++ part p (crn T 0) (crn T 1):=rfl;have hle:=jl p T 0;have HST:=hdd hst;have HLE:=hdd hle;clear hst hle;generalize eu:crn T 0=u at *
   generalize ev:crn T 1=v at *
   clear eu ev;obtain ⟨L1,hL1⟩:∃ L1,cutK p T 1=L1:=⟨_,rfl⟩;have HL1:=hdd hL1;rw [show cutK p T (0+1)=L1 from hL1] at HST;clear hL1;generalize cutK p T 0=L0 at *
   have Ft:=Bt.f;have Fa:=Ba.f;go_wp2_with fail;refine (cH _).mono ?_;rintro e w21 ⟨rfl,hb⟩;clear Ft Fa;replace Bt:=Bt.ee hb;replace Ba:=Ba.ee hb;replace hown:=yp hown hb;replace hw:=upB hw hb;clear hb;by_cases h0:ori u v p=0
   ·rw [show (!decide (ori u v p=0))=false by simp [h0]] at c3;have HL:=hdd (show L1=L0 by rw [HST.o];unfold part;rw [JH h0];simp);generalize mk u v p=X at *
    clear h0 HST;have Ft:=Bt.f;have Fa:=Ba.f;go_wp2_with fail;have G9:=J2 Bt.cells Ba.cells;refine rgl 12 7 46 (λw41 bkz hb h1b h2b Bz=>?_);have ltz:=Bt.lt;have laz:=Ba.lt;have hw0z:=hw.size;clear G9;clear Ft Fa;obtain ⟨Bt,Ba,hw,-⟩:=qX2 Bt Ba hw hb;have fz:=h1b;have hwz:w.heap.size<=w21.heap.size:=hw0z;replace hown:=yp hown hb;clear hb h1b h2b hw0z;simp only [Act.put];have Ft:=Bt.f;have Fa:=Ba.f;have Fz:=Bz.f;go_wp2
    go_roundw
    case rel=>exact ⟨1,1,by omega,by first | rfl | go_num,hdd rfl,by rw [HL1.o,HL.o];exact hown,Bt,Ba,hw⟩
    case measure=>simp [intOf]
   ·rw [show (!decide (ori u v p=0))=true by simp [h0]] at c3;have HL:=hdd (show L1=L0 ++ [mk u v p] by rw [HST.o];unfold part;rw [J0 h0]);generalize mk u v p=X at *
    clear h0 HST;have Ft:=Bt.f;have Fa:=Ba.f;go_wp2_with fail;have G9:=J2 Bt.cells Ba.cells;refine rgl 12 7 46 (λw41 bkz hb h1b h2b Bz=>?_);have ltz:=Bt.lt;have laz:=Ba.lt;have hw0z:=hw.size;clear G9;clear Ft Fa;obtain ⟨Bt,Ba,hw,-⟩:=qX2 Bt Ba hw hb;have fz:=h1b;have hwz:w.heap.size<=w21.heap.size:=hw0z;replace hown:=yp hown hb;clear hb h1b h2b hw0z;simp only [Act.put];have Ft:=Bt.f;have Fa:=Ba.f;have Fz:=Bz.f;have HB:=hdd hw.size;go_wp2_with (at_builtin;refine yJ rfl _ _ rfl (w.heap.size+2) _ L0 rfl (hown.alloc _) (w41.heap.size) X rfl (Box.new (by simp)) (by have:=HLE.o;omega) (by have:=HB.o;have:=Ba.lt;simp;omega) ?_;intro w4 v4 hown4 hg4)
    have hlt:=λk hk=>((hown.alloc (.cells (cT X).toArray 45)).lt k hk).1;have Bt4:=(Bt.old (.cells (cT X).toArray 45)).grown2 hg4 (λk hk=>by have:=hlt k hk;omega);have Ba4:=(Ba.old (.cells (cT X).toArray 45)).grown2 hg4 (λk hk=>by have:=hlt k hk;omega);have hw4:=(hw.alloc hw.size (.cells (cT X).toArray 45)).grown hg4 (by have:=hw.size;simp;omega) (λk hk=>by have:=hlt k hk;omega)
    go_roundw
    case rel=>exact ⟨1,1,by omega,by first | rfl | go_num,hdd rfl,by rw [HL1.o,HL.o];exact hown4,Bt4,Ba4,hw4⟩
    case measure=>simp [intOf]
  ·have hj:j=1:=by simpa using hj.o
   subst hj;have hq1:IntKind.i64.wrap (1+1)=2:=by decide
   have hq2:IntKind.i64.wrap 2=2:=by decide
   have c1:=yg T 1;have c2:=yg T 2;have c3:=yT (crn T 1) (crn T 2) p;have hst:cutK p T (1+1)=cutK p T 1 ++ part p (crn T 1) (crn T 2):=rfl;have hle:=jl p T 1;have HST:=hdd hst;have HLE:=hdd hle;clear hst hle;generalize eu:crn T 1=u at *
   generalize ev:crn T 2=v at *
   clear eu ev;obtain ⟨L1,hL1⟩:∃ L1,cutK p T 2=L1:=⟨_,rfl⟩;have HL1:=hdd hL1;rw [show cutK p T (1+1)=L1 from hL1] at HST;clear hL1;generalize cutK p T 1=L0 at *
   have Ft:=Bt.f;have Fa:=Ba.f;go_wp2_with fail;refine (cH _).mono ?_;rintro e w21 ⟨rfl,hb⟩;clear Ft Fa;replace Bt:=Bt.ee hb;replace Ba:=Ba.ee hb;replace hown:=yp hown hb;replace hw:=upB hw hb;clear hb;by_cases h0:ori u v p=0
   ·rw [show (!decide (ori u v p=0))=false by simp [h0]] at c3;have HL:=hdd (show L1=L0 by rw [HST.o];unfold part;rw [JH h0];simp);generalize mk u v p=X at *
    clear h0 HST;have Ft:=Bt.f;have Fa:=Ba.f;go_wp2_with fail;have G9:=J2 Bt.cells Ba.cells;refine rgl 12 7 46 (λw41 bkz hb h1b h2b Bz=>?_);have ltz:=Bt.lt;have laz:=Ba.lt;have hw0z:=hw.size;clear G9;clear Ft Fa;obtain ⟨Bt,Ba,hw,-⟩:=qX2 Bt Ba hw hb;have fz:=h1b;have hwz:w.heap.size<=w21.heap.size:=hw0z;replace hown:=yp hown hb;clear hb h1b h2b hw0z;simp only [Act.put];have Ft:=Bt.f;have Fa:=Ba.f;have Fz:=Bz.f;go_wp2
    go_roundw
    case rel=>exact ⟨2,2,by omega,by first | rfl | go_num,hdd rfl,by rw [HL1.o,HL.o];exact hown,Bt,Ba,hw⟩
    case measure=>simp [intOf]
   ·rw [show (!decide (ori u v p=0))=true by simp [h0]] at c3;have HL:=hdd (show L1=L0 ++ [mk u v p] by rw [HST.o];unfold part;rw [J0 h0]);generalize mk u v p=X at *
    clear h0 HST;have Ft:=Bt.f;have Fa:=Ba.f;go_wp2_with fail;have G9:=J2 Bt.cells Ba.cells;refine rgl 12 7 46 (λw41 bkz hb h1b h2b Bz=>?_);have ltz:=Bt.lt;have laz:=Ba.lt;have hw0z:=hw.size;clear G9;clear Ft Fa;obtain ⟨Bt,Ba,hw,-⟩:=qX2 Bt Ba hw hb;have fz:=h1b;have hwz:w.heap.size<=w21.heap.size:=hw0z;replace hown:=yp hown hb;clear hb h1b h2b hw0z;simp only [Act.put];have Ft:=Bt.f;have Fa:=Ba.f;have Fz:=Bz.f;have HB:=hdd hw.size;go_wp2_with (at_builtin;refine yJ rfl _ _ rfl (w.heap.size+2) _ L0 rfl (hown.alloc _) (w41.heap.size) X rfl (Box.new (by simp)) (by have:=HLE.o;omega) (by have:=HB.o;have:=Ba.lt;simp;omega) ?_;intro w4 v4 hown4 hg4)
    have hlt:=λk hk=>((hown.alloc (.cells (cT X).toArray 45)).lt k hk).1;have Bt4:=(Bt.old (.cells (cT X).toArray 45)).grown2 hg4 (λk hk=>by have:=hlt k hk;omega);have Ba4:=(Ba.old (.cells (cT X).toArray 45)).grown2 hg4 (λk hk=>by have:=hlt k hk;omega);have hw4:=(hw.alloc hw.size (.cells (cT X).toArray 45)).grown hg4 (by have:=hw.size;simp;omega) (λk hk=>by have:=hlt k hk;omega)
    go_roundw
    case rel=>exact ⟨2,2,by omega,by first | rfl | go_num,hdd rfl,by rw [HL1.o,HL.o];exact hown4,Bt4,Ba4,hw4⟩
    case measure=>simp [intOf]
  ·have hj:j=2:=by simpa using hj.o
   subst hj;have hq1:IntKind.i64.wrap (2+1)=3:=by decide
   have hq2:IntKind.i64.wrap 3=3:=by decide
   have c1:=yg T 2;have c2:=yg T 3;have c3:=yT (crn T 2) (crn T 3) p;have hst:cutK p T (2+1)=cutK p T 2 ++ part p (crn T 2) (crn T 3):=rfl;have hle:=jl p T 2;have HST:=hdd hst;have HLE:=hdd hle;clear hst hle;generalize eu:crn T 2=u at *
   generalize ev:crn T 3=v at *
   clear eu ev;obtain ⟨L1,hL1⟩:∃ L1,cutK p T 3=L1:=⟨_,rfl⟩;have HL1:=hdd hL1;rw [show cutK p T (2+1)=L1 from hL1] at HST;clear hL1;generalize cutK p T 2=L0 at *
   have Ft:=Bt.f;have Fa:=Ba.f;go_wp2_with fail;refine (cH _).mono ?_;rintro e w21 ⟨rfl,hb⟩;clear Ft Fa;replace Bt:=Bt.ee hb;replace Ba:=Ba.ee hb;replace hown:=yp hown hb;replace hw:=upB hw hb;clear hb;by_cases h0:ori u v p=0
   ·rw [show (!decide (ori u v p=0))=false by simp [h0]] at c3;have HL:=hdd (show L1=L0 by rw [HST.o];unfold part;rw [JH h0];simp);generalize mk u v p=X at *
    clear h0 HST;have Ft:=Bt.f;have Fa:=Ba.f;go_wp2_with fail;have G9:=J2 Bt.cells Ba.cells;refine rgl 12 7 46 (λw41 bkz hb h1b h2b Bz=>?_);have ltz:=Bt.lt;have laz:=Ba.lt;have hw0z:=hw.size;clear G9;clear Ft Fa;obtain ⟨Bt,Ba,hw,-⟩:=qX2 Bt Ba hw hb;have fz:=h1b;have hwz:w.heap.size<=w21.heap.size:=hw0z;replace hown:=yp hown hb;clear hb h1b h2b hw0z;simp only [Act.put];have Ft:=Bt.f;have Fa:=Ba.f;have Fz:=Bz.f;go_wp2
    go_roundw
    case rel=>exact ⟨3,3,by omega,by first | rfl | go_num,hdd rfl,by rw [HL1.o,HL.o];exact hown,Bt,Ba,hw⟩
    case measure=>simp [intOf]
   ·rw [show (!decide (ori u v p=0))=true by simp [h0]] at c3;have HL:=hdd (show L1=L0 ++ [mk u v p] by rw [HST.o];unfold part;rw [J0 h0]);generalize mk u v p=X at *
    clear h0 HST;have Ft:=Bt.f;have Fa:=Ba.f;go_wp2_with fail;have G9:=J2 Bt.cells Ba.cells;refine rgl 12 7 46 (λw41 bkz hb h1b h2b Bz=>?_);have ltz:=Bt.lt;have laz:=Ba.lt;have hw0z:=hw.size;clear G9;clear Ft Fa;obtain ⟨Bt,Ba,hw,-⟩:=qX2 Bt Ba hw hb;have fz:=h1b;have hwz:w.heap.size<=w21.heap.size:=hw0z;replace hown:=yp hown hb;clear hb h1b h2b hw0z;simp only [Act.put];have Ft:=Bt.f;have Fa:=Ba.f;have Fz:=Bz.f;have HB:=hdd hw.size;go_wp2_with (at_builtin;refine yJ rfl _ _ rfl (w.heap.size+2) _ L0 rfl (hown.alloc _) (w41.heap.size) X rfl (Box.new (by simp)) (by have:=HLE.o;omega) (by have:=HB.o;have:=Ba.lt;simp;omega) ?_;intro w4 v4 hown4 hg4)
    have hlt:=λk hk=>((hown.alloc (.cells (cT X).toArray 45)).lt k hk).1;have Bt4:=(Bt.old (.cells (cT X).toArray 45)).grown2 hg4 (λk hk=>by have:=hlt k hk;omega);have Ba4:=(Ba.old (.cells (cT X).toArray 45)).grown2 hg4 (λk hk=>by have:=hlt k hk;omega);have hw4:=(hw.alloc hw.size (.cells (cT X).toArray 45)).grown hg4 (by have:=hw.size;simp;omega) (λk hk=>by have:=hlt k hk;omega)
    go_roundw
    case rel=>exact ⟨3,3,by omega,by first | rfl | go_num,hdd rfl,by rw [HL1.o,HL.o];exact hown4,Bt4,Ba4,hw4⟩
    case measure=>simp [intOf]
  ·have hj:j=3:=by simpa using hj.o
   subst hj;rw [cutK3 p T] at hown;obtain ⟨a1,c1,rfl,hc1,hr1⟩:=zx ks hown;have hle:=jk p T;have hlen:=hdd (show (cutP p T).length=(srt cmpT (cutP p T)).length from (zU _).length_eq.symm);have Ft:=Bt.f;have Fa:=Ba.f;go_wp2_with fail;refine (t8 _ _ _ _ (hdd rfl) (by omega) hc1 _ hr1).mono ?_;rintro e w9 ⟨a,cap,rfl,hcap,hr,hb⟩;go_wp2
   go_ret
   exact ⟨a,cap,by rw [hlen.o];rfl,by rw [<-hlen.o];exact hcap,hr,(upB hw hb)⟩
theorem rcut_cap (T:Tri3) (p:Pt) (w:World):Calls prog 89 #[T,p] w λe w'=>∃ a cap,e=.returned (.slice a (srt cmpT (cutR T p)).length cap)/\(srt cmpT (cutR T p)).length<=cap/\RowAt cT 6 w' a (srt cmpT (cutR T p))/\Below w w w':=by
 unfold cutR cutOk;have z:srt cmpT ([]:List Tri3)=[]:=Ju.1 (by rw [(zU _).length_eq];rfl);cases h0:hasP T p with
 | false=>simpa [z] using rcut_no0 T p h0 w
 | true=>
  cases h1:peqI p.x p.y T.A.x T.A.y with
  | true=>simpa [z] using rcut_no1 T p h0 h1 w
  | false=>
   cases h2:peqI p.x p.y T.B.x T.B.y with
   | true=>simpa [z] using rcut_no2 T p h0 h1 h2 w
   | false=>
    cases h3:peqI p.x p.y T.C.x T.C.y with
    | true=>simpa [z] using rcut_no3 T p h0 h1 h2 h3 w
    | false=>simpa using rcut_yes T p h0 h1 h2 h3 w
theorem rcut_any (T : Tri3) (p : Pt) (w : World) :
    Calls prog 89 #[T,p] w λe w'=>∃ a cap,e=.returned (.slice a (srt cmpT (cutR T p)).length cap)/\RowAt cT 6 w' a (srt cmpT (cutR T p))/\Below w w w':=(rcut_cap T p w).mono λ_ _ ⟨a,cap,h1,_,h3,h4⟩=>⟨a,cap,h1,h3,h4⟩
def starE (p:Pt) (E:Es):List Tri3:=(E.filter λe=>decide (e.1.1=p)).map (·.2)
theorem uw {p:Pt} {E F:Es} (h:E.Perm F):(starE p E).Perm (starE p F):=(h.filter _).map _
theorem qq (p:Pt) (E F:Es):starE p (E ++ F)=starE p E ++ starE p F:=by unfold starE;rw [Qf,QC]
theorem ZY (p:Pt) (E:Es):(starE p E).length<=E.length:=by unfold starE;rw [Qz];exact Qn _ _
theorem starE_yes {p:Pt} {e:(Pt×Pt)×Tri3} (h:e.1.1=p):starE p [e]=[e.2]:=by simp [starE,h]
theorem starE_no {p:Pt} {e:(Pt×Pt)×Tri3} (h:¬ e.1.1=p):starE p [e]=[]:=by simp [starE,h]
theorem xP (mb b:Nat) (E:Es) (p:Pt) (hE:E.length<=1000000) (w:World) (Bm:Box w mb [.map (some b)] 98) (Hm:Hs w b E):Calls prog 87 #[pt0 mb,p] w λe w'=>∃ a cap,e=.returned (.slice a (srt cmpT (starE p E)).length cap)/\RowAt cT 6 w' a (srt cmpT (starE p E))/\Below w w w':=by
 have Fm:=Bm.f
 go_enter func87,ntmps87
 go_wp2_with (at_range;refine yK _ rfl _ rfl kvR rfl (Hm.alloc _) ?_)
 intro w0 HR0 hw0 hs0;have Bp0:Box w0 w [p.x,p.y] 34:=(Box.new rfl).ext hw0 (by simp);replace hw0:Below w w w0:=((Below.refl w.heap.size w).alloc (JJ _) _).trans (hw0.mono (by simp));clear Fm;go_wp2
 go_loopw [5] (λv wr=>∃ D R:Es,Hi ((D ++ R).Perm E)/\wr.ownsRow (w.heap.size+1) 45 6 v (starE p D).length ((starE p D).flatMap cT)/\Ranging eW eT okW wr b (w.heap.size+1) E R/\Box wr w [p.x,p.y] 34/\Below w w wr) (λ_ wr=>wr.rangeLeft b (w.heap.size+1))
 case atStart=>exact ⟨[],E,hdd (by simp),World.ownsRow_nil _ _ _ _,by simpa using HR0,Bp0,hw0⟩
 case round=>
  clear HR0 hw0 Bp0;obtain ⟨D,R,hD,hown,HR,Bp,hw⟩:=hrel;go_wp2_with (at_next;refine yN _ rfl _ rfl rfl HR ?_ ?_)
  ·intro hR;subst hR;have hp0:(starE p D).Perm (starE p E):=uw (by simpa using hD.o);have hle:(starE p D).length<=1000000:=by have:=hp0.length_eq;have:=ZY p E;omega
   have HS:=hdd (wholeT.srt_of_perm hp0);obtain ⟨a1,c1,rfl,hc1,hr1⟩:=zx ks hown;have hlen:=hdd (show (starE p D).length=(srt cmpT (starE p E)).length by rw [<-HS.o];exact (zU _).length_eq.symm);go_wp2_with fail;refine (xY _ _ _ _ (hdd rfl) hle hc1 _ hr1).mono ?_;rintro e w2 ⟨a,cap,rfl,hr,hb⟩;go_wp2
   go_ret
   rw [HS.o] at hr;exact ⟨a,cap,by rw [hlen.o];rfl,hr,(upB hw hb)⟩
  ·intro u x T R' w1 hperm HR1 hg1 hs1 hen;have hD2:=hdd (show ((D ++ [((u,x),T)]) ++ R').Perm E by have:=(hperm.append_left D).symm.trans hD.o;simpa using this);have own1:=hown.kept hg1 (.inr (λe=>zw hown HR e.symm));have Bp1:=Bp.grown1 hg1;have hw1:=hw.grown hg1 hw.size (λk hk=>by cases hk;omega);have HL:=hdd (show w1.rangeLeft b (w.heap.size+1) < wr.rangeLeft b (w.heap.size+1) by rw [zT HR1,zT HR,hperm.length_eq];simp);have hen2:(Instr.entry (.pointer (some ⟨w+1,0,none⟩))).run prog w1=.ok (.tuple #[.agg #[u.x,u.y,x.x,x.y],T]) w1:=hen;have hle:(starE p D).length<=1000000:=by have:=hD2.o.length_eq;have:=ZY p D;simp at *;omega
   have HB:=hdd hw1.size;clear hown HR hg1 hs1 hen hperm hw Bp;have e1:(w.heap.size=w1.heap.size+1)=False:=by have:=Bp1.lt;simp;omega
   by_cases hA:u=p
   ·have hd:peqI u.x u.y p.x p.y=true:=yo.2 hA;have HH:=hdd (show starE p (D ++ [((u,x),T)])=starE p D ++ [T] by rw [qq,starE_yes hA]);clear hA;have Fp:=Bp1.f;have hb3:Below w1 w1 ((w1.alloc (.cells #[u.x,u.y,x.x,x.y] 100)).alloc (.cells (cT T).toArray 45)):=by go_grown
    have own3:=(own1.alloc (.cells #[u.x,u.y,x.x,x.y] 100)).alloc (.cells (cT T).toArray 45);go_wp2_with (at_builtin;refine yJ rfl _ _ rfl (w.heap.size+1) _ (starE p D) rfl (own3.alloc _) (w1.heap.size+1+1) T rfl (Box.new (by simp)) hle (by have:=HB.o;simp;omega) ?_;intro w4 v4 hown4 hg4)
    have hR3:=(HR1.ee hb3).kept (World.grownBy_alloc _ (.cells (cT T).toArray 45) none) (by simp) (by simp);have hR4:=hR3.kept hg4 (yF (own3.alloc _) hR3.holds) (zw (own3.alloc _) hR3);have hw4:=((((upB hw1 hb3)).alloc (by have:=HB.o;simp;omega) (.cells (cT T).toArray 45))).grown hg4 (by have:=HB.o;simp;omega) (λk hk=>by have:=((own3.alloc (.cells (cT T).toArray 45)).lt k hk).1;omega);have Bp4:=(((Bp1.old _).old _).old _).grown2 hg4 (λk hk=>by have:=((own3.alloc (.cells (cT T).toArray 45)).lt k hk).1;omega)
    go_roundw
    case rel=>exact ⟨D ++ [((u,x),T)],R',hD2,by rw [HH.o];exact hown4,hR4,Bp4,hw4⟩
    case measure=>rw [zT hR4,<-zT HR1];exact HL.o
   ·have hd:peqI u.x u.y p.x p.y=false:=by rw [<-QO,yo];exact hA
    have HH:=hdd (show starE p (D ++ [((u,x),T)])=starE p D by rw [qq,starE_no hA];simp);clear hA;have Fp:=Bp1.f;go_wp2
    go_roundw
    case rel=>exact ⟨D ++ [((u,x),T)],R',hD2,by rw [HH.o];exact (own1.alloc _).alloc _,HR1.ext (by go_grown) rfl,(Bp1.old _).old _,by have:=hw1.size;go_grown⟩
    case measure=>rw [zT ((HR1.ext (w':=(w1.alloc _).alloc _) (by go_grown) rfl)),<-zT HR1];exact HL.o
end
end Go.Proofs.YthhcehmmglmlfaaGreat
