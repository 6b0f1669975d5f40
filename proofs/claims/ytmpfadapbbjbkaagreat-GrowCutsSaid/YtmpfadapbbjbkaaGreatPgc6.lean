import Derived.Test.YtmpfadapbbjbkaaGreatPgc5
import Derived.Lib.SliceRun
import Derived.Deep.LoopGhost
set_option maxRecDepth 100000
set_option maxHeartbeats 8000000
set_option linter.all false
namespace Go.Proofs.YtmpfadapbbjbkaaGreat
open _root_.Go.Proofs.Tryz
section
open Go.RowKit
def PH (h:Pt->Int) (a b c d:Pt):Int:=det d b c * h a+det a d c * h b+det a b d * h c - det a b c * h d
theorem PH_lft (a b c d:Pt):PH (λp=>p.x * p.x+p.y * p.y) a b c d=lft a b c d:=by unfold PH lft ht cr way det;grind
theorem wgt_ex:∃ (w:Pt->Int) (M:Int),(∀ p,vld p=true->0 < w p/\w p<=M)/\∀ p q,vld p=true->vld q=true->key p < key q->2251799545249801 * w q<=w p:=by
 have gen:∀ (B:Nat) (C N:Int),(B:Int)=C->0 < B->(∀ p,vld p=true->0<=key p/\key p<=N)->∃ (w:Pt->Int) (M:Int),(∀ p,vld p=true->0 < w p/\w p<=M)/\∀ p q,vld p=true->vld q=true->key p < key q->C * w q<=w p:=by
  intro B C N hC hB hN;refine ⟨λp=>((B ^ (N - key p).toNat:Nat):Int),((B ^ N.toNat:Nat):Int),λp hp=>?_,λp q hp hq hk=>?_⟩
  ·have h1:0 < B ^ (N - key p).toNat:=Nat.pow_pos hB;have h2:B ^ (N - key p).toNat<=B ^ N.toNat:=Nat.pow_le_pow_right hB (by have:=hN p hp;omega);refine ⟨?_,?_⟩
   ·show (0:Int) < ((B ^ (N - key p).toNat:Nat):Int);omega
   ·show ((B ^ (N - key p).toNat:Nat):Int)<=((B ^ N.toNat:Nat):Int);omega
  ·have:=hN q hq;have:=hN p hp;have e:(N - key p).toNat=((N - key q).toNat+1)+((N - key p).toNat - ((N - key q).toNat+1)):=by omega
   have h1:B ^ ((N - key q).toNat+1)<=B ^ (N - key p).toNat:=Nat.pow_le_pow_right hB (by omega);rw [Nat.pow_succ,JU] at h1;show C * ((B ^ (N - key q).toNat:Nat):Int)<=((B ^ (N - key p).toNat:Nat):Int);rw [<-hC]
   exact_mod_cast h1
 exact gen 2251799545249801 2251799545249801 281474976710656 (by omega) (by omega) (λp hp=>by rw [zZ] at hp;unfold key;omega)
theorem qq {u w D:Int} (h1 : -D<=u) (h2:u<=D) (hw:0<=w) : -(D * w)<=u * w/\u * w<=D * w:=by
 have e1:=KT h2 hw;have e2:=KT h1 hw;rw [JL] at e2;exact ⟨e2,e1⟩
structure Hts (h:Pt->Int):Prop where
 nn:∀ p,vld p=true->0<=h p
 sign:∀ a b c d,vld a=true->vld b=true->vld c=true->vld d=true->0 < det a b c->d≠a->d≠b->d≠c->(circ a b c d=1/\0 < PH h a b c d/\0<=lft a b c d)\/(circ a b c d = -1/\PH h a b c d < 0)
theorem tie_main {w:Pt->Int} (hp:∀ p,vld p=true->0 < w p) (hw:∀ p q,vld p=true->vld q=true->key p < key q->2251799545249801 * w q<=w p) {a b c d:Pt} (ha:vld a=true) (hb:vld b=true) (hc:vld c=true) (hd:vld d=true) (hD:0 < det a b c) (e1:d≠a) (e2:d≠b) (e3:d≠c) (hl:lft a b c d=0):(circ a b c d=1/\PH w a b c d < 0)\/(circ a b c d = -1/\0 < PH w a b c d):=by
 obtain ⟨n1,n2,n3⟩:=zL hD;have h0:¬ ori a b c=0:=by rw [ori_v ha hb hc,y7];omega
 rw [yN h0 hd e1 e2 e3,Ye (by rw [hl];simp [sgn])];have hk:=xR ha hb hc hd;have k1:∀ p q:Pt,vld p=true->vld q=true->p≠q->key p≠key q:=λp q hp hq hn h=>hn (yK hp hq h);have b0:=jf ha hb hc;have b1:=jf hd hb hc;have b2:=jf ha hd hc;have b3:=jf ha hb hd;have t1:det d b c≠0:=qi hl (by omega) e2 e3;have t2:det a d c≠0:=by
  have:=qi (a:=b) (b:=c) (c:=a) (d:=d) (by rw [kO];exact hl) (by rw [zX];omega) e3 e1
  rwa [<-zX a d c]
 have t3:det a b d≠0:=by
  have:=qi (a:=c) (b:=a) (c:=b) (d:=d) (by rw [kO b c a,kO];exact hl) (by rw [zX b c a,zX];omega) e1 e2
  rwa [<-zX a b d,<-zX b d a]
 have pa:=hp a ha;have pb:=hp b hb;have pc:=hp c hc;have pd:=hp d hd;have q1:=qq b1.1 b1.2 (XI pa);have q2:=qq b2.1 b2.2 (XI pb);have q3:=qq b3.1 b3.2 (XI pc);have q4:=qq b0.1 b0.2 (XI pd);have one:∀ (u x:Int),u≠0->0 < x->(0 < u/\x<=u * x)\/(u < 0/\u * x <= -x):=by
  intro u x hu hx;rcases Int.lt_or_gt_of_ne hu with k | k
  ·right
   have:=Yk (a := -1 - u) (b:=x) (by omega) (by omega);rw [Int.sub_mul] at this;exact ⟨k,by omega⟩
  ·left
   have:=Yk (a:=u - 1) (b:=x) (by omega) (by omega);rw [Int.sub_mul] at this;exact ⟨k,by omega⟩
 unfold PH tie;rcases Z4 a b c d with m | m | m | m
 ·rw [m] at hk;have x1:=hw a b ha hb (by have:=k1 a b ha hb n1;omega);have x2:=hw a c ha hc (by have:=k1 a c ha hc n3.symm;omega);have x3:=hw a d ha hd (by have:=k1 a d ha hd e1.symm;omega);rw [m,Ye (np e1.symm),Yn (pp rfl),ori_v hd hb hc];have s:=zJ (det d b c);have o:=one _ _ t1 pa;generalize det d b c * w a=z1 at *
  generalize det a d c * w b=z2 at *
  generalize det a b d * w c=z3 at *
  generalize det a b c * w d=z4 at *
  omega
 ·rw [m] at hk;have x1:=hw b a hb ha (by have:=k1 b a hb ha n1.symm;omega);have x2:=hw b c hb hc (by have:=k1 b c hb hc n2;omega);have x3:=hw b d hb hd (by have:=k1 b d hb hd e2.symm;omega);rw [m,Ye (np e2.symm),Ye (np n1.symm),Yn (pp rfl),ori_v ha hd hc];have s:=zJ (det a d c);have o:=one _ _ t2 pb;generalize det d b c * w a=z1 at *
  generalize det a d c * w b=z2 at *
  generalize det a b d * w c=z3 at *
  generalize det a b c * w d=z4 at *
  omega
 ·rw [m] at hk;have x1:=hw c a hc ha (by have:=k1 c a hc ha n3;omega);have x2:=hw c b hc hb (by have:=k1 c b hc hb n2.symm;omega);have x3:=hw c d hc hd (by have:=k1 c d hc hd e3.symm;omega);rw [m,Ye (np e3.symm),Ye (np n3),Ye (np n2.symm),ori_v ha hb hd];have s:=zJ (det a b d);have o:=one _ _ t3 pc;generalize det d b c * w a=z1 at *
  generalize det a d c * w b=z2 at *
  generalize det a b d * w c=z3 at *
  generalize det a b c * w d=z4 at *
  omega
 ·rw [m] at hk;have x1:=hw d a hd ha (by have:=k1 d a hd ha e1;omega);have x2:=hw d b hd hb (by have:=k1 d b hd hb e2;omega);have x3:=hw d c hd hc (by have:=k1 d c hd hc e3;omega);rw [m,Yn (pp rfl),ori_v ha hb hc];have s:=zJ (det a b c);have o:=one _ _ (show det a b c≠0 by omega) pd;generalize det d b c * w a=z1 at *
  generalize det a d c * w b=z2 at *
  generalize det a b d * w c=z3 at *
  generalize det a b c * w d=z4 at *
  omega
theorem hts_ex:∃ h,Hts h:=by
 obtain ⟨w,M,hM,hw⟩:=wgt_ex;have hM0:0 < M:=by have:=hM ⟨0,0⟩ (by decide);omega
 refine ⟨λp=>(4 * 562949886312450 * M+1) * (p.x * p.x+p.y * p.y) - w p+M,λp hp=>?_,λa b c d ha hb hc hd hD e1 e2 e3=>?_⟩
 ·have:=hM p hp;have:=Yk (a:=4 * 562949886312450 * M+1) (b:=p.x * p.x+p.y * p.y) (by omega) (by have:=sq_nn p.x;have:=sq_nn p.y;omega);show 0<=(4 * 562949886312450 * M+1) * (p.x * p.x+p.y * p.y) - w p+M;omega
 ·have e : PH (λp => (4 * 562949886312450 * M + 1) * (p.x * p.x + p.y * p.y) - w p + M) a b c d = (4 * 562949886312450 * M + 1) * lft a b c d - PH w a b c d := by
    have z:det d b c+det a d c+det a b d=det a b c:=by unfold det;grind
    rw [<-PH_lft];unfold PH;grind
  rw [e];have h0:¬ ori a b c=0:=by rw [ori_v ha hb hc,y7];omega
  have pa:=hM a ha;have pb:=hM b hb;have pc:=hM c hc;have pd:=hM d hd;by_cases hl:lft a b c d=0
  ·have t:=tie_main (λp hp=>(hM p hp).1) hw ha hb hc hd hD e1 e2 e3 hl;rw [hl,XN];omega
  ·have b0:=jf ha hb hc;have b1:=jf hd hb hc;have b2:=jf ha hd hc;have b3:=jf ha hb hd;have q1:=qq b1.1 b1.2 (XI pa.1);have q2:=qq b2.1 b2.2 (XI pb.1);have q3:=qq b3.1 b3.2 (XI pc.1);have q4:=qq b0.1 b0.2 (XI pd.1);rw [yN h0 hd e1 e2 e3];have s:=zJ (lft a b c d);rw [Yn (by rw [y7];exact hl)];have key:(4 * 562949886312450 * M+1) * lft a b c d <= -(4 * 562949886312450 * M+1)\/(4 * 562949886312450 * M+1)<=(4 * 562949886312450 * M+1) * lft a b c d:=by
    rcases Int.lt_or_gt_of_ne hl with k | k
    ·left
     have:=Yk (a:=4 * 562949886312450 * M+1) (b := -1 - lft a b c d) (by omega) (by omega);rw [Kb] at this;omega
    ·right
     have:=Yk (a:=4 * 562949886312450 * M+1) (b:=lft a b c d - 1) (by omega) (by omega);rw [Kb] at this;omega
   have sg:0 < lft a b c d->(4 * 562949886312450 * M+1) * lft a b c d > 0:=λk=>Yu (by omega) k;have sg':lft a b c d < 0->(4 * 562949886312450 * M+1) * lft a b c d < 0:=λk=>Xl (by omega) k;unfold PH;generalize (4 * 562949886312450 * M+1) * lft a b c d=Q at *
   generalize det d b c * w a=z1 at *
   generalize det a d c * w b=z2 at *
   generalize det a b d * w c=z3 at *
   generalize det a b c * w d=z4 at *
   omega
theorem lft_edge (a b c d:Pt):lft a b c d=det c a d * ((b.x - a.x) * (b.x - a.x)+(b.y - a.y) * (b.y - a.y)) - det b a d * ((c.x - a.x) * (c.x - a.x)+(c.y - a.y) * (c.y - a.y)) - det a b c * ((d.x - a.x) * (d.x - a.x)+(d.y - a.y) * (d.y - a.y)):=by unfold lft ht cr way det;grind
theorem lft_edge2 (a b c d:Pt):lft a b c d=det d b c * ((b.x - a.x) * (b.x - a.x)+(b.y - a.y) * (b.y - a.y)) - det b a d * ((c.x - b.x) * (c.x - b.x)+(c.y - b.y) * (c.y - b.y)) - det a b c * ((d.x - b.x) * (d.x - b.x)+(d.y - b.y) * (d.y - b.y)):=by unfold lft ht cr way det;grind
theorem sq_ne {p q:Pt} (h:p≠q):0 < (q.x - p.x) * (q.x - p.x)+(q.y - p.y) * (q.y - p.y):=by
 have s1:=sq_nn (q.x - p.x);have s2:=sq_nn (q.y - p.y);refine Yt λk=>h ?_;have u1:=Yl.1 (show (q.x - p.x) * (q.x - p.x)=0 by omega);have u2:=Yl.1 (show (q.y - p.y) * (q.y - p.y)=0 by omega);rw [Pt.eq_iff];omega
theorem convex {a b c d:Pt} (h1:0 < det a b c) (h2:0 < det b a d) (hl:0<=lft a b c d):0 < det c a d/\0 < det d b c:=by
 obtain ⟨n1,n2,n3⟩:=zL h1;obtain ⟨m1,m2,m3⟩:=zL h2;have key:∀ g x y z:Int,0 < x->0 < y->0 < z->0<=g * x - det b a d * y - det a b c * z->0 < g:=by
  intro g x y z hx hy hz k;refine Yt λhg=>?_;have i1:=Yk (a := -g) (b:=x) (by omega) (by omega);have i2:=Yu h2 hy;have i3:=Yu h1 hz;rw [JL] at i1;omega
 refine ⟨key _ _ _ _ (sq_ne n1) (sq_ne n3.symm) (sq_ne m2) (by rw [<-lft_edge];exact hl),key _ _ _ _ (sq_ne n1) (sq_ne n2) (sq_ne m3.symm) (by rw [<-lft_edge2];exact hl)⟩
def vol (h:Pt->Int) (T:Tri3):Int:=det T.A T.B T.C * (h T.A+h T.B+h T.C)
def volS (h:Pt->Int):List Tri3->Int
 | []=>0
 | T :: L=>vol h T+volS h L
theorem uN {h:Pt->Int} {l m:List Tri3} (p:l.Perm m):volS h l=volS h m:=by
 induction p with
 | nil=>rfl
 | cons x _ ih=>simp only [volS,ih]
 | swap x y l=>simp only [volS];omega
 | trans _ _ h1 h2=>exact h1.trans h2
theorem Cyc.vol {T:Tri3} {a b c:Pt} (h:Cyc T a b c) (f:Pt->Int):Go.Proofs.YtmpfadapbbjbkaaGreat.vol f T=Go.Proofs.YtmpfadapbbjbkaaGreat.det a b c * (f a+f b+f c):=by
 rw [h.det];unfold Go.Proofs.YtmpfadapbbjbkaaGreat.vol;rcases h with ⟨rfl,rfl,rfl⟩ | ⟨rfl,rfl,rfl⟩ | ⟨rfl,rfl,rfl⟩
 ·rfl
 ·congr 1;omega
 ·congr 1;omega
theorem vol_flip (h:Pt->Int) {S R U V:Tri3} (M:List Tri3) {a b c d:Pt} (hS:Cyc S a b c) (hR:Cyc R b a d) (hU:Cyc U c a d) (hV:Cyc V d b c):volS h (S :: R :: M)=volS h (U :: V :: M)+PH h a b c d:=by
 simp only [volS];rw [hS.vol,hR.vol,hU.vol,hV.vol];unfold PH det;grind
theorem Zv {h:Pt->Int} (hh:Hts h):∀ {L:List Tri3},(∀ T∈L,0 < det T.A T.B T.C/\vld T.A=true/\vld T.B=true/\vld T.C=true)->0<=volS h L
 | [],_=>Jp 0
 | T :: L,k=>by
  have k1:=k T (by simp);have k2:=Zv hh (L:=L) (λS hS=>k S (by simp [hS]));have a1:=hh.nn _ k1.2.1;have a2:=hh.nn _ k1.2.2.1;have a3:=hh.nn _ k1.2.2.2;have:=Yk (a:=det T.A T.B T.C) (b:=h T.A+h T.B+h T.C) (by omega) (by omega);unfold volS vol;omega
theorem vk {W H:Int} {a b c p:Pt} (hr:onRim W H a b) (h1:0 < det a b c) (hc:inBox W H c) (hp:inBox W H p):0<=det a b p:=by
 refine Yt λk=>?_;have z:crd a b ⟨p.x - a.x,p.y - a.y⟩=det a b p:=by unfold crd det;grind
 have:=vs (p:=a) (x:=p) hr h1 hc hp (by unfold det;grind) (by omega);omega
theorem near_hasM {M:Int} (hM:0 < M) {T:Tri3} {p:Pt} (hp:0 < det T.A T.B T.C) (h:hasM M T p):near M T p ⟨M * (T.A.x+T.B.x+T.C.x) - 3 * p.x,M * (T.A.y+T.B.y+T.C.y) - 3 * p.y⟩:=by
 have e:∀ a b c:Pt,M * crd a b ⟨M * (a.x+b.x+c.x) - 3 * p.x,M * (a.y+b.y+c.y) - 3 * p.y⟩=M * (M * det a b c) - 3 * det (sc M a) (sc M b) p:=by intro a b c;unfold crd det sc;grind
 have key:∀ a b c:Pt,0 < det a b c->0<=det (sc M a) (sc M b) p->0 < det (sc M a) (sc M b) p\/(det (sc M a) (sc M b) p=0/\0 < crd a b ⟨M * (a.x+b.x+c.x) - 3 * p.x,M * (a.y+b.y+c.y) - 3 * p.y⟩):=by
  intro a b c h1 h2;rcases XY h2 with k | k
  ·exact .inl k
  ·refine .inr ⟨k.symm,(zV hM).1 ?_⟩;rw [e,<-k];have:=Yu hM (Yu hM h1);omega
 obtain ⟨h1,h2,h3⟩:=h;have k1:=key T.A T.B T.C hp h1;have k2:=key T.B T.C T.A (by rw [zX];exact hp) h2;have k3:=key T.C T.A T.B (by rw [zX,zX];exact hp) h3;rw [show T.B.x+T.C.x+T.A.x=T.A.x+T.B.x+T.C.x by omega,show T.B.y+T.C.y+T.A.y=T.A.y+T.B.y+T.C.y by omega] at k2;rw [show T.C.x+T.A.x+T.B.x=T.A.x+T.B.x+T.C.x by omega,show T.C.y+T.A.y+T.B.y=T.A.y+T.B.y+T.C.y by omega] at k3;exact ⟨k1,k2,k3⟩
theorem qA {M:Int} {T:Tri3} {a b c p:Pt} (hc:Cyc T a b c):hasM M T p↔0<=det (sc M a) (sc M b) p/\0<=det (sc M b) (sc M c) p/\0<=det (sc M c) (sc M a) p:=by
 unfold hasM;rcases hc with ⟨rfl,rfl,rfl⟩ | ⟨rfl,rfl,rfl⟩ | ⟨rfl,rfl,rfl⟩ <;> omega
structure Fixed (W H:Int) (wl:Pt->Pt->Prop) (L:List Tri3):Prop where
 tiles:Tiles W H L
 good:∀ S∈L,∀ R∈L,∀ a b c d,Cyc S a b c->Cyc R b a d->¬ wl a b->circ a b c d≠1
theorem insP_iff {M:Tri3} {p:Pt} (hM:valT M=true) (vp:vld p=true):insP M p=true↔0 < det M.A M.B p/\0 < det M.B M.C p/\0 < det M.C M.A p:=by
 obtain ⟨va,vb,vc,hD⟩:=xA hM;unfold insP;rw [hM,Xy];simp only [Yf,Yh,(tY va vb vp).1,(tY vb vc vp).1,(tY vc va vp).1]
theorem jS {M:Tri3} {p:Pt} (hM:valT M=true) (vp:vld p=true):hasP M p=true↔0<=det M.A M.B p/\0<=det M.B M.C p/\0<=det M.C M.A p:=by
 obtain ⟨va,vb,vc,hD⟩:=xA hM;unfold hasP;rw [hM,vp,Xy,Xy];simp only [Yf,Yh,(tY va vb vp).2.1,(tY vb vc vp).2.1,(tY vc va vp).2.1]
theorem at_corner {M:Tri3} (p:Pt) (hD:0 < det M.A M.B M.C):(p=M.A↔det M.A M.B p=0/\det M.C M.A p=0)/\(p=M.B↔det M.B M.C p=0/\det M.A M.B p=0)/\(p=M.C↔det M.C M.A p=0/\det M.B M.C p=0):=
 ⟨corner0 p hD,corner0 p (by rw [zX];exact hD),corner0 p (by rw [zX,zX];exact hD)⟩
open Go.Sort
attribute [local go_sem] rOper rAt rUpon cell_set sg_i64 sg_u64 alloc_cell alloc_frozen
attribute [local go_sem 10000] pt_eql pt_neq
attribute [local irreducible] rWalk

attribute [local go_sem 10000] tri_eql
def Two (w:World) (A:Addr) (p:Pt):Prop:=A.block < w.heap.size/\w.cell? A=some (.int .i64 p.x)/\w.cell? ⟨A.block,A.off+1,none⟩=some (.int .i64 p.y)
theorem Two.ext {w w':World} {A:Addr} {p:Pt} {n:Nat} (h:Two w A p) (hb:Below n w w') (hn:n=w.heap.size):Two w' A p:=by
 obtain ⟨h0,h1,h2⟩:=h;have e:∀ q:Addr,q.block=A.block->w'.cell? q=w.cell? q:=λq hq=>hb.cell (by rw [hq,hn];exact h0);exact ⟨Xi h0 hb.size,(e A rfl).trans h1,(e ⟨A.block,A.off+1,none⟩ rfl).trans h2⟩
theorem Two.ee {w w':World} {A:Addr} {p:Pt} (h:Two w A p) (hb:Below w w w'):Two w' A p:=h.ext hb rfl
theorem Two.f {w:World} {A:Addr} {p:Pt} (h:Two w A p):(A.block=w.heap.size)=False/\w.cell? A=some (.int .i64 p.x)/\w.cell? ⟨A.block,A.off+1,none⟩=some (.int .i64 p.y):=⟨by simp;have:=h.1;omega,h.2⟩
theorem Two.cells {w:World} {A:Addr} {p:Pt} (h:Two w A p):(∀ d os,(grow (redrawn w d) os).cell? A=some (.int .i64 p.x))/\(∀ d os,(grow (redrawn w d) os).cell? ⟨A.block,A.off+1,none⟩=some (.int .i64 p.y)):=
 ⟨λd os=>(h.ext (below_regrown w d os) rfl).2.1,λd os=>(h.ext (below_regrown w d os) rfl).2.2⟩
theorem Two.set {w:World} {A:Addr} {p:Pt} (h:Two w A p) (q:Addr) (v:Value) (hq:q.block≠A.block):Two (w.setCell q v) A p:=by
 obtain ⟨h0,h1,h2⟩:=h;refine ⟨by simpa using h0,?_,?_⟩
 ·rw [World.cell?_setCell_other (h:=λe=>hq (by rw [e]))];exact h1
 ·rw [World.cell?_setCell_other (h:=λe=>hq (by rw [e]))];exact h2
def cnrs (L:List Tri3):List Pt:=L.flatMap λT=>[T.A,T.B,T.C]
theorem ZW:∀ L:List Tri3,(cnrs L).length=3 * L.length
 | []=>rfl
 | T :: L=>by have:=ZW L;unfold cnrs at *;rw [Yj,Yi,this];simp;omega
section
variable {α:Type} [DecidableEq α] {c:α->α->Int}
structure Cpt (c:α->α->Int) (L:List α) (r:Nat) (M:List α):Prop where
 rise:Rising c M
 mem:∀ p,p∈M↔p∈L.take r
 last:∀ (h:0 < r) (h2:r<=L.length),M.getLast? = some (L[r - 1]'(by omega))
 len:M.length<=r
omit [DecidableEq α] in
theorem rising_snoc (W:Whole c) {M:List α} {x y:α} (h:Rising c M) (hl:M.getLast? = some y) (hxy:c y x < 0):Rising c (M ++ [x]):=by
 unfold Rising at *;rw [KL];refine ⟨h,by simp,λa ha b hb=>?_⟩;simp at hb;subst hb;rw [List.getLast?_eq_some_iff] at hl;obtain ⟨N,rfl⟩:=hl;rw [KL] at h;rcases Ys.1 ha with ha | ha
 ·exact W.trans (h.2.2 a ha y (by simp)) hxy
 ·simp at ha;subst ha;exact hxy
omit [DecidableEq α] in
theorem Cpt.start {L:List α} (h:0 < L.length):Cpt c L 1 (L.take 1):=by
 cases L with
 | nil=>simp at h
 | cons x L=>exact ⟨by simp [Rising],by simp,by simp,by simp⟩
omit [DecidableEq α] in
theorem Cpt.next (W:Whole c) {L M:List α} {r:Nat} (h:Cpt c L r M) (ho:InOrder c L) (h0:0 < r) (hr:r < L.length) (hne:L[r]≠L[r - 1]'(by omega)):Cpt c L (r+1) (M ++ [L[r]]):=by
 have hl:=h.last h0 (by omega);have hle:c (L[r - 1]'(by omega)) L[r]<=0:=by
  unfold InOrder at ho;rw [Xk] at ho;exact ho _ _ _ _ (by omega)
 have hlt:c (L[r - 1]'(by omega)) L[r] < 0:=by
  have:c (L[r - 1]'(by omega)) L[r]≠0:=λe=>hne (W.eq0.1 e).symm;omega
 refine ⟨rising_snoc W h.rise hl hlt,λp=>?_,λ_ _=>by simp,by have:=h.len;simp;omega⟩;rw [Yv hr,Ys,Ys,h.mem p]
omit [DecidableEq α] in
theorem Cpt.same {L M:List α} {r:Nat} (h:Cpt c L r M) (h0:0 < r) (hr:r < L.length) (he:L[r]=L[r - 1]'(by omega)):Cpt c L (r+1) M:=by
 refine ⟨h.rise,λp=>?_,λ_ _=>?_,by have:=h.len;omega⟩
 ·rw [Yv hr,Ys,h.mem p];constructor
  ·exact .inl
  ·rintro (hp | hp)
   ·exact hp
   ·simp at hp;rw [hp,he];exact J1.2 ⟨r - 1,by omega,rfl⟩
 ·rw [h.last h0 (by omega)];simp [he]
omit [DecidableEq α] in
theorem Cpt.all (W:Whole c) {L:List α} (ho:InOrder c L):∀ r,r<=L.length->0 < r->(∀ (i:Nat) (h0:0 < i) (_:i < r) (h2:i < L.length),L[i]≠L[i - 1]'(by omega))->Cpt c L r (L.take r)
 | 0,_,h,_=>absurd h (by omega)
 | 1,h,_,_=>Cpt.start (by omega)
 | r+2,h,_,hd=>by
  have ih:=Cpt.all W ho (r+1) (by omega) (by omega) (λi h0 h1 h2=>hd i h0 (by omega) h2);have:=ih.next W ho (by omega) (by omega) (hd (r+1) (by omega) (by omega) (by omega))
  rwa [<-Yv (by omega)] at this
end
def wys (T:Tri3):Es:=[((T.A,T.B),T),((T.B,T.C),T),((T.C,T.A),T)]
theorem jC {T:Tri3} (h:valT T=true):T.A≠T.B/\T.B≠T.C/\T.C≠T.A:=by
 unfold valT at h;simp only [Yf,Kg,KI] at h;have h0:=h.1;refine ⟨λe=>h0 ?_,λe=>h0 ?_,λe=>h0 ?_⟩
 ·rw [e];unfold ori det;simp [sgn]
 ·rw [e];unfold ori det;rw [Jg (T.C.x - T.A.x)];simp [sgn]
 ·rw [e];unfold ori det;simp [sgn]
theorem vR {E:Es} {T:Tri3} (h:fitsE E T=true):getE E (T.A,T.B)=none/\getE E (T.B,T.C)=none/\getE E (T.C,T.A)=none/\valT T=true:=by
 unfold fitsE at h
 simpa only [Yf,JO] using h
theorem putT_eq {E:Es} {T:Tri3} (h:fitsE E T=true):(putT E T).Perm (E ++ wys T):=by
 obtain ⟨h1,h2,h3,hv⟩:=vR h;obtain ⟨a1,a2,a3⟩:=jC hv;rw [xf] at h1 h2 h3;unfold putT putE wys;rw [qU h1,qU (x:=(T.B,T.C)) (E:=((T.A,T.B),T) :: E) (λp hp=>by
  rcases Yg.1 hp with rfl | hp
  ·intro e;simp at e;exact a1 e.1
  ·exact h2 p hp),qU (x:=(T.C,T.A)) (E:=((T.B,T.C),T) :: ((T.A,T.B),T) :: E) (λp hp=>by
  rcases Yg.1 hp with rfl | hp
  ·intro e;simp at e;exact a2 e.1
  ·rcases Yg.1 hp with rfl | hp
   ·intro e;simp at e;exact a3 e.1.symm
   ·exact h3 p hp)]
 refine List.Perm.trans ?_ (XL (l₁:=[((T.A,T.B),T),((T.B,T.C),T),((T.C,T.A),T)]));exact (List.reverse_perm [((T.A,T.B),T),((T.B,T.C),T),((T.C,T.A),T)]).append_right E
structure Good (E:Es) (L:List Tri3):Prop where
 perm:E.Perm (L.flatMap wys)
 nodup:KeysNodup E
 val:∀ T∈L,valT T=true
theorem ur:∀ (L:List Tri3),(∀ T∈L,valT T=true)->heads yes (L.flatMap wys)=L
 | [],_=>rfl
 | T :: L,h=>by
  obtain ⟨a1,a2,a3⟩:=jC (h T (by simp));rw [Yj,zo,ur L (λS hS=>h S (by simp [hS]))];have:heads yes (wys T)=[T]:=by
   unfold heads wys yes;simp [Ne.symm a1,a3]
  rw [this];rfl
theorem Good.heads {E:Es} {L:List Tri3} (h:Good E L):(heads yes E).Perm L:=by
 have:=xY (p:=yes) h.perm
 rwa [ur L h.val] at this
theorem Zt:∀ L:List Tri3,(L.flatMap wys).length=3 * L.length
 | []=>rfl
 | T :: L=>by rw [Yj,Yi,Zt L,XO];simp [wys];omega
theorem Good.len {E:Es} {L:List Tri3} (h:Good E L):E.length=3 * L.length:=by rw [h.perm.length_eq,Zt]
theorem zj {a b c:Pt} (va:vld a=true) (vb:vld b=true) (vc:vld c=true) (h:0 < det a b c):Cyc (mk a b c) a b c/\valT (mk a b c)=true:=by
 have o:ori a b c=1:=by rw [ori_v va vb vc,sgn_pos];exact h
 have h0:¬ ori a b c=0:=by omega
 obtain ⟨_,_,_,n1,n2,n3⟩:=Z2 h0;have e0:mk a b c=mkT a b c:=by unfold mk;rw [Ye h0,Yn o]
 refine ⟨?_,(mk_ok h0).1⟩;rw [e0];rcases qO va vb vc n1 n2 n3 with ⟨_,_,e⟩ | ⟨_,_,e⟩ | ⟨_,_,e⟩ <;> rw [e]
 ·exact .inl ⟨rfl,rfl,rfl⟩
 ·exact .inr (.inr ⟨rfl,rfl,rfl⟩)
 ·exact .inr (.inl ⟨rfl,rfl,rfl⟩)
def part (p a b:Pt):List Tri3:=if ori a b p=0 then [] else [mk a b p]
def cutP (p:Pt) (T:Tri3):List Tri3:=part p T.A T.B ++ (part p T.B T.C ++ part p T.C T.A)
theorem zf {p a b:Pt} (va:vld a=true) (vb:vld b=true) (vp:vld p=true) (h:0 < det a b p):part p a b=[mk a b p]:=by
 unfold part;rw [Ye];rw [ori_v va vb vp,y7];omega
theorem xB {p a b:Pt} (va:vld a=true) (vb:vld b=true) (vp:vld p=true) (h:det a b p=0):part p a b=[]:=by
 unfold part;rw [Yn];rw [ori_v va vb vp,h];rfl
theorem xH {T:Tri3} {a b c:Pt} (h:Cyc T a b c) (p:Pt):(cutP p T).Perm (part p a b ++ (part p b c ++ part p c a)):=by
 unfold cutP;rcases h with ⟨rfl,rfl,rfl⟩ | ⟨rfl,rfl,rfl⟩ | ⟨rfl,rfl,rfl⟩
 ·exact .refl _
 ·exact List.perm_append_comm.trans (by rw [Yp])
 ·rw [<-Yp];exact XL
theorem flat_nodup {L:List Tri3} (h:(L.flatMap ways).Nodup):L.Nodup:=by
 induction L with
 | nil=>exact List.nodup_nil
 | cons T L ih=>
  rw [Yj,XE] at h;rw [Xn];refine ⟨λhT=>?_,ih h.2.1⟩;exact h.2.2 (T.A,T.B) (by simp [ways]) (T.A,T.B) (Yw.2 ⟨T,hT,by simp [ways]⟩) rfl
theorem vS {α:Type} [DecidableEq α] {L:List α} (hn:L.Nodup) {p:α->Bool} {a:α} (ha:a∈L) (h:∀ x∈L,p x=true↔x=a):(L.filter p).Perm [a]/\L.Perm (a :: L.filter λx => !p x):=by
 have h1:(L.filter p).Perm [a]:=by
  refine (List.perm_ext_iff_of_nodup (hn.sublist List.filter_sublist) (by simp)).2 λx=>?_;simp only [XR,Ka];exact ⟨λ⟨k1,k2⟩=>(h x k1).1 k2,λk=>by subst k;exact ⟨ha,(h x ha).2 rfl⟩⟩
 refine ⟨h1,?_⟩;have:=List.filter_append_perm p L;exact this.symm.trans (h1.append_right _)
theorem filter_two {α:Type} [DecidableEq α] {L:List α} (hn:L.Nodup) {p:α->Bool} {a b:α} (ha:a∈L) (hb:b∈L) (hab:a≠b) (h:∀ x∈L,p x=true↔(x=a\/x=b)):(L.filter p).Perm [a,b]/\L.Perm (a :: b :: L.filter λx => !p x):=by
 have h1:(L.filter p).Perm [a,b]:=by
  refine (List.perm_ext_iff_of_nodup (hn.sublist List.filter_sublist) (by simp [hab])).2 λx=>?_;simp only [XR,Yg,Ym,XG];refine ⟨λ⟨k1,k2⟩=>(h x k1).1 k2,λk=>?_⟩;rcases k with rfl | rfl
  ·exact ⟨ha,(h x ha).2 (.inl rfl)⟩
  ·exact ⟨hb,(h x hb).2 (.inr rfl)⟩
 refine ⟨h1,?_⟩;have:=List.filter_append_perm p L;exact this.symm.trans (h1.append_right _)
inductive Spots (W H:Int) (L:List Tri3) (p:Pt):List Tri3->Prop
 | within (T:Tri3):T∈L->insT T p->Spots W H L p [T]
 | rim (T:Tri3) (a b c:Pt):T∈L->Cyc T a b c->edg a b c p->onRim W H a b->Spots W H L p [T]
 | edge (T S:Tri3) (a b c d:Pt):T∈L->S∈L->Cyc T a b c->Cyc S b a d->edg a b c p->¬ onRim W H a b->Spots W H L p [T,S]
section
variable {W H:Int} {L:List Tri3} (h:Tiles W H L)
include h
theorem Tiles.spots (hW:0 < W) (hH:0 < H) {p:Pt} (hp:inBox W H p) (hn:∀ T∈L,¬ isCnr T p) {f:Tri3->Bool} (hf:∀ T∈L,f T=true↔hasT T p):∃ F,Spots W H L p F/\(L.filter f).Perm F/\L.Perm (F ++ L.filter λx => !f x):=by
 obtain ⟨T,hT,k⟩:=h.covers hW hH hp;have nd:=flat_nodup h.once;rcases jR (h.pos T hT) k with g | g | ⟨a,b,c,hc,g⟩
 ·exact absurd g (hn T hT)
 ·have := vS nd hT (p := f) (λx hx => by
    rw [hf x hx];exact ⟨λq=>(h.ins_one hT hx g q).symm,λe=>by rw [e];exact k⟩)
  exact ⟨_,.within T hT g,this⟩
 ·have two:=λx hx (q:hasT x p)=>h.edg_two hT hx hc g q (hn x hx);by_cases hr:onRim W H a b
  ·have := vS nd hT (p := f) (λx hx => by
     rw [hf x hx];refine ⟨λq=>?_,λe=>by rw [e];exact k⟩;rcases two x hx q with e | ⟨_,e⟩
     ·exact e
     ·exact absurd hr e)
   exact ⟨_,.rim T a b c hT hc g hr,this⟩
  ·have hm:=(h.rim (a,b) (yT hT hc.way)).resolve_right hr;obtain ⟨S,hS,hw⟩:=Yw.1 hm;have hw:(b,a)∈ways S:=hw;obtain ⟨d,hd⟩:=xJ hw;have pT:=h.cyc_pos hT hc;have pS:=h.cyc_pos hS hd;have ho:=xo pT pS g;have hne:T≠S:=by
    rintro rfl;have e1:=(hd.cnr_iff c).1 hc.turn.turn.cnr;obtain ⟨n1,n2,n3⟩:=zL pT;rcases e1 with e | e | e
    ·exact n2 e.symm
    ·exact n3 e
    ·rw [<-e,zh] at pS;omega
   have hasS:hasT S p:=by
    obtain ⟨o1,o2,o3⟩:=ho;have:0<=det b a p/\0<=det a d p/\0<=det d b p:=⟨by omega,by omega,by omega⟩;unfold hasT;rcases hd with ⟨rfl,rfl,rfl⟩ | ⟨rfl,rfl,rfl⟩ | ⟨rfl,rfl,rfl⟩
    ·exact this
    ·exact ⟨this.2.2,this.1,this.2.1⟩
    ·exact ⟨this.2.1,this.2.2,this.1⟩
   have:=filter_two nd hT hS hne (p:=f) (λx hx=>by
    rw [hf x hx];refine ⟨λq=>?_,λe=>?_⟩
    ·rcases two x hx q with e | ⟨e,_⟩
     ·exact .inl e
     ·exact .inr (yq h.once hx hS e hw)
    ·rcases e with rfl | rfl
     ·exact k
     ·exact hasS)
   exact ⟨_,.edge T S a b c d hT hS hc hd g hr,this⟩
theorem uQ (hW:0 < W) (hH:0 < H) (hW':W < 16777216) (hH':H < 16777216) {p:Pt} (hp:inBox W H p) (hn:∀ T∈L,¬ isCnr T p) {F M:List Tri3} (hF:Spots W H L p F) (hL:L.Perm (F ++ M)):Tiles W H (F.flatMap (cutP p) ++ M)/\(∀ T∈F.flatMap (cutP p),valT T=true/\isCnr T p):=by
 have vb:∀ q,inBox W H q->vld q=true:=λq hq=>by rw [zZ];unfold inBox at hq;omega
 have vp:=vb p hp;cases hF with
 | within T hT hi=>
  have hc:=Cyc.refl T;have va:=vb _ (h.cyc_box hT hc);have vb':=vb _ (h.cyc_box hT hc.turn);have vc:=vb _ (h.cyc_box hT hc.turn.turn);obtain ⟨i1,i2,i3⟩:=hi;have e:[T].flatMap (cutP p)=[mk T.A T.B p,mk T.B T.C p,mk T.C T.A p]:=by
   simp only [Yj,Xc,XM];unfold cutP;rw [zf va vb' vp i1,zf vb' vc vp i2,zf vc va vp i3];rfl
  rw [e];have m1:=zj va vb' vp i1;have m2:=zj vb' vc vp i2;have m3:=zj vc va vp i3;refine ⟨h.cut3 hn hp hL hc ⟨i1,i2,i3⟩ m1.1 m2.1 m3.1,λX hX=>?_⟩;simp only [Yg,Ym,XG] at hX;rcases hX with rfl | rfl | rfl
  ·exact ⟨m1.2,m1.1.turn.turn.cnr⟩
  ·exact ⟨m2.2,m2.1.turn.turn.cnr⟩
  ·exact ⟨m3.2,m3.1.turn.turn.cnr⟩
 | rim T a b c hT hc hi hr=>
  have va:=vb _ (h.cyc_box hT hc);have vb':=vb _ (h.cyc_box hT hc.turn);have vc:=vb _ (h.cyc_box hT hc.turn.turn);obtain ⟨i1,i2,i3⟩:=hi;have e:([T].flatMap (cutP p)).Perm [mk b c p,mk c a p]:=by
   simp only [Yj,Xc,XM];have:=xH hc p;rw [xB va vb' vp i1,zf vb' vc vp i2,zf vc va vp i3] at this;exact this
  have m2:=zj vb' vc vp i2;have m3:=zj vc va vp i3;refine ⟨(h.cut2r hn hp hL hc ⟨i1,i2,i3⟩ hr m2.1 m3.1).perm (e.symm.append_right M),λX hX=>?_⟩;rw [e.mem_iff] at hX;simp only [Yg,Ym,XG] at hX;rcases hX with rfl | rfl
  ·exact ⟨m2.2,m2.1.turn.turn.cnr⟩
  ·exact ⟨m3.2,m3.1.turn.turn.cnr⟩
 | edge T S a b c d hT hS hc hd hi hr=>
  have va:=vb _ (h.cyc_box hT hc);have vb':=vb _ (h.cyc_box hT hc.turn);have vc:=vb _ (h.cyc_box hT hc.turn.turn);have vd:=vb _ (h.cyc_box hS hd.turn.turn);have ho:=xo (h.cyc_pos hT hc) (h.cyc_pos hS hd) hi;obtain ⟨i1,i2,i3⟩:=hi;obtain ⟨o1,o2,o3⟩:=ho;have e:([T,S].flatMap (cutP p)).Perm [mk b c p,mk c a p,mk a d p,mk d b p]:=by
   simp only [Yj,Xc,XM];have e1:=xH hc p;rw [xB va vb' vp i1,zf vb' vc vp i2,zf vc va vp i3] at e1;have e2:=xH hd p;rw [xB vb' va vp o1,zf va vd vp o2,zf vd vb' vp o3] at e2;exact e1.append e2
  have m1:=zj vb' vc vp i2;have m2:=zj vc va vp i3;have m3:=zj va vd vp o2;have m4:=zj vd vb' vp o3;refine ⟨(h.cut4 hn hp hL hc hd ⟨i1,i2,i3⟩ m1.1 m2.1 m3.1 m4.1).perm (e.symm.append_right M),λX hX=>?_⟩;rw [e.mem_iff] at hX;simp only [Yg,Ym,XG] at hX;rcases hX with rfl | rfl | rfl | rfl
  ·exact ⟨m1.2,m1.1.turn.turn.cnr⟩
  ·exact ⟨m2.2,m2.1.turn.turn.cnr⟩
  ·exact ⟨m3.2,m3.1.turn.turn.cnr⟩
  ·exact ⟨m4.2,m4.1.turn.turn.cnr⟩
end
theorem jB (L:List Tri3):(L.flatMap wys).map (·.1)=L.flatMap ways:=by
 induction L with
 | nil=>rfl
 | cons T L ih=>rw [Yj,Yj,Xp,ih];rfl
theorem uM {L:List Tri3} {w:Pt×Pt} {T:Tri3}:(w,T)∈L.flatMap wys↔T∈L/\w∈ways T:=by
 rw [Yw];constructor
 ·rintro ⟨S,hS,h⟩;simp only [wys,Yg,XS,Ym,XG] at h;rcases h with ⟨rfl,rfl⟩ | ⟨rfl,rfl⟩ | ⟨rfl,rfl⟩ <;> exact ⟨hS,by simp [ways]⟩
 ·rintro ⟨hS,h⟩;refine ⟨T,hS,?_⟩;simp only [ways,Yg,Ym,XG] at h;rcases h with rfl | rfl | rfl <;> simp [wys]
section
variable {E:Es} {L:List Tri3} (h:Good E L)
include h
theorem Good.once:(L.flatMap ways).Nodup:=by
 rw [<-jB];have hn:=h.nodup;unfold KeysNodup at hn;exact (h.perm.map (·.1)).nodup_iff.1 hn
theorem Good.get {a b:Pt} {T:Tri3}:getE E (a,b)=some T↔T∈L/\(a,b)∈ways T:=by
 rw [getE_iff h.nodup,h.perm.mem_iff,uM]
theorem Good.get_none {a b:Pt}:getE E (a,b)=none↔(a,b) ∉ L.flatMap ways:=by
 rw [xf];constructor
 ·intro k hm;rw [<-jB,Yz] at hm;obtain ⟨p,hp,e⟩:=hm;exact k p (h.perm.mem_iff.2 hp) e
 ·intro k p hp e;apply k;rw [<-jB,Yz];exact ⟨p,h.perm.mem_iff.1 hp,e⟩
theorem Good.has {T:Tri3}:hasE E T=true↔T∈L:=by
 unfold hasE;constructor
 ·intro k;cases hg:getE E (T.A,T.B) with
  | none=>rw [hg] at k;cases k
  | some S=>
   rw [hg] at k;have e:=kD.1 k;rw [<-e];exact (h.get.1 hg).1
 ·intro k;rw [h.get.2 ⟨k,by simp [ways]⟩];exact kD.2 rfl
theorem Good.order {M:List Tri3} (p:L.Perm M):Good E M:=⟨h.perm.trans (p.flatMap_right _),h.nodup,λT hT=>h.val T (p.mem_iff.2 hT)⟩
end
theorem takeT_nodup {E:Es} (h:KeysNodup E) (T:Tri3):KeysNodup (takeT E T):=yx (yx (yx h _) _) _
theorem Good.take {E:Es} {T:Tri3} {M:List Tri3} (h:Good E (T :: M)):hasE E T=true/\Good (takeT E T) M:=by
 refine ⟨h.has.2 (by simp),?_,takeT_nodup h.nodup T,λS hS=>h.val S (by simp [hS])⟩;have hT:=h.val T (by simp);have ho:=h.once;rw [Yj,XE] at ho
 -- what is taken: the three pairs of T
 have hp:E.Perm (wys T ++ M.flatMap wys):=by have:=h.perm;rwa [Yj] at this
 have e1:takeT E T=E.filter (λp=>decide (p.1 ∉ ways T)):=by
  unfold takeT delE;rw [Jx,Jx];refine List.filter_congr λp _=>?_;simp only [ways,Yg,Ym,XG];by_cases a1:p.1=(T.A,T.B) <;> by_cases a2:p.1=(T.B,T.C) <;> by_cases a3:p.1=(T.C,T.A) <;> simp [a1,a2,a3]
 rw [e1];refine (hp.filter _).trans ?_;rw [KA];have f1:(wys T).filter (λp=>decide (p.1 ∉ ways T))=[]:=by
  rw [JZ];intro p hp';have:p.1∈ways T:=by
   have:p∈[T].flatMap wys:=by simpa using hp'
   obtain ⟨q,S⟩:=p;have:=uM.1 this;simp only [Ka] at this;rw [<-this.1];exact this.2
  simpa using this
 have f2:(M.flatMap wys).filter (λp=>decide (p.1 ∉ ways T))=M.flatMap wys:=by
  rw [KE];intro p hp';have:p.1 ∉ ways T:=λk=>ho.2.2 p.1 k p.1 (by rw [<-jB];exact List.mem_map_of_mem hp') rfl
  simpa using this
 rw [f1,f2,Xm]
theorem Good.put {E:Es} {T:Tri3} {M:List Tri3} (h:Good E M) (hv:valT T=true) (hn:∀ w∈ways T,w ∉ M.flatMap ways):fitsE E T=true/\Good (putT E T) (T :: M):=by
 have hf:fitsE E T=true:=by
  unfold fitsE;simp only [Yf,JO];exact ⟨h.get_none.2 (hn _ (by simp [ways])),h.get_none.2 (hn _ (by simp [ways])),h.get_none.2 (hn _ (by simp [ways])),hv⟩
 refine ⟨hf,?_,xP (xP (xP h.nodup _ _) _ _) _ _,λS hS=>?_⟩
 ·refine (putT_eq hf).trans ?_;rw [Yj];exact (h.perm.append_right _).trans XL
 ·rcases Yg.1 hS with rfl | hS
  ·exact hv
  ·exact h.val S hS
theorem Good.takes:∀ {F:List Tri3} {E:Es} {M:List Tri3},Good E (F ++ M)->(takeRun E F).1=F.length/\Good (takeRun E F).2 M
 | [],E,M,h=>⟨rfl,h⟩
 | T :: F,E,M,h=>by
  obtain ⟨h1,h2⟩:=Good.take (E:=E) (T:=T) (M:=F ++ M) h;obtain ⟨k1,k2⟩:=Good.takes h2;unfold takeRun;rw [Yn h1];exact ⟨by simp [k1],k2⟩
theorem Good.puts:∀ {I:List Tri3} {E:Es} {M:List Tri3},Good E M->(∀ T∈I,valT T=true)->((I ++ M).flatMap ways).Nodup->(putRun E I).1=I.length/\Good (putRun E I).2 (I ++ M)
 | [],E,M,h,_,_=>⟨rfl,h⟩
 | T :: I,E,M,h,hv,hn=>by
  have hn':(ways T ++ (I ++ M).flatMap ways).Nodup:=by rw [<-Yj];exact hn
  rw [XE] at hn';obtain ⟨h1,h2⟩:=Good.put (E:=E) (T:=T) (M:=M) h (hv T (by simp)) (λw hw k=>hn'.2.2 w hw w (by rw [X0];exact XJ _ k) rfl);obtain ⟨k1,k2⟩:=Good.puts (I:=I) h2 (λS hS=>hv S (by simp [hS])) ((zi (KM (a:=T) (l₁:=I) (l₂:=M))).nodup_iff.2 hn);unfold putRun;rw [Yn h1];exact ⟨by simp [k1],k2.order KM⟩
def someC (L:List Tri3) (p:Pt):Prop:=∃ T∈L,isCnr T p
structure Kept (K:Pt->Pt->Prop) (L L':List Tri3):Prop where
 len:L'.length=L.length
 cnr:∀ p,someC L' p↔someC L p
 wall:∀ a b,K a b->(a,b)∈L.flatMap ways->(a,b)∈L'.flatMap ways
theorem Kept.refl (K:Pt->Pt->Prop) (L:List Tri3):Kept K L L:=⟨rfl,λ_=>Iff.rfl,λ_ _ _ h=>h⟩
theorem Kept.trans {K:Pt->Pt->Prop} {A B C:List Tri3} (h:Kept K A B) (k:Kept K B C):Kept K A C:=
 ⟨k.len.trans h.len,λp=>(k.cnr p).trans (h.cnr p),λa b w m=>k.wall a b w (h.wall a b w m)⟩
theorem Kept.perm {K:Pt->Pt->Prop} {L M:List Tri3} (p:L.Perm M):Kept K L M:=
 ⟨p.length_eq.symm,λq=>by unfold someC;simp only [p.mem_iff],λ_ _ _ h=>(zi p).mem_iff.1 h⟩
structure Flp (K:Pt->Pt->Prop) (L:List Tri3) (S R:Tri3) (M:List Tri3) (a b c d:Pt):Prop where
 make ::
 perm:L.Perm (S :: R :: M)
 one:Cyc S a b c
 two:Cyc R b a d
 free:¬ K a b/\¬ K b a
 left:0 < det c a d
 right:0 < det d b c
section
variable {W H:Int} {K:Pt->Pt->Prop} {L:List Tri3} {S R:Tri3} {M:List Tri3} {a b c d:Pt}
theorem Flp.pts (f:Flp K L S R M a b c d) (h:Tiles W H L):inBox W H a/\inBox W H b/\inBox W H c/\inBox W H d:=by
 have mS:S∈L:=f.perm.mem_iff.2 (by simp);have mR:R∈L:=f.perm.mem_iff.2 (by simp);exact ⟨h.cyc_box mS f.one,h.cyc_box mS f.one.turn,h.cyc_box mS f.one.turn.turn,h.cyc_box mR f.two.turn.turn⟩
theorem Flp.news (f:Flp K L S R M a b c d) (h:Tiles W H L) (hW:W < 16777216) (hH:H < 16777216):(Cyc (mk c a d) c a d/\valT (mk c a d)=true)/\(Cyc (mk d b c) d b c/\valT (mk d b c)=true):=by
 have vb:∀ q,inBox W H q->vld q=true:=λq hq=>by rw [zZ];unfold inBox at hq;omega
 obtain ⟨ba,bb,bc,bd⟩:=f.pts h;exact ⟨zj (vb _ bc) (vb _ ba) (vb _ bd) f.left,zj (vb _ bd) (vb _ bb) (vb _ bc) f.right⟩
theorem Flp.tiles (f:Flp K L S R M a b c d) (h:Tiles W H L) (hW:W < 16777216) (hH:H < 16777216):Tiles W H (mk c a d :: mk d b c :: M):=by
 obtain ⟨u,v⟩:=f.news h hW hH;exact h.flip f.perm f.one f.two f.left f.right u.1 v.1
theorem Flp.kept (f:Flp K L S R M a b c d) (h:Tiles W H L) (hW:W < 16777216) (hH:H < 16777216):Kept K L (mk c a d :: mk d b c :: M):=by
 obtain ⟨⟨u,_⟩,v,_⟩:=f.news h hW hH;refine (Kept.perm f.perm).trans ⟨rfl,λp=>?_,λx y hk hm=>?_⟩
 ·unfold someC;simp only [Yg];constructor
  ·rintro ⟨T,rfl | rfl | hT,hp⟩
   ·rcases (u.cnr_iff p).1 hp with rfl | rfl | rfl
    ·exact ⟨S,.inl rfl,f.one.turn.turn.cnr⟩
    ·exact ⟨S,.inl rfl,f.one.cnr⟩
    ·exact ⟨R,.inr (.inl rfl),f.two.turn.turn.cnr⟩
   ·rcases (v.cnr_iff p).1 hp with rfl | rfl | rfl
    ·exact ⟨R,.inr (.inl rfl),f.two.turn.turn.cnr⟩
    ·exact ⟨S,.inl rfl,f.one.turn.cnr⟩
    ·exact ⟨S,.inl rfl,f.one.turn.turn.cnr⟩
   ·exact ⟨T,.inr (.inr hT),hp⟩
  ·rintro ⟨T,rfl | rfl | hT,hp⟩
   ·rcases (f.one.cnr_iff p).1 hp with rfl | rfl | rfl
    ·exact ⟨_,.inl rfl,u.turn.cnr⟩
    ·exact ⟨_,.inr (.inl rfl),v.turn.cnr⟩
    ·exact ⟨_,.inl rfl,u.cnr⟩
   ·rcases (f.two.cnr_iff p).1 hp with rfl | rfl | rfl
    ·exact ⟨_,.inr (.inl rfl),v.turn.cnr⟩
    ·exact ⟨_,.inl rfl,u.turn.cnr⟩
    ·exact ⟨_,.inr (.inl rfl),v.cnr⟩
   ·exact ⟨T,.inr (.inr hT),hp⟩
 ·rw [Yj,Yj] at hm ⊢;simp only [Ys] at hm ⊢;rw [f.one.ways.mem_iff,f.two.ways.mem_iff] at hm;rw [u.ways.mem_iff,v.ways.mem_iff];simp only [Yg,XS,Ym,XG] at hm ⊢;obtain ⟨f1,f2⟩:=f.free;rcases hm with (⟨rfl,rfl⟩ | h | h) | (⟨rfl,rfl⟩ | h | h) | h
  ·exact absurd hk f1
  ·exact .inr (.inl (.inr (.inl h)))
  ·exact .inl (.inl h)
  ·exact absurd hk f2
  ·exact .inl (.inr (.inl h))
  ·exact .inr (.inl (.inl h))
  ·exact .inr (.inr h)
theorem Flp.less {h:Pt->Int} (f:Flp K L S R M a b c d) (t:Tiles W H L) (hW:W < 16777216) (hH:H < 16777216) (hp:0 < PH h a b c d):volS h (mk c a d :: mk d b c :: M) < volS h L:=by
 obtain ⟨u,v⟩:=f.news t hW hH;rw [uN f.perm,vol_flip h M f.one f.two u.1 v.1];omega
end
theorem Tiles.vols {W H:Int} {L:List Tri3} (h:Tiles W H L) (hW:W < 16777216) (hH:H < 16777216) {ht:Pt->Int} (hh:Hts ht):0<=volS ht L:=by
 have vb:∀ q,inBox W H q->vld q=true:=λq hq=>by rw [zZ];unfold inBox at hq;omega
 refine Zv hh λT hT=>⟨h.pos T hT,vb _ (h.box T hT).1,vb _ (h.box T hT).2.1,vb _ (h.box T hT).2.2⟩
theorem Tiles.flip_bad {W H:Int} {K:Pt->Pt->Prop} {L:List Tri3} (h:Tiles W H L) (hW:W < 16777216) (hH:H < 16777216) {ht:Pt->Int} (hh:Hts ht) {S R:Tri3} (hS:S∈L) (hR:R∈L) {a b c d:Pt} (cS:Cyc S a b c) (cR:Cyc R b a d) (hk:¬ K a b/\¬ K b a) (hb:circ a b c d=1):0 < PH ht a b c d/\∃ M,Flp K L S R M a b c d:=by
 have vb:∀ q,inBox W H q->vld q=true:=λq hq=>by rw [zZ];unfold inBox at hq;omega
 have p1:=h.cyc_pos hS cS;have p2:=h.cyc_pos hR cR;obtain ⟨q1,q2,q3⟩:=zL p2;have dc:d≠c:=by
  rintro rfl;rw [zh] at p2;omega
 have sg:=hh.sign a b c d (vb _ (h.cyc_box hS cS)) (vb _ (h.cyc_box hS cS.turn)) (vb _ (h.cyc_box hS cS.turn.turn)) (vb _ (h.cyc_box hR cR.turn.turn)) p1 (Ne.symm q2) q3 dc;have hne:S≠R:=by
  rintro rfl;obtain ⟨n1,n2,n3⟩:=zL p1;rcases (cR.cnr_iff c).1 cS.turn.turn.cnr with e | e | e
  ·exact n2 e.symm
  ·exact n3 e
  ·exact dc e.symm
 rcases sg with ⟨_,s2,s3⟩ | ⟨s1,_⟩
 ·obtain ⟨x,y⟩:=convex p1 p2 s3;obtain ⟨M,hM⟩:=qF hS hR hne;exact ⟨s2,M,hM,cS,cR,hk,x,y⟩
 ·omega
def atRim (W H:Int) (p:Pt):Prop:=p.x=0\/p.y=0\/p.x=W\/p.y=H
theorem YL {W H:Int} {a b c p:Pt} (h1:0 < det a b c) (ba:inBox W H a) (bb:inBox W H b) (he:edg a b c p):atRim W H p↔onRim W H a b:=by
 obtain ⟨z,q1,q2⟩:=he;have s:=xi a b c p;have ex:det a b c * p.x=det b c p * a.x+det c a p * b.x+det a b p * c.x:=by unfold det;grind
 have ey:det a b c * p.y=det b c p * a.y+det c a p * b.y+det a b p * c.y:=by unfold det;grind
 rw [z,XU] at ex ey;rw [z] at s;have key:∀ u v t:Int,0<=u->0<=v->det a b c * t=det b c p * u+det c a p * v->(t=0↔u=0/\v=0):=by
  intro u v t hu hv e;have m1:=Yk (XI q1) hu;have m2:=Yk (XI q2) hv;constructor
  ·intro h;rw [h,XN] at e;have z1:det b c p * u=0:=by omega
   have z2:det c a p * v=0:=by omega
   rcases Yl.1 z1 with k | k <;> rcases Yl.1 z2 with k' | k' <;> omega
  ·rintro ⟨rfl,rfl⟩;rw [XN,XN] at e;rcases Yl.1 (show det a b c * t=0 by omega) with k | k <;> omega
 unfold inBox at ba bb;have k1:=key a.x b.x p.x ba.1.1 bb.1.1 (by omega);have k2:=key a.y b.y p.y ba.2.1 bb.2.1 (by omega);have s':det b c p+det c a p=det a b c:=by omega
 have w1:det a b c * W=det b c p * W+det c a p * W:=by rw [<-s',Je]
 have w2:det a b c * H=det b c p * H+det c a p * H:=by rw [<-s',Je]
 have k3:=key (W - a.x) (W - b.x) (W - p.x) (by omega) (by omega) (by rw [Kb,Kb,Kb];omega);have k4:=key (H - a.y) (H - b.y) (H - p.y) (by omega) (by omega) (by rw [Kb,Kb,Kb];omega);unfold atRim onRim;omega
theorem ins_norim {W H:Int} {T:Tri3} {p:Pt} (hp:0 < det T.A T.B T.C) (hb:inBox W H T.A/\inBox W H T.B/\inBox W H T.C) (hi:insT T p):¬ atRim W H p:=by
 obtain ⟨q1,q2,q3⟩:=hi;have s:=xi T.A T.B T.C p;have ex:det T.A T.B T.C * p.x=det T.B T.C p * T.A.x+det T.C T.A p * T.B.x+det T.A T.B p * T.C.x:=by unfold det;grind
 have ey:det T.A T.B T.C * p.y=det T.B T.C p * T.A.y+det T.C T.A p * T.B.y+det T.A T.B p * T.C.y:=by unfold det;grind
 have flat:∀ al be ga:Int,al * T.A.x+be * T.A.y+ga=0->al * T.B.x+be * T.B.y+ga=0->al * T.C.x+be * T.C.y+ga=0->(al≠0\/be≠0)->False:=by
  intro al be ga e1 e2 e3 hn;have i1:al * det T.A T.B T.C=((al * T.B.x+be * T.B.y+ga) - (al * T.A.x+be * T.A.y+ga)) * (T.C.y - T.A.y) - ((al * T.C.x+be * T.C.y+ga) - (al * T.A.x+be * T.A.y+ga)) * (T.B.y - T.A.y):=by unfold det;grind
  have i2:be * det T.A T.B T.C=((al * T.C.x+be * T.C.y+ga) - (al * T.A.x+be * T.A.y+ga)) * (T.B.x - T.A.x) - ((al * T.B.x+be * T.B.y+ga) - (al * T.A.x+be * T.A.y+ga)) * (T.C.x - T.A.x):=by unfold det;grind
  rw [e1,e2,e3] at i1 i2;simp only [Kf,XU] at i1 i2;rcases Yl.1 i1 with k | k <;> rcases Yl.1 i2 with k' | k' <;> omega
 have key:∀ al be ga:Int,(al≠0\/be≠0)->0<=al * T.A.x+be * T.A.y+ga->0<=al * T.B.x+be * T.B.y+ga->0<=al * T.C.x+be * T.C.y+ga->al * p.x+be * p.y+ga≠0:=by
  intro al be ga hn h1 h2 h3 e;have i:det T.A T.B T.C * (al * p.x+be * p.y+ga)=det T.B T.C p * (al * T.A.x+be * T.A.y+ga)+det T.C T.A p * (al * T.B.x+be * T.B.y+ga)+det T.A T.B p * (al * T.C.x+be * T.C.y+ga):=by unfold det;grind
  rw [e,XN] at i;have m1:=Yk (XI q2) h1;have m2:=Yk (XI q3) h2;have m3:=Yk (XI q1) h3;have z1:=(Yl.1 (show det T.B T.C p * (al * T.A.x+be * T.A.y+ga)=0 by omega)).resolve_left (by omega);have z2:=(Yl.1 (show det T.C T.A p * (al * T.B.x+be * T.B.y+ga)=0 by omega)).resolve_left (by omega);have z3:=(Yl.1 (show det T.A T.B p * (al * T.C.x+be * T.C.y+ga)=0 by omega)).resolve_left (by omega);exact flat al be ga z1 z2 z3 hn
 unfold inBox at hb;have k1:=key 1 0 0 (by omega) (by omega) (by omega) (by omega);have k2:=key 0 1 0 (by omega) (by omega) (by omega) (by omega);have k3:=key (-1) 0 W (by omega) (by omega) (by omega) (by omega);have k4:=key 0 (-1) H (by omega) (by omega) (by omega) (by omega);unfold atRim;omega
theorem has_box {W H:Int} {T:Tri3} {p:Pt} (hp:0 < det T.A T.B T.C) (hb:inBox W H T.A/\inBox W H T.B/\inBox W H T.C) (hi:hasT T p):inBox W H p:=by
 obtain ⟨q1,q2,q3⟩:=hi;have key:∀ al be ga:Int,0<=al * T.A.x+be * T.A.y+ga->0<=al * T.B.x+be * T.B.y+ga->0<=al * T.C.x+be * T.C.y+ga->0<=al * p.x+be * p.y+ga:=by
  intro al be ga h1 h2 h3;have i:det T.A T.B T.C * (al * p.x+be * p.y+ga)=det T.B T.C p * (al * T.A.x+be * T.A.y+ga)+det T.C T.A p * (al * T.B.x+be * T.B.y+ga)+det T.A T.B p * (al * T.C.x+be * T.C.y+ga):=by unfold det;grind
  have m1:=Yk q2 h1;have m2:=Yk q3 h2;have m3:=Yk q1 h3;exact (zu hp).1 (by omega)
 unfold inBox at *;have k1:=key 1 0 0 (by omega) (by omega) (by omega);have k2:=key 0 1 0 (by omega) (by omega) (by omega);have k3:=key (-1) 0 W (by omega) (by omega) (by omega);have k4:=key 0 (-1) H (by omega) (by omega) (by omega);omega
theorem qH (T:Tri3) (L:List Tri3) (q:Pt):someC (T :: L) q↔isCnr T q\/someC L q:=by
 unfold someC;simp
theorem qG {L M:List Tri3} (p:L.Perm M) (q:Pt):someC L q↔someC M q:=by
 unfold someC;simp only [p.mem_iff]
theorem kE (L M:List Tri3) (q:Pt):someC (L ++ M) q↔someC L q\/someC M q:=by
 unfold someC;simp only [Ys];constructor
 ·rintro ⟨T,h | h,k⟩
  ·exact .inl ⟨T,h,k⟩
  ·exact .inr ⟨T,h,k⟩
 ·rintro (⟨T,h,k⟩ | ⟨T,h,k⟩)
  ·exact ⟨T,.inl h,k⟩
  ·exact ⟨T,.inr h,k⟩
theorem qx (q:Pt):¬ someC [] q:=by unfold someC;simp
theorem cut_counts {W H:Int} {L:List Tri3} (h:Tiles W H L) (hW':W < 16777216) (hH':H < 16777216) {p:Pt} (hp:inBox W H p) {F:List Tri3} (hF:Spots W H L p F):(∀ q,someC (F.flatMap (cutP p)) q↔someC F q\/q=p)/\((F.flatMap (cutP p)).length=F.length+2/\¬ atRim W H p\/(F.flatMap (cutP p)).length=F.length+1/\atRim W H p):=by
 have vb:∀ q,inBox W H q->vld q=true:=λq hq=>by rw [zZ];unfold inBox at hq;omega
 have vp:=vb p hp;cases hF with
 | within T hT hi=>
  have hc:=Cyc.refl T;have va:=vb _ (h.cyc_box hT hc);have vb':=vb _ (h.cyc_box hT hc.turn);have vc:=vb _ (h.cyc_box hT hc.turn.turn);obtain ⟨i1,i2,i3⟩:=hi;have e:[T].flatMap (cutP p)=[mk T.A T.B p,mk T.B T.C p,mk T.C T.A p]:=by
   simp only [Yj,Xc,XM];unfold cutP;rw [zf va vb' vp i1,zf vb' vc vp i2,zf vc va vp i3];rfl
  rw [e];have m1:=(zj va vb' vp i1).1;have m2:=(zj vb' vc vp i2).1;have m3:=(zj vc va vp i3).1;refine ⟨λq=>?_,.inl ⟨rfl,ins_norim (h.pos T hT) (h.box T hT) ⟨i1,i2,i3⟩⟩⟩;simp only [qH,m1.cnr_iff,m2.cnr_iff,m3.cnr_iff,hc.cnr_iff,Js (qx q),XG];constructor
  ·rintro ((k | k | k) | (k | k | k) | (k | k | k)) <;> simp [k]
  ·rintro ((k | k | k) | k) <;> simp [k]
 | rim T a b c hT hc hi hr=>
  have va:=vb _ (h.cyc_box hT hc);have vb':=vb _ (h.cyc_box hT hc.turn);have vc:=vb _ (h.cyc_box hT hc.turn.turn);have hrim:=(YL (h.cyc_pos hT hc) (h.cyc_box hT hc) (h.cyc_box hT hc.turn) hi).2 hr;obtain ⟨i1,i2,i3⟩:=hi;have e:([T].flatMap (cutP p)).Perm [mk b c p,mk c a p]:=by
   simp only [Yj,Xc,XM];have:=xH hc p;rw [xB va vb' vp i1,zf vb' vc vp i2,zf vc va vp i3] at this;exact this
  have m2:=(zj vb' vc vp i2).1;have m3:=(zj vc va vp i3).1;refine ⟨λq=>?_,.inr ⟨by rw [e.length_eq];rfl,hrim⟩⟩;rw [qG e];simp only [qH,m2.cnr_iff,m3.cnr_iff,hc.cnr_iff,Js (qx q),XG];constructor
  ·rintro ((k | k | k) | (k | k | k)) <;> simp [k]
  ·rintro ((k | k | k) | k) <;> simp [k]
 | edge T S a b c d hT hS hc hd hi hr=>
  have va:=vb _ (h.cyc_box hT hc);have vb':=vb _ (h.cyc_box hT hc.turn);have vc:=vb _ (h.cyc_box hT hc.turn.turn);have vd:=vb _ (h.cyc_box hS hd.turn.turn);have ho:=xo (h.cyc_pos hT hc) (h.cyc_pos hS hd) hi;have hrim:¬ atRim W H p:=λk=>hr ((YL (h.cyc_pos hT hc) (h.cyc_box hT hc) (h.cyc_box hT hc.turn) hi).1 k);obtain ⟨i1,i2,i3⟩:=hi;obtain ⟨o1,o2,o3⟩:=ho;have e:([T,S].flatMap (cutP p)).Perm [mk b c p,mk c a p,mk a d p,mk d b p]:=by
   simp only [Yj,Xc,XM];have e1:=xH hc p;rw [xB va vb' vp i1,zf vb' vc vp i2,zf vc va vp i3] at e1;have e2:=xH hd p;rw [xB vb' va vp o1,zf va vd vp o2,zf vd vb' vp o3] at e2;exact e1.append e2
  have m1:=(zj vb' vc vp i2).1;have m2:=(zj vc va vp i3).1;have m3:=(zj va vd vp o2).1;have m4:=(zj vd vb' vp o3).1;refine ⟨λq=>?_,.inl ⟨by rw [e.length_eq];rfl,hrim⟩⟩;rw [qG e];simp only [qH,m1.cnr_iff,m2.cnr_iff,m3.cnr_iff,m4.cnr_iff,hc.cnr_iff,hd.cnr_iff,Js (qx q),XG];constructor
  ·rintro ((k | k | k) | (k | k | k) | (k | k | k) | (k | k | k)) <;> simp [k]
  ·rintro (((k | k | k) | (k | k | k)) | k) <;> simp [k]
theorem Good.takesF:∀ {F:List Tri3} {E:Es} {M:List Tri3},Good E (F ++ M)->Good (F.foldl takeT E) M
 | [],_,_,h=>h
 | T :: F,E,M,h=>by
  obtain ⟨_,h2⟩:=Good.take (E:=E) (T:=T) (M:=F ++ M) h;exact Good.takesF (F:=F) h2
theorem yV {p:Pt} (h:vld p=true):okP p:=by
 rw [zZ] at h;have mn:IntKind.i64.min = -9223372036854775808:=by decide
 have mx:IntKind.i64.max=9223372036854775807:=by decide
 have key:∀ n:Int,0<=n->n < 16777216->okI n:=λn h1 h2=>by
  show (decide (IntKind.i64.min<=n) && decide (n<=IntKind.i64.max))=true;rw [mn,mx];simp;omega
 exact ⟨key _ h.1.1 h.1.2,key _ h.2.1 h.2.2⟩
theorem yJ {T:Tri3} (h:valT T=true):okT T:=by
 obtain ⟨va,vb,vc,_⟩:=xA h;exact ⟨yV va,yV vb,yV vc⟩
theorem isE_sym (p q:Pt) (x:Wl):isE p q x=isE q p x:=by unfold isE;exact Bool.or_comm _ _
theorem xn (L:List Wl) (p q:Pt):kindD L p q=kindD L q p:=by
 unfold kindD;rw [show isE p q=isE q p from funext (isE_sym p q)]
def wll (D:List Wl) (a b:Pt):Prop:=kindD D a b≠0
theorem xw {T:Tri3} {a b c:Pt} (h:Cyc T a b c) (h1:a≠b) (h2:b≠c) (h3:c≠a):apx T a b=c/\apx T b a=c:=by
 have t:∀ p:Pt,peqI p.x p.y p.x p.y=true:=λp=>pp rfl;unfold apx;rcases h with ⟨rfl,rfl,rfl⟩ | ⟨rfl,rfl,rfl⟩ | ⟨rfl,rfl,rfl⟩
 ·simp [t]
 ·rw [Yn ⟨y9.2 h3,y9.2 (Ne.symm h2)⟩,Yn ⟨y9.2 (Ne.symm h2),y9.2 h3⟩];exact ⟨rfl,rfl⟩
 ·simp [t,y9.2 h3,y9.2 (Ne.symm h2)]
theorem tN {T:Tri3} {a b c:Pt} (h:Cyc T a b c) (d:Pt):circ T.A T.B T.C d=circ a b c d:=by
 rcases h with ⟨rfl,rfl,rfl⟩ | ⟨rfl,rfl,rfl⟩ | ⟨rfl,rfl,rfl⟩
 ·rfl
 ·exact (jk T.A T.B T.C d).symm
 ·exact jk T.C T.A T.B d
theorem ye {E:Es} {T:Tri3} (h:fitsE E T=true):freeE E T=true:=by
 rw [jd] at h;simp only [Yf] at h;exact h.1
structure Flips (E:Es) (p q:Pt) (S R U V:Tri3) (C D:Pt):Prop where
 h0:getE E (p,q)=some S
 h1:getE E (q,p)=some R
 hC:apx S p q=C
 hD:apx R p q=D
 o1:decide (ori p D C<=0)=false
 o2:decide (ori D q C<=0)=false
 hU:mk p D C=U
 hV:mk D q C=V
 he:getE E (D,C)=none
 hf:getE E (C,D)=none
 hc:okW (C,D)
 hS:okT S
 hR:okT R
 hu:okT U
 hv:okT V
 f1:freeE (takeT (takeT E S) R) U=true
 f2:freeE (putT (takeT (takeT E S) R) U) V=true
def flipE (E:Es) (S R U V:Tri3):Es:=putT (putT (takeT (takeT E S) R) U) V
section
variable {W H:Int} {E:Es} {L:List Tri3} {D:List Wl} (hW:W < 16777216) (hH:H < 16777216) {h:Pt->Int}
include hW hH
theorem Flp.go {K:Pt->Pt->Prop} {S R:Tri3} {M:List Tri3} {p q c d:Pt} (g:Good E L) (t:Tiles W H L) (f:Flp K L S R M p q c d):Flips E p q S R (mk p d c) (mk d q c) c d/\Good (flipE E S R (mk p d c) (mk d q c)) (mk c p d :: mk d q c :: M):=by
 have vb:∀ q,inBox W H q->vld q=true:=λq hq=>by rw [zZ];unfold inBox at hq;omega
 obtain ⟨bp,bq,bc,bd⟩:=f.pts t;have mS:S∈L:=f.perm.mem_iff.2 (by simp);have mR:R∈L:=f.perm.mem_iff.2 (by simp);obtain ⟨n1,n2,n3⟩:=zL (t.cyc_pos mS f.one);obtain ⟨m1,m2,m3⟩:=zL (t.cyc_pos mR f.two);obtain ⟨u,v⟩:=f.news t hW hH;have t':=f.tiles t hW hH;have eU:mk p d c=mk c p d:=Z3 c p d;have k1:=Good.takes (F:=[S,R]) (M:=M) (g.order f.perm);have k2:Good (takeT (takeT E S) R) M:=by
  have a1:=(Good.take (E:=E) (T:=S) (M:=R :: M) (g.order f.perm)).2;exact (Good.take (E:=takeT E S) (T:=R) (M:=M) a1).2
 have n0:=t'.once;have nn:∀ w∈ways (mk c p d),w ∉ M.flatMap ways:=λw hw hm=>by
  rw [Yj,XE] at n0;exact n0.2.2 w hw w (by rw [Yj];exact XJ _ hm) rfl
 obtain ⟨p1,p2⟩:=Good.put (E:=takeT (takeT E S) R) (T:=mk c p d) (M:=M) k2 u.2 nn;have nn2:∀ w∈ways (mk d q c),w ∉ (mk c p d :: M).flatMap ways:=λw hw hm=>by
  rw [Yj,XE] at n0;rw [Yj,Ys] at hm;rcases hm with hm | hm
  ·exact n0.2.2 w hm w (by rw [Yj];exact XP _ hw) rfl
  ·have:=n0.2.1;rw [Yj,XE] at this;exact this.2.2 w hw w hm rfl
 obtain ⟨q1,q2⟩:=Good.put (E:=putT (takeT (takeT E S) R) (mk c p d)) (T:=mk d q c) (M:=mk c p d :: M) p2 v.2 nn2;rw [eU];refine ⟨⟨g.get.2 ⟨mS,f.one.way⟩,g.get.2 ⟨mR,f.two.way⟩,(xw f.one n1 n2 n3).1,(xw f.two m1 m2 m3).2,?_,?_,eU,rfl,g.get_none.2 (t.no_diag mS f.one f.left f.right),g.get_none.2 (t.no_diag mR f.two f.right f.left),⟨yV (vb _ bc),yV (vb _ bd)⟩,yJ (g.val _ mS),yJ (g.val _ mR),yJ u.2,yJ v.2,ye p1,ye q1⟩,q2.order (List.Perm.swap _ _ _)⟩
 ·rw [ori_v (vb _ bp) (vb _ bd) (vb _ bc)];have:=zJ (det p d c);have e:det p d c=det c p d:=zX c p d;have:=f.left;simp;omega
 ·rw [ori_v (vb _ bd) (vb _ bq) (vb _ bc)];have:=zJ (det d q c);have:=f.right;simp;omega
theorem bad_go (hh:Hts h) (g:Good E L) (t:Tiles W H L) {p q:Pt} (hb:badD E D p q=true):∃ S R U V C D',Flips E p q S R U V C D'/\∃ L',Good (flipE E S R U V) L'/\Tiles W H L'/\Kept (wll D) L L'/\volS h L' < volS h L:=by
 unfold badD at hb;cases h1:getE E (p,q) with
 | none=>rw [yk h1] at hb;simp at hb
 | some S=>
  cases h2:getE E (q,p) with
  | none=>rw [yk h2] at hb;simp at hb
  | some R=>
   rw [zw h1,zw h2] at hb;simp only [Xy,Yf,Yh] at hb;obtain ⟨k0,kc⟩:=hb;obtain ⟨mS,wS⟩:=g.get.1 h1;obtain ⟨mR,wR⟩:=g.get.1 h2;obtain ⟨c,cS⟩:=xJ wS;obtain ⟨d,cR⟩:=xJ wR;obtain ⟨m1,m2,m3⟩:=zL (t.cyc_pos mR cR);rw [(xw cR m1 m2 m3).2,tN cS] at kc;obtain ⟨hp,M,f⟩:=t.flip_bad (K:=wll D) hW hH hh mS mR cS cR ⟨λk=>k k0,λk=>k (by rw [xn];exact k0)⟩ kc;have go:=f.go hW hH g t;exact ⟨S,R,_,_,c,d,go.1,_,go.2,f.tiles t hW hH,f.kept t hW hH,f.less t hW hH hp⟩
theorem none_bad (g:Good E L) (t:Tiles W H L) (hb:badsD E D E=[]):Fixed W H (wll D) L:=by
 have vb:∀ q,inBox W H q->vld q=true:=λq hq=>by rw [zZ];unfold inBox at hq;omega
 have main:∀ S∈L,∀ R∈L,∀ a b c d,Cyc S a b c->Cyc R b a d->¬ wll D a b->cmpP a b < 0->circ a b c d≠1:=by
  intro S hS R hR a b c d cS cR hk hc he;have e1:=g.get.2 ⟨hS,cS.way⟩;have e2:=g.get.2 ⟨hR,cR.way⟩;obtain ⟨m1,m2,m3⟩:=zL (t.cyc_pos hR cR);have k0:kindD D a b=0:=Yt λk=>hk k;have hbad:badD E D a b=true:=by
   unfold badD;rw [zw e1,zw e2];simp only [Xy,Yf,Yh];exact ⟨k0,by rw [(xw cR m1 m2 m3).2,tN cS];exact he⟩
  have hm:((a,b),S)∈E:=uF e1;have:(⟨a,b,1⟩:Wl)∈badsD E D E:=by
   unfold badsD;rw [JY];exact ⟨_,hm,by simp [hbad,hc]⟩
  rw [hb] at this;cases this
 refine ⟨t,λS hS R hR a b c d cS cR hk he=>?_⟩;have va:=vb _ (t.cyc_box hS cS);have vb':=vb _ (t.cyc_box hR cR);have p1:=t.cyc_pos hS cS;have p2:=t.cyc_pos hR cR;have nab:=qw p1;have hs:=zJ (key a - key b);have hck:=yf va vb';by_cases hlt:cmpP a b < 0
 ·exact main S hS R hR a b c d cS cR hk hlt he
 ·have hne:key a≠key b:=λe=>nab (yK va vb' e);have hgt:cmpP b a < 0:=by
   rw [yf vb' va];have:=zJ (key b - key a);omega
  refine main R hR S hS b a d c cR cS (λk=>hk (by unfold wll at *;rw [xn];exact k)) hgt ?_;have vd:=vb _ (t.cyc_box hR cR.turn.turn);have vc:=vb _ (t.cyc_box hS cS.turn.turn);have o1:¬ ori a b c=0:=by rw [ori_v va vb' vc,y7];omega
  have o2:¬ ori a b d=0:=by
   rw [ori_v va vb' vd,y7];rw [zh] at p2;omega
  have dc:d≠c:=by
   rintro rfl;rw [zh] at p2;omega
  rw [jj,tM o1 o2 dc,he];rfl
end
theorem cW_ne (x:Wl):cW x≠[]:=by simp [cW]
theorem DocRd.turn {w w':World} {db c n b:Nat} {a0:Option Addr} {L:List Wl} {E:Es} (S:DocRd w db a0 c n L) (H:Hs w b E) (hg:w.grownBy w' (some b)):DocRd w' db a0 c n L:=
 ⟨S.box.turn H hg,S.row.turn cW_ne H hg,S.len,S.le,S.nc,S.flat⟩
theorem ZG {E:Es} {L:List Tri3} (g:Good E L):∀ e∈E,okW e.1:=λe he=>by
 obtain ⟨w,T⟩:=e;obtain ⟨hT,hw⟩:=uM.1 (g.perm.mem_iff.1 he);have ok:=okT_w (yJ (g.val T hT));simp only [ways,Yg,Ym,XG] at hw;rcases hw with rfl | rfl | rfl
 ·exact ok.1
 ·exact ok.2.1
 ·exact ok.2.2
structure RSt (W H:Int) (D:List Wl) (L:List Tri3) (E1:Es) (L1:List Tri3):Prop where
 good:Good E1 L1
 tiles:Tiles W H L1
 kept:Kept (wll D) L L1
def RepPost (W H:Int) (b:Nat) (D:List Wl) (L:List Tri3) (w:World) (e:Ending) (w':World):Prop:=
 e=.returned (.tuple #[])/\∃ E1 L1,w.grownBy w' (some b)/\Hs w' b E1/\RSt W H D L E1 L1/\Fixed W H (wll D) L1
theorem rrepair_any (mb b db:Nat) (a0:Option Addr) (c n:Nat) (E:Es) (L:List Tri3) (D:List Wl) (W H:Int) (hW:W < 16777216) (hH:H < 16777216) (hL:L.length<=30000) (g:Good E L) (ti:Tiles W H L) (w:World) (Bm:Box w mb [.map (some b)] 93) (Hm:Hs w b E) (Dw:DocRd w db a0 c n D):Calls prog 46 #[pt0 mb,pt0 db] w (RepPost W H b D L w):=by
 obtain ⟨h,hh⟩:=hts_ex;have S0:=hdd (show RSt W H D L E L from ⟨g,ti,Kept.refl _ _⟩);have HLL:=hdd hL;clear g ti hL
 go_enter func46,ntmps46
 go_wp2
 go_loopg [4] ((volS h L).toNat+1) (λk v wr=>∃ (E1:Es) (L1:List Tri3) (ag:Bool),v=.bool ag/\Hs wr b E1/\Hi (RSt W H D L E1 L1)/\Hi (ag=false->Fixed W H (wll D) L1)/\Hi (ag=true->(volS h L1).toNat < k)/\w.grownBy wr (some b))
 case atStart=>exact ⟨E,L,true,rfl,Hm,S0,hdd (λe=>by cases e),hdd (λ_=>Nat.lt_succ_self _),qS _ _⟩
 case round=>
  obtain ⟨E1,L1,ag,rfl,H1,hS,hF,hV,hg⟩:=hrel;cases ag with
  | false=>
   have HFX:=hdd (hF.o rfl);clear hF hV;go_wp2;exact bodyPost_end (results_none rfl _ _ _) rfl ⟨rfl,E1,L1,hg,H1,hS.o,HFX.o⟩
  | true=>
   have HV:=hdd (hV.o rfl);clear hV;have B1:=Bm.turn Hm hg;have D1:=Dw.turn Hm hg;have hlen:L1.length<=30000:=by rw [hS.o.kept.len];exact HLL.o
   have hE1:E1.length<=100000:=by rw [hS.o.good.len];omega
   have cB:=rBad_any mb b db a0 c n E1 D hE1 (ZG hS.o.good) wr B1 H1 D1;have hE2:=hdd hE1;clear hlen hE1 hF;go_wp2_with fail;refine cB.mono ?_;rintro e w2 ⟨a,cap,l,rfl,hl,hr,hb⟩;have hll:=hdd (show l.length<=100000 by rw [hl.length_eq];exact XD (tO E1 D E1) hE2.o);have HLB:=hdd hl;have g2:=zQ hg hb;have H2:=H1.ee hb;clear cB hb hl B1 D1 H1 hE2;obtain ⟨m,hm⟩:∃ m,l.length=m:=⟨_,rfl⟩;have HM:=hdd hm;rw [hm] at hll;rw [hm];clear hm;go_wp2
   go_loopw [4,6] (λv4 v6 wi=>∃ (i:Nat) (E2:Es) (L2:List Tri3) (ag:Bool),v4=.bool ag/\v6=.int .i64 i/\i<=m/\Hs wi b E2/\Hi (RSt W H D L E2 L2)/\Hi ((i=0/\ag=false/\E2=E1/\L2=L1)\/(0 < i/\ag=true/\volS h L2 < volS h L1))/\RowAt cW 5 wi a l/\w.grownBy wi (some b)) (λ_ v6 _=>m - (intOf v6).toNat)
   case atStart=>exact ⟨0,E1,L1,false,rfl,rfl,XZ _,H2,hS,hdd (.inl ⟨rfl,rfl,rfl,rfl⟩),hr,g2⟩
   case round=>
    clear g2 H2 hr;obtain ⟨i,E2,L2,ag,rfl,rfl,hi,H2,hS2,hC,hr,g2⟩:=hrel;have hm1:=hll.o;by_cases hlt:i < m
    ·have hil:i < l.length:=by rw [HM.o];exact hlt
     have B2:=Bm.turn Hm g2;have D2:=Dw.turn Hm g2;obtain ⟨ad,A,ea,eA,hA⟩:=hr.five (j:=i) hil;have hmem:l[i]∈badsD E1 D E1:=HLB.o.mem_iff.1 (Yx hil);generalize l[i]=X at hA hmem
     obtain ⟨XA,XB,XK⟩:=X;have hk2:okW (XA,XB):=by
      unfold badsD at hmem;rw [JY] at hmem;obtain ⟨e,he,hx⟩:=hmem;split at hx
      ·simp only [KG,Wl.mk.injEq] at hx;have:=ZG hS.o.good e he;rw [<-hx.1,<-hx.2.1];exact this
      ·cases hx
     have HBAD:=hdd (show badD E1 D XA XB=true by
      unfold badsD at hmem;rw [JY] at hmem;obtain ⟨e,he,hx⟩:=hmem;split at hx
      ·rename_i hc
       simp only [KG,Wl.mk.injEq] at hx;simp only [Yf] at hc;rw [<-hx.1,<-hx.2.1];exact hc.2
      ·cases hx)
     have q0:(i:Int) < (m:Int):=by omega
     obtain ⟨s0,s1,s2,s3,s4⟩:=hA.cells;have cb:∀ d os,Calls prog 93 #[pt0 mb,pt0 db,XA,XB] (grow (redrawn wr d) os) λe w'=>e=.returned (.bool (badD E2 D XA XB))/\Below (grow (redrawn wr d) os).heap.size (grow (redrawn wr d) os) w':=λd os=>tr mb b db a0 c n E2 D XA XB hk2 _ (B2.ext (below_regrown wr d os) rfl) (H2.ext (below_regrown wr d os) rfl) (D2.ext (below_regrown wr d os) rfl);clear hmem;subst ea;cases hbd:badD E2 D XA XB with
     | false=>
      rw [hbd] at cb;have HNZ:=hdd (show 0 < i/\ag=true/\volS h L2 < volS h L1 by
       rcases hC.o with ⟨_,_,e1,_⟩ | k
       ·rw [e1,HBAD.o] at hbd;cases hbd
       ·exact k)
      clear hC HBAD hA hbd;go_wp2_with fail;refine wrt 25 (by kernel_rfl) (by kernel_rfl) ?_;simp only [tK1,tK0,dP1,dP0];refine wkx ?_;intro w4 hb;clear s0 s1 s2 s3 s4;have H4:=H2.ee hb;have r4:=hr.ee hb;have g4:=zQ g2 hb;clear hb cb;go_wp2
      go_roundw
      case rel=>exact ⟨i+1,E2,L2,true,by rw [HNZ.o.2.1],by go_num,by omega,H4,hS2,hdd (.inr ⟨by omega,rfl,HNZ.o.2.2⟩),r4,g4⟩
      case measure=>simp [intOf];omega
     | true=>
      rw [hbd] at cb;obtain ⟨S,R,U,V,C,D',fl,L3,g3,t3,k3,v3⟩:=bad_go hW hH hh hS2.o.good hS2.o.tiles hbd;have HS3:=hdd (show RSt W H D L (flipE E2 S R U V) L3 from ⟨g3,t3,hS2.o.kept.trans k3⟩);have HV3:=hdd (show volS h L3 < volS h L1 by
       rcases hC.o with ⟨_,_,_,e2⟩ | ⟨_,_,k⟩
       ·rw [<-e2];exact v3
       ·omega)
      have cf:=λw0 B1 H1=>rflip_ok mb b E2 XA XB hk2 S R U V C D' fl.h0 fl.h1 fl.hC fl.hD fl.o1 fl.o2 fl.hU fl.hV fl.he fl.hf fl.hc fl.hS fl.hR fl.hu fl.hv fl.f1 fl.f2 w0 B1 H1
      change ∀ (w0:World) B1 H1,Calls _ _ _ _ λe w'=>e=.returned (.int .i64 0)/\w0.grownBy w' (some b)/\Hs w' b (flipE E2 S R U V) at cf
      clear hC HBAD hA hbd fl g3 t3 k3 v3;generalize flipE E2 S R U V=E3 at *
      go_wp2_with fail;refine wrt 25 (by kernel_rfl) (by kernel_rfl) ?_;simp only [tK1,tK0,dP1,dP0];refine wkx ?_;intro w4 hb;clear s0 s1 s2 s3 s4;have H4:=H2.ee hb;have r4:=hr.ee hb;have g4:=zQ g2 hb;have B4:=B2.ee hb;clear hb cb;go_wp2_with fail;refine (cf _ B4 H4).mono ?_;rintro e w5 ⟨rfl,hg5,H5⟩;have r5:=r4.turn cW_ne H4 hg5;have g5:=zO g4 hg5;clear cf hg5 H4 r4 g4 B4;go_wp2
      go_roundw
      case rel=>exact ⟨i+1,E3,L3,true,rfl,by go_num,by omega,H5,HS3,hdd (.inr ⟨by omega,rfl,HV3.o⟩),r5,g5⟩
      case measure=>simp [intOf];omega
    ·have q0:decide ((i:Int) < (m:Int))=false:=by simpa using hlt
     have him:i=m:=by omega
     have HE:=hdd (show (ag=false->Fixed W H (wll D) L2) by
      intro e;rcases hC.o with ⟨e0,_,_,e2⟩ | ⟨_,e1,_⟩
      ·have l0:l=[]:=List.length_eq_zero_iff.1 (by rw [HM.o,<-him,e0]);rw [e2];exact none_bad hW hH hS.o.good hS.o.tiles (List.Perm.eq_nil (by have:=HLB.o;rw [l0] at this;exact this.symm))
      ·rw [e] at e1;cases e1)
     have HT:=hdd (show (ag=true->(volS h L2).toNat < (volS h L1).toNat) by
      intro e;rcases hC.o with ⟨_,e1,_,_⟩ | ⟨_,_,k⟩
      ·rw [e] at e1;cases e1
      ·have:=hS2.o.tiles.vols hW hH hh;omega)
     clear hC;go_wp2
     go_roundg (volS h L1).toNat
     case measure=>exact HV.o
     case rel=>exact ⟨E2,L2,ag,rfl,H2,hS2,HE,HT,g2⟩
def cutOk (T:Tri3) (p:Pt):Bool:=hasP T p && (!peqI p.x p.y T.A.x T.A.y && (!peqI p.x p.y T.B.x T.B.y && !peqI p.x p.y T.C.x T.C.y))
def cutR (T:Tri3) (p:Pt):List Tri3:=if cutOk T p=true then cutP p T else []
def cutK (p:Pt) (T:Tri3):Nat->List Tri3
 | 0=>[]
 | k+1=>cutK p T k ++ part p (crn T k) (crn T (k+1))
theorem cutK3 (p:Pt) (T:Tri3):cutK p T 3=cutP p T:=by
 show (([] ++ part p T.A T.B) ++ part p T.B T.C) ++ part p T.C T.A=_;unfold cutP;simp
theorem jL (p a b:Pt):(part p a b).length<=1:=by unfold part;split <;> simp
theorem ZS (p:Pt) (T:Tri3):∀ k,(cutK p T k).length<=k
 | 0=>by simp [cutK]
 | k+1=>by
  have:=ZS p T k;have:=jL p (crn T k) (crn T (k+1));show (cutK p T k ++ _).length<=_;rw [Yi];omega
theorem uI (p:Pt) (T:Tri3):(cutP p T).length<=3:=by
 unfold cutP;have:=jL p T.A T.B;have:=jL p T.B T.C;have:=jL p T.C T.A;simp only [Yi];omega
end
section
open Go.RowKit Go.Sort
attribute [local go_sem] rOper rAt rUpon cell_set sg_i64 sg_u64 alloc_cell alloc_frozen
attribute [local go_sem 10000] pt_eql pt_neq wal_eql wal_neq
attribute [local irreducible] rWalk
def onD (p:Pt) (x:Wl):Bool := !decide (p=x.A) && (!decide (p=x.B) && onR p x.A x.B)
attribute [local go_sem ↓ 10000] kG run_upto_wal
def RemAt (L:List Wl) (p q:Pt) (r:Int) (L':List Wl):Prop:=
 (r=16/\L'=L/\∀ x∈L,isW p q x=false)\/(r=0/\∃ (k:Nat) (h:k < L.length),isW p q L[k]=true/\L'=L.take k ++ L.drop (k+1))
end
section
open Go.RowKit Go.Sort
attribute [local go_sem] rOper rAt rUpon cell_set sg_i64 sg_u64 alloc_cell alloc_frozen
attribute [local go_sem 10000] pt_eql pt_neq tri_eql
attribute [local irreducible] rWalk
def putF (E:Es) (T:Tri3):Es:=if freeE E T=true then putT E T else E
def atE (E:Es) (p:Pt):List Tri3:=srt cmpT (heads (λT=>hasP T p) E)
def cutS (p:Pt) (T:Tri3):List Tri3:=srt cmpT (cutR T p)
def addPE (E:Es) (p:Pt):Es:=(atE E p).foldl (λE T=>(cutS p T).foldl putF E) ((atE E p).foldl takeT E)
section
variable (mb b db:Nat) (E:Es) (p:Pt) (hE:E.length<=1000000) (w:World) (Bm:Box w mb [.map (some b)] 93) (Hm:Hs w b E)
include hE Bm Hm
end
theorem kR (f:Tri3->Bool):∀ (L:List Tri3),(∀ T∈L,valT T=true)->heads f (L.flatMap wys)=L.filter f
 | [],_=>rfl
 | T :: L,h=>by
  obtain ⟨a1,a2,a3⟩:=jC (h T (by simp));rw [Yj,zo,kR f L (λS hS=>h S (by simp [hS]))];have:heads f (wys T)=if f T=true then [T] else []:=by
   unfold heads wys;cases hf:f T <;> simp [Ne.symm a1,a3,hf]
  rw [this];cases hf:f T <;> simp [hf]
theorem kS {E:Es} {L:List Tri3} (h:Good E L) (f:Tri3->Bool):(heads f E).Perm (L.filter f):=by
 have:=xY (p:=f) h.perm
 rwa [kR f L h.val] at this
def isCb (p:Pt) (T:Tri3):Bool:=decide (p=T.A) || (decide (p=T.B) || decide (p=T.C))
theorem q9 {p:Pt} {T:Tri3}:isCb p T=true↔isCnr T p:=by
 unfold isCb isCnr;simp
theorem jJ {f g:Tri3->List Tri3}:∀ {L:List Tri3},(∀ T∈L,(f T).Perm (g T))->(L.flatMap f).Perm (L.flatMap g)
 | [],_=>.refl _
 | T :: L,h=>by
  rw [Yj,Yj];exact (h T (by simp)).append (jJ λS hS=>h S (by simp [hS]))
theorem Good.putsF:∀ {I:List Tri3} {E:Es} {M:List Tri3},Good E M->(∀ T∈I,valT T=true)->((I ++ M).flatMap ways).Nodup->Good (I.foldl putF E) (I ++ M)
 | [],_,_,h,_,_=>h
 | T :: I,E,M,h,hv,hn=>by
  have hn':(ways T ++ (I ++ M).flatMap ways).Nodup:=by rw [<-Yj];exact hn
  rw [XE] at hn';obtain ⟨h1,h2⟩:=Good.put (E:=E) (T:=T) (M:=M) h (hv T (by simp)) (λw hw k=>hn'.2.2 w hw w (by rw [X0];exact XJ _ k) rfl);have:=Good.putsF (I:=I) h2 (λS hS=>hv S (by simp [hS])) ((zi (KM (a:=T) (l₁:=I) (l₂:=M))).nodup_iff.2 hn);have e:putF E T=putT E T:=by unfold putF;rw [Yn (ye h1)]
  rw [List.foldl_cons,e];exact this.order KM
theorem ja (f:Es->Tri3->Es) (g:Tri3->List Tri3):∀ (L:List Tri3) (E:Es),L.foldl (λE T=>(g T).foldl f E) E=(L.flatMap g).foldl f E
 | [],_=>rfl
 | T :: L,E=>by rw [List.foldl_cons,Yj,List.foldl_append,ja f g L]
section
variable {W H:Int} {E:Es} {L:List Tri3} (hW:W < 16777216) (hH:H < 16777216) (g:Good E L) (t:Tiles W H L) {p:Pt}
include hW hH g t
omit t in
theorem tQ (hp:inBox W H p):(atE E p).Perm (L.filter λT=>hasP T p)/\∀ T∈L,hasP T p=true↔hasT T p:=by
 have vp:vld p=true:=by rw [zZ];unfold inBox at hp;omega
 refine ⟨?_,λT hT=>?_⟩
 ·unfold atE;exact (zd _).trans (kS g _)
 ·rw [jS (g.val T hT) vp];rfl
omit hW hH in
theorem at_none (hp:¬ inBox W H p):atE E p=[]:=by
 have h1:(atE E p).Perm (L.filter λT=>hasP T p):=by unfold atE;exact (zd _).trans (kS g _)
 refine List.Perm.eq_nil (h1.trans ?_);rw [JZ.2];intro T hT hh;have vp:vld p=true:=by
  unfold hasP at hh;simp only [Yf] at hh;exact hh.2.1
 exact hp (has_box (t.pos T hT) (t.box T hT) ((jS (g.val T hT) vp).1 hh))
theorem at_some (hW0:0 < W) (hH0:0 < H) (hp:inBox W H p):atE E p≠[]:=by
 obtain ⟨h1,h2⟩:=tQ hW hH g hp;obtain ⟨T,hT,k⟩:=t.covers hW0 hH0 hp;intro e;rw [e] at h1;have:T∈L.filter λT=>hasP T p:=XR.2 ⟨hT,(h2 T hT).2 k⟩;rw [<-h1.mem_iff] at this;cases this
end
def flipD (E:Es) (p q:Pt):Int×Es:=
 match getE E (p,q),getE E (q,p) with
 | some S,some R=>
  if 0 < ori p (apx R p q) (apx S p q)/\0 < ori (apx R p q) q (apx S p q)/\getE E (apx R p q,apx S p q)=none/\getE E (apx S p q,apx R p q)=none
  then (0,flipE E S R (mk p (apx R p q) (apx S p q)) (mk (apx R p q) q (apx S p q))) else (2,E)
 | _,_=>(16,E)
theorem flipD_none {E:Es} {p q:Pt} (h:getE E (p,q)=none\/getE E (q,p)=none):flipD E p q=(16,E):=by
 unfold flipD;rcases h with h | h
 ·rw [h]
 ·rw [h];cases getE E (p,q) <;> rfl
theorem vP {E:Es} {p q:Pt} {S R:Tri3} (h0:getE E (p,q)=some S) (h1:getE E (q,p)=some R):flipD E p q=if 0 < ori p (apx R p q) (apx S p q)/\0 < ori (apx R p q) q (apx S p q)/\getE E (apx R p q,apx S p q)=none/\getE E (apx S p q,apx R p q)=none then (0,flipE E S R (mk p (apx R p q) (apx S p q)) (mk (apx R p q) q (apx S p q))) else (2,E):=by
 unfold flipD;rw [h0,h1]
theorem Zw {T:Tri3} (h:valT T=true):0 < det T.A T.B T.C/\vld T.A=true/\vld T.B=true/\vld T.C=true:=by
 obtain ⟨va,vb,vc,hD⟩:=xA h;exact ⟨hD,va,vb,vc⟩
theorem jT {E:Es} {L:List Tri3} (g:Good E L) {p q:Pt} {S R:Tri3} (h0:getE E (p,q)=some S) (h1:getE E (q,p)=some R):(S∈L/\R∈L)/\(Cyc S p q (apx S p q)/\Cyc R q p (apx R p q))/\(0 < det p q (apx S p q)/\0 < det q p (apx R p q))/\(vld p=true/\vld q=true/\vld (apx S p q)=true/\vld (apx R p q)=true):=by
 obtain ⟨mS,wS⟩:=g.get.1 h0;obtain ⟨mR,wR⟩:=g.get.1 h1;obtain ⟨c,cS⟩:=xJ wS;obtain ⟨d,cR⟩:=xJ wR;obtain ⟨pS,v1,v2,v3⟩:=Zw (g.val S mS);obtain ⟨pR,v4,v5,v6⟩:=Zw (g.val R mR);have p1:0 < det p q c:=by rw [cS.det];exact pS
 have p2:0 < det q p d:=by rw [cR.det];exact pR
 obtain ⟨n1,n2,n3⟩:=zL p1;obtain ⟨m1,m2,m3⟩:=zL p2;have e1:apx S p q=c:=(xw cS n1 n2 n3).1;have e2:apx R p q=d:=(xw cR m1 m2 m3).2;rw [e1,e2];have vv:∀ {T:Tri3} {a b c:Pt},Cyc T a b c->vld T.A=true->vld T.B=true->vld T.C=true->vld a=true/\vld b=true/\vld c=true:=by
  intro T a b c h x y z;rcases h with ⟨rfl,rfl,rfl⟩ | ⟨rfl,rfl,rfl⟩ | ⟨rfl,rfl,rfl⟩
  ·exact ⟨x,y,z⟩
  ·exact ⟨y,z,x⟩
  ·exact ⟨z,x,y⟩
 obtain ⟨k1,k2,k3⟩:=vv cS v1 v2 v3;obtain ⟨_,_,k4⟩:=vv cR v4 v5 v6;exact ⟨⟨mS,mR⟩,⟨cS,cR⟩,⟨p1,p2⟩,k1,k2,k3,k4⟩
theorem kw {a b c:Pt} (va:vld a=true) (vb:vld b=true) (vc:vld c=true):0 < ori a b c↔0 < det a b c:=by
 rw [ori_v va vb vc];have:=zJ (det a b c);omega
theorem good_flips {E:Es} {L:List Tri3} (g:Good E L) {p q:Pt} {S R:Tri3} {C D:Pt} (h0:getE E (p,q)=some S) (h1:getE E (q,p)=some R) (hC:apx S p q=C) (hD:apx R p q=D) (o1:0 < ori p D C) (o2:0 < ori D q C) (he:getE E (D,C)=none) (hf:getE E (C,D)=none):Flips E p q S R (mk p D C) (mk D q C) C D/\∃ M,L.Perm (S :: R :: M)/\Good (flipE E S R (mk p D C) (mk D q C)) (mk p D C :: mk D q C :: M):=by
 obtain ⟨⟨mS,mR⟩,⟨cS,cR⟩,⟨p1,p2⟩,vp,vq,vc,vd⟩:=jT g h0 h1;rw [hC] at cS p1 vc;rw [hD] at cR p2 vd;have d1:=(kw vp vd vc).1 o1;have d2:=(kw vd vq vc).1 o2;obtain ⟨n1,n2,n3⟩:=zL p1;obtain ⟨m1,m2,m3⟩:=zL p2;obtain ⟨x1,x2,x3⟩:=zL d1;obtain ⟨y1,y2,y3⟩:=zL d2;have hne:S≠R:=by
  rintro rfl;have:=cS.ways.mem_iff.1 cR.way;simp only [Yg,XS,Ym,XG] at this;rcases this with ⟨k,_⟩ | ⟨_,k⟩ | ⟨k,_⟩
  ·exact n1 k.symm
  ·exact n3 k.symm
  ·exact n2 k
 obtain ⟨M,hM⟩:=qF mS mR hne;have nd:=(zi hM).nodup_iff.1 g.once;rw [Yj,Yj,XE] at nd;obtain ⟨_,nd2,nd1⟩:=nd;rw [XE] at nd2;obtain ⟨_,_,nd2⟩:=nd2;have inM:∀ w,w∈M.flatMap ways->w ∉ ways S/\w ∉ ways R/\w∈L.flatMap ways:=λw hw=>
  ⟨λk=>nd1 w k w (XJ _ hw) rfl,λk=>nd2 w k w hw rfl,(zi hM).mem_iff.2 (by rw [Yj,Yj];simp [hw])⟩
 obtain ⟨cU,vU⟩:=zj vp vd vc d1;obtain ⟨cV,vV⟩:=zj vd vq vc d2;have a1:=(Good.take (E:=E) (T:=S) (M:=R :: M) (g.order hM)).2;have a2:=(Good.take (E:=takeT E S) (T:=R) (M:=M) a1).2;obtain ⟨f1,g1⟩:=Good.put (T:=mk p D C) a2 vU (λw hw k=>by
  obtain ⟨k1,k2,k3⟩:=inM w k;have:=cU.ways.mem_iff.1 hw;simp only [Yg,Ym,XG] at this;rcases this with rfl | rfl | rfl
  ·exact k2 cR.turn.way
  ·exact g.get_none.1 he k3
  ·exact k1 cS.turn.turn.way)
 obtain ⟨f2,g2⟩:=Good.put (T:=mk D q C) g1 vV (λw hw k=>by
  have h:=cV.ways.mem_iff.1 hw;simp only [Yg,Ym,XG] at h;rw [Yj,Ys] at k;rcases k with k | k
  ·have k:=cU.ways.mem_iff.1 k;simp only [Yg,Ym,XG] at k;rcases h with rfl | rfl | rfl
   ·simp only [XS] at k;rcases k with ⟨k,_⟩ | ⟨_,k⟩ | ⟨k,_⟩
    ·exact x1 k.symm
    ·exact y2 k
    ·exact x2 k
   ·simp only [XS] at k;rcases k with ⟨_,k⟩ | ⟨k,_⟩ | ⟨_,k⟩
    ·exact x2 k.symm
    ·exact y1 k.symm
    ·exact x3 k
   ·simp only [XS] at k;rcases k with ⟨k,_⟩ | ⟨k,_⟩ | ⟨_,k⟩
    ·exact x3 k
    ·exact x2 k.symm
    ·exact x1 k.symm
  ·obtain ⟨k1,k2,k3⟩:=inM w k;rcases h with rfl | rfl | rfl
   ·exact k2 cR.turn.turn.way
   ·exact k1 cS.turn.way
   ·exact g.get_none.1 hf k3)
 refine ⟨⟨h0,h1,hC,hD,Km (by omega),Km (by omega),rfl,rfl,he,hf,⟨yV vc,yV vd⟩,yJ (g.val _ mS),yJ (g.val _ mR),yJ vU,yJ vV,ye f1,ye f2⟩,M,hM,g2.order (List.Perm.swap _ _ _)⟩
theorem good_cross {E:Es} {L:List Tri3} (g:Good E L) {p q:Pt} {S R O:Tri3} {C D:Pt} (h0:getE E (p,q)=some S) (h1:getE E (q,p)=some R) (hC:apx S p q=C) (hD:apx R p q=D) (hdc:D≠C) (ho:(D,C)∈ways O\/(C,D)∈ways O):teq O S=false/\teq O R=false:=by
 obtain ⟨_,⟨cS,cR⟩,⟨p1,p2⟩,_⟩:=jT g h0 h1;rw [hC] at cS p1;rw [hD] at cR p2;obtain ⟨n1,n2,n3⟩:=zL p1;obtain ⟨m1,m2,m3⟩:=zL p2;have tf:∀ {X Y:Tri3},X≠Y->teq X Y=false:=λ{X Y} h=>by
  rw [<-KD];intro k;exact h (kD.1 k)
 constructor
 ·refine tf ?_;rintro rfl;rcases ho with ho | ho
  ·have:=cS.ways.mem_iff.1 ho;simp only [Yg,XS,Ym,XG] at this;rcases this with ⟨k,_⟩ | ⟨k,_⟩ | ⟨k,_⟩
   ·exact m2 k.symm
   ·exact m3 k
   ·exact hdc k
  ·have:=cS.ways.mem_iff.1 ho;simp only [Yg,XS,Ym,XG] at this;rcases this with ⟨k,_⟩ | ⟨k,_⟩ | ⟨_,k⟩
   ·exact n3 k
   ·exact n2 k.symm
   ·exact m2 k.symm
 ·refine tf ?_;rintro rfl;rcases ho with ho | ho
  ·have:=cR.ways.mem_iff.1 ho;simp only [Yg,XS,Ym,XG] at this;rcases this with ⟨k,_⟩ | ⟨k,_⟩ | ⟨_,k⟩
   ·exact m3 k
   ·exact m2 k.symm
   ·exact n2 k.symm
  ·have:=cR.ways.mem_iff.1 ho;simp only [Yg,XS,Ym,XG] at this;rcases this with ⟨k,_⟩ | ⟨k,_⟩ | ⟨k,_⟩
   ·exact n2 k.symm
   ·exact n3 k
   ·exact hdc k.symm
section
theorem grown_own {w w' w2:World} {b:Nat} {r:Option Nat} (h:w.grownBy w' (some b)) (hg:w'.grownBy w2 r) (hr:∀ k,r=some k->w.heap.size<=k):w.grownBy w2 (some b):=
 ⟨hg.os.trans h.os,hg.tape.trans h.tape,hg.output.trans h.output,XD h.size hg.size,λk hk hn=>(hg.block k (Xi hk h.size) (λe=>by have:=hr k e.symm;omega)).trans (h.block k hk hn)⟩
def tl1 (ad:Addr) (cap:Nat):Addr:=if cap=1 then ad else ad.add 5
theorem run_tail_wal (ad:Addr) (n cap:Nat) (w:World):(Instr.slice 48 (.slice (some ad) (n+1) cap) (some (.int .i64 1)) none none).run prog w=.ok (.slice (some (tl1 ad cap)) n (cap - 1)) w:=by
 have h:=kG (some ad) (n+1) cap 1 (by omega) w;refine (show _=_ from h).trans ?_;unfold tl1;split <;> simp
attribute [local go_sem ↓ 10000] run_tail_wal
end
theorem uR (p a b:Pt):tch p a b=0\/tch p a b=2:=by unfold tch;(repeat' split) <;> simp
theorem mx4_two {a b c d:Int} (ha:a=0\/a=2) (hb:b=0\/b=2) (hc:c=0\/c=2) (hd:d=0\/d=2):mx4 a b c d≠1:=by
 rcases ha with rfl | rfl <;> rcases hb with rfl | rfl <;> rcases hc with rfl | rfl <;> rcases hd with rfl | rfl <;> decide
theorem tH {a b c d:Pt}:meetR a b c d=1↔(vld a=true/\vld b=true/\vld c=true/\vld d=true)/\((0 < det a b c/\det a b d < 0)\/(det a b c < 0/\0 < det a b d))/\((0 < det c d a/\det c d b < 0)\/(det c d a < 0/\0 < det c d b)):=by
 unfold meetR;cases va:vld a with
 | false=>simp
 | true=>
  cases vb:vld b with
  | false=>simp
  | true=>
   cases vc:vld c with
   | false=>simp
   | true=>
    cases vd:vld d with
    | false=>simp
    | true=>
     have zab:peqI a.x a.y b.x b.y=true->∀ p,det a b p=0:=λh p=>by
      rw [qs.1 h];unfold det;grind
     have zcd:peqI c.x c.y d.x d.y=true->∀ p,det c d p=0:=λh p=>by
      rw [qs.1 h];unfold det;grind
     rw [ori_v va vb vc,ori_v va vb vd,ori_v vc vd va,ori_v vc vd vb];have l1:lap a b c d≠1:=by unfold lap;split <;> decide
     have l2:=mx4_two (uR a c d) (uR b c d) (uR c a b) (uR d a b);have s1:=zJ (det a b c);have s2:=zJ (det a b d);have s3:=zJ (det c d a);have s4:=zJ (det c d b);simp only [Bool.true_eq_false,Jf,and_self,true_and];split
     ·rename_i h;have:=zab h c;have:=zab h d;simp;omega
     ·split
      ·rename_i h;have:=zcd h a;have:=zcd h b;simp;omega
      ·split
       ·rename_i h;simp only [l1,false_iff];omega
       ·split
        ·rename_i h
         simp only [true_iff];rcases s1 with ⟨e1,_⟩ | ⟨e1,_⟩ | ⟨e1,_⟩ <;> rcases s2 with ⟨e2,_⟩ | ⟨e2,_⟩ | ⟨e2,_⟩ <;> rcases s3 with ⟨e3,_⟩ | ⟨e3,_⟩ | ⟨e3,_⟩ <;> rcases s4 with ⟨e4,_⟩ | ⟨e4,_⟩ | ⟨e4,_⟩ <;> rw [e1,e2,e3,e4] at h <;> first | omega | (simp at h)
        ·rename_i h
         simp only [l2,false_iff];rintro ⟨k1,k2⟩;apply h;rcases s1 with ⟨e1,_⟩ | ⟨e1,_⟩ | ⟨e1,_⟩ <;> rcases s2 with ⟨e2,_⟩ | ⟨e2,_⟩ | ⟨e2,_⟩ <;> rcases s3 with ⟨e3,_⟩ | ⟨e3,_⟩ | ⟨e3,_⟩ <;> rcases s4 with ⟨e4,_⟩ | ⟨e4,_⟩ | ⟨e4,_⟩ <;> rw [e1,e2,e3,e4] <;> first | omega | (simp)
structure Crs (a b l r:Pt):Prop where
 left:0 < det a b l
 right:det a b r < 0
 back:0 < det r l a
 front:0 < det l r b
theorem Crs.turn {a b l r:Pt} (h:Crs a b l r):Crs b a r l:=by
 refine ⟨?_,?_,h.front,h.back⟩
 ·have:=h.right;have:=zh a b r;omega
 ·have:=h.left;have:=zh a b l;omega
section
variable {W H:Int} {L:List Tri3} (h:Tiles W H L)
include h
end
theorem Cyc.same {T:Tri3} {a b c b' c':Pt} (h:Cyc T a b c) (k:Cyc T a b' c') (hp:0 < Go.Proofs.YtmpfadapbbjbkaaGreat.det a b c):b'=b/\c'=c:=by
 obtain ⟨n1,n2,n3⟩:=zL hp;rcases h with ⟨rfl,rfl,rfl⟩ | ⟨rfl,rfl,rfl⟩ | ⟨rfl,rfl,rfl⟩ <;> rcases k with ⟨k1,rfl,rfl⟩ | ⟨k1,rfl,rfl⟩ | ⟨k1,rfl,rfl⟩ <;> first | exact ⟨rfl,rfl⟩ | exact absurd k1 n1 | exact absurd k1 n3 | exact absurd k1.symm n1 | exact absurd k1.symm n3 | exact absurd k1 n2 | exact absurd k1.symm n2
theorem Cyc.same2 {T:Tri3} {a b c c':Pt} (h:Cyc T a b c) (k:Cyc T a b c') (hp:0 < Go.Proofs.YtmpfadapbbjbkaaGreat.det a b c):c'=c:=(h.same k hp).2
def Nx (L:List Tri3) (e f:Pt×Pt):Prop:=∃ T∈L,∃ v,Cyc T e.1 e.2 v/\(f=(v,e.2)\/f=(e.1,v))
def bef (L:List Tri3) (a:Pt):Option (Pt×Pt)->Pt×Pt->Prop
 | none,e=>∃ T∈L,Cyc T e.2 e.1 a
 | some p,e=>Nx L p e
def Ch (L:List Tri3) (a b:Pt):Option (Pt×Pt)->List (Pt×Pt)->Prop
 | none,[]=>(a,b)∈L.flatMap ways\/(b,a)∈L.flatMap ways
 | some e,[]=>∃ T∈L,Cyc T e.1 e.2 b
 | p,e :: P=>bef L a p e/\Ch L a b (some e) P
section
variable {W H:Int} {L:List Tri3} (h:Tiles W H L)
include h
theorem Tiles.other {a b l r:Pt} (ba:inBox W H a) (bb:inBox W H b) (hx:Crs a b l r):(l,r)∈L.flatMap ways↔(r,l)∈L.flatMap ways:=by
 constructor
 ·intro hm;rcases h.rim _ hm with k | k
  ·exact k
  ·exfalso
   obtain ⟨T,hT,hw⟩:=Yw.1 hm;obtain ⟨v,hc⟩:=xJ hw;have k2:0<=det l r a:=vk k (h.cyc_pos hT hc) (h.cyc_box hT hc.turn.turn) ba;have:=hx.back;have:=zh r l a;omega
 ·intro hm;rcases h.rim _ hm with k | k
  ·exact k
  ·exfalso
   obtain ⟨T,hT,hw⟩:=Yw.1 hm;obtain ⟨v,hc⟩:=xJ hw;have k2:0<=det r l b:=vk k (h.cyc_pos hT hc) (h.cyc_box hT hc.turn.turn) bb;have:=hx.front;have:=zh l r b;omega
end
section
variable {W H:Int} {L:List Tri3} (h:Tiles W H L)
include h
end
def Pre (L:List Tri3) (a:Pt):Option (Pt×Pt)->List (Pt×Pt)->Pt×Pt->Prop
 | o,[],w=>bef L a o w
 | o,e :: A,w=>bef L a o e/\Pre L a (some e) A w
theorem vx {L:List Tri3} {a:Pt} {o:Option (Pt×Pt)} {e w:Pt×Pt} {A:List (Pt×Pt)}:Pre L a o (e :: A) w↔bef L a o e/\Pre L a (some e) A w:=Iff.rfl
theorem qX {L:List Tri3} {a b:Pt} {o:Option (Pt×Pt)} {e:Pt×Pt} {P:List (Pt×Pt)}:Ch L a b o (e :: P)↔bef L a o e/\Ch L a b (some e) P:=by
 cases o <;> exact Iff.rfl
theorem qB {L:List Tri3} {a b:Pt} {w:Pt×Pt} {B:List (Pt×Pt)}:∀ {A:List (Pt×Pt)} {o:Option (Pt×Pt)},Ch L a b o (A ++ w :: B)↔Pre L a o A w/\Ch L a b (some w) B
 | [],o=>qX
 | e :: A,o=>by
  rw [Xg,qX,qB (A:=A),vx,and_assoc]
theorem vw {L:List Tri3} {a:Pt} {p w:Pt×Pt}:∀ {A:List (Pt×Pt)} {o:Option (Pt×Pt)},Pre L a o (A ++ [p]) w↔Pre L a o A p/\Nx L p w
 | [],o=>Iff.rfl
 | e :: A,o=>by
  rw [Xg,vx,vx,vw (A:=A),and_assoc]
def up (a b:Pt) (e f:Pt×Pt):Prop:=(e.2=f.2/\det a b e.1<=det a b f.1)\/(e.2≠f.2/\det a b f.2<=det a b e.2)
theorem jX {a b l r u v:Pt} (hl:0 < det a b l) (hr:det a b r < 0) (hS:0 < det l r v) (hR:0 < det r l u) (h1:det a b u<=det a b l) (h2:det a b v<=det a b l) (h3:det a b u < det a b l\/det a b v < det a b l) (k1:det a b r<=det a b u) (k2:det a b r<=det a b v) (k3:det a b r < det a b u\/det a b r < det a b v):0 < det v l u/\0 < det u r v:=by
 have w:0 < det a b l - det a b r:=by omega
 have two:∀ {m n x y:Int},0<=m->0<=n->0 < m\/0 < n->0 < x->0 < y->0 < m * x+n * y:=by
  intro m n x y hm hn h hx hy;rcases h with h | h
  ·have:=Yu h hx;have:=Yk hn (XI hy);omega
  ·have:=Yu h hy;have:=Yk hm (XI hx);omega
 constructor
 ·refine (zV w).1 ?_;have e:(det a b l - det a b r) * det v l u=(det a b l - det a b u) * det l r v+(det a b l - det a b v) * det r l u:=by unfold det;grind
  rw [e];exact two (by omega) (by omega) (by omega) hS hR
 ·refine (zV w).1 ?_;have e:(det a b l - det a b r) * det u r v=(det a b u - det a b r) * det l r v+(det a b v - det a b r) * det r l u:=by unfold det;grind
  rw [e];exact two (by omega) (by omega) (by omega) hS hR
theorem four_crs {a b l r u v:Pt} (hl:0 < det a b l) (hr:det a b r < 0) (o1:0 < det v l u) (o2:0 < det u r v) (hu:0 < det a b u) (hv:det a b v < 0) (k1:0 < det r u a) (k2:0 < det l v b):Crs a b u v:=by
 refine ⟨hu,hv,?_,?_⟩
 ·refine (zV (show 0 < det a b u - det a b r by omega)).1 ?_;have e:(det a b u - det a b r) * det v u a=(det a b u - det a b v) * det r u a+det a b u * det u r v:=by unfold det;grind
  rw [e];exact Int.add_pos (Yu (by omega) k1) (Yu hu o2)
 ·refine (zV (show 0 < det a b l - det a b v by omega)).1 ?_;have e:(det a b l - det a b v) * det u v b=(det a b u - det a b v) * det l v b+(- det a b v) * det v l u:=by unfold det;grind
  rw [e];exact Int.add_pos (Yu (by omega) k2) (Yu (by omega) o1)
theorem four_crs2 {a b l r u v:Pt} (hl:0 < det a b l) (hr:det a b r < 0) (o1:0 < det v l u) (o2:0 < det u r v) (hu:det a b u < 0) (hv:0 < det a b v) (k1:0 < det u l a) (k2:0 < det v r b):Crs a b v u:=by
 refine ⟨hv,hu,?_,?_⟩
 ·refine (zV (show 0 < det a b l - det a b u by omega)).1 ?_;have e:(det a b l - det a b u) * det u v a=(det a b v - det a b u) * det u l a+(- det a b u) * det v l u:=by unfold det;grind
  rw [e];exact Int.add_pos (Yu (by omega) k1) (Yu (by omega) o1)
 ·refine (zV (show 0 < det a b v - det a b r by omega)).1 ?_;have e:(det a b v - det a b r) * det v u b=(det a b v - det a b u) * det v r b+det a b v * det u r v:=by unfold det;grind
  rw [e];exact Int.add_pos (Yu (by omega) k2) (Yu hv o2)
structure At (L:List Tri3) (w:Pt×Pt) (S R:Tri3) (u v:Pt):Prop where
 inS:S∈L
 inR:R∈L
 cS:Cyc S w.1 w.2 v
 cR:Cyc R w.2 w.1 u
section
variable {W H:Int} {L:List Tri3} (h:Tiles W H L) {a b:Pt} {w:Pt×Pt} {S R:Tri3} {u v:Pt} (hA:At L w S R u v)
include h hA
theorem At.ahead {p:Pt×Pt} (k:Nx L p w):p=(u,w.2)\/p=(w.1,u):=by
 obtain ⟨T,hT,v',hc,hw⟩:=k;rcases hw with hw | hw
 ·have e1:w.1=v':=by rw [hw]
  have e2:w.2=p.2:=by rw [hw]
  have c:=hc.turn;rw [<-e1,<-e2] at c;have e:T=R:=yq h.once hT hA.inR c.way hA.cR.way;rw [e] at c;have:=hA.cR.same2 c (h.cyc_pos hA.inR hA.cR);exact .inl (Prod.ext this e2.symm)
 ·have e1:w.1=p.1:=by rw [hw]
  have e2:w.2=v':=by rw [hw]
  have c:=hc.turn.turn;rw [<-e1,<-e2] at c;have e:T=R:=yq h.once hT hA.inR c.way hA.cR.way;rw [e] at c;have:=hA.cR.same2 c (h.cyc_pos hA.inR hA.cR);exact .inr (Prod.ext e1.symm this)
theorem At.behind {q:Pt×Pt} (k:Nx L w q):q=(v,w.2)\/q=(w.1,v):=by
 obtain ⟨T,hT,v',hc,hw⟩:=k;have e:T=S:=yq h.once hT hA.inS hc.way hA.cS.way;rw [e] at hc;have:=hA.cS.same2 hc (h.cyc_pos hA.inS hA.cS);rw [this] at hw;exact hw
theorem At.first (k:bef L a none w):u=a:=by
 obtain ⟨T,hT,hc⟩:=k;have e:T=R:=yq h.once hT hA.inR hc.way hA.cR.way;rw [e] at hc;exact (hA.cR.same2 hc (h.cyc_pos hA.inR hA.cR)).symm
theorem At.last (k:Ch L a b (some w) []):v=b:=by
 obtain ⟨T,hT,hc⟩:=k;have e:T=S:=yq h.once hT hA.inS hc.way hA.cS.way;rw [e] at hc;exact (hA.cS.same2 hc (h.cyc_pos hA.inS hA.cS)).symm
omit h in
theorem At.keepS {e:Pt×Pt} (hw:Crs a b w.1 w.2) (he:Crs a b e.1 e.2) (hn:e≠w) {T:Tri3} (hm:e∈ways T):T≠S:=by
 rintro rfl;have:=hA.cS.ways.mem_iff.1 hm;simp only [Yg,Ym,XG] at this;have l1:=hw.left;have r1:=hw.right;have l2:=he.left;have r2:=he.right;rcases this with k | k | k
 ·exact hn k
 ·rw [k] at l2;simp only at l2;omega
 ·rw [k] at r2;simp only at r2;omega
omit h in
theorem At.keepR {e:Pt×Pt} (hw:Crs a b w.1 w.2) (he:Crs a b e.1 e.2) (hn:e≠w) {T:Tri3} (hm:(e.2,e.1)∈ways T):T≠R:=by
 rintro rfl;have:=hA.cR.ways.mem_iff.1 hm;simp only [Yg,Ym,XG,XS] at this;have l1:=hw.left;have r1:=hw.right;have l2:=he.left;have r2:=he.right;rcases this with ⟨k,k'⟩ | ⟨k,_⟩ | ⟨_,k⟩
 ·exact hn (Prod.ext k' k)
 ·rw [k] at r2;omega
 ·rw [k] at l2;omega
end
section
variable {W H:Int} {L L':List Tri3} (h:Tiles W H L) {a b:Pt} {w:Pt×Pt} {S R U V:Tri3} {u v:Pt} (hA:At L w S R u v) (hw:Crs a b w.1 w.2) (hk:∀ T∈L,T≠S->T≠R->T∈L')
include h hA hw hk
omit h in
theorem Nx.keep {e f:Pt×Pt} (he:Crs a b e.1 e.2) (hf:Crs a b f.1 f.2) (ne:e≠w) (nf:f≠w) (k:Nx L e f):Nx L' e f:=by
 obtain ⟨T,hT,v',hc,hv⟩:=k;refine ⟨T,hk T hT (hA.keepS hw he ne hc.way) (hA.keepR hw hf nf ?_),v',hc,hv⟩;rcases hv with rfl | rfl
 ·exact hc.turn.way
 ·exact hc.turn.turn.way
theorem first_keep {f:Pt×Pt} (hf:Crs a b f.1 f.2) (nf:f≠w) (k:bef L a none f):bef L' a none f:=by
 obtain ⟨T,hT,hc⟩:=k;refine ⟨T,hk T hT ?_ (hA.keepR hw hf nf hc.way),hc⟩;rintro rfl;have l1:=hw.left;have r1:=hw.right;have z:det a b a=0:=by unfold det;grind
 have:isCnr T a:=hc.turn.turn.cnr;rcases (hA.cS.cnr_iff a).1 this with k | k | k
 ·rw [<-k,z] at l1;omega
 ·rw [<-k,z] at r1;omega
 ·have:=h.cyc_pos hA.inS hA.cS;rw [<-k] at this;have:=hw.back;have:=zh w.2 w.1 a;omega
theorem last_keep {e:Pt×Pt} (he:Crs a b e.1 e.2) (ne:e≠w) (k:Ch L a b (some e) []):Ch L' a b (some e) []:=by
 obtain ⟨T,hT,hc⟩:=k;refine ⟨T,hk T hT (hA.keepS hw he ne hc.way) ?_,hc⟩;rintro rfl;have l1:=hw.left;have r1:=hw.right;have z:det a b b=0:=by unfold det;grind
 have:isCnr T b:=hc.turn.turn.cnr;rcases (hA.cR.cnr_iff b).1 this with k | k | k
 ·rw [<-k,z] at r1;omega
 ·rw [<-k,z] at l1;omega
 ·have:=h.cyc_pos hA.inR hA.cR;rw [<-k] at this;have:=hw.front;have:=zh w.1 w.2 b;omega
theorem Ze {o:Option (Pt×Pt)} {f:Pt×Pt} (ho:∀ e,o=some e->Crs a b e.1 e.2/\e≠w) (hf:Crs a b f.1 f.2) (nf:f≠w) (k:bef L a o f):bef L' a o f:=by
 cases o with
 | none=>exact first_keep h hA hw hk hf nf k
 | some e=>exact Nx.keep hA hw hk (ho e rfl).1 hf (ho e rfl).2 nf k
theorem tw:∀ {A:List (Pt×Pt)} {o:Option (Pt×Pt)} {p:Pt×Pt},(∀ e,o=some e->Crs a b e.1 e.2/\e≠w)->(∀ e∈A,Crs a b e.1 e.2/\e≠w)->Crs a b p.1 p.2->p≠w->Pre L a o A p->Pre L' a o A p
 | [],_,_,ho,_,hp,np,k=>Ze h hA hw hk ho hp np k
 | e :: A,_,_,ho,hx,hp,np,k=>⟨Ze h hA hw hk ho (hx e (by simp)).1 (hx e (by simp)).2 k.1,tw (λg hg=>by cases hg;exact hx e (by simp)) (λg hg=>hx g (X6 _ hg)) hp np k.2⟩
theorem Zb:∀ {B:List (Pt×Pt)} {q:Pt×Pt},Crs a b q.1 q.2->q≠w->(∀ e∈B,Crs a b e.1 e.2/\e≠w)->Ch L a b (some q) B->Ch L' a b (some q) B
 | [],_,hq,nq,_,k=>last_keep h hA hw hk hq nq k
 | e :: B,_,hq,nq,hx,k=>⟨Nx.keep hA hw hk hq (hx e (by simp)).1 nq (hx e (by simp)).2 k.1,Zb (hx e (by simp)).1 (hx e (by simp)).2 (λg hg=>hx g (X6 _ hg)) k.2⟩
end
theorem Ch.flip {W H:Int} {L L':List Tri3} (h:Tiles W H L) {a b:Pt} {A B:List (Pt×Pt)} {w:Pt×Pt} (hP:Ch L a b none (A ++ w :: B)) (hx:∀ e∈A ++ w :: B,Crs a b e.1 e.2) (hd:(A ++ w :: B).Nodup) {S R U V:Tri3} {u v:Pt} (hA:At L w S R u v) (hk:∀ T∈L,T≠S->T≠R->T∈L') (hU:U∈L') (hV:V∈L') (cU:Cyc U v w.1 u) (cV:Cyc V u w.2 v) (o1:0 < det v w.1 u) (o2:0 < det u w.2 v):(∃ A0 p q B0 f,A=A0 ++ [p]/\B=q :: B0/\(f=(u,v)\/f=(v,u))/\Crs a b f.1 f.2/\Ch L' a b none (A ++ f :: B)/\f ∉ A ++ w :: B/\(up a b p f↔up a b w q)/\(up a b f q↔up a b p w))\/(¬ (0 < det a b u/\det a b v < 0\/det a b u < 0/\0 < det a b v)/\Ch L' a b none (A ++ B)):=by
 have hw:=hx w (by simp);have hxA:∀ e∈A,Crs a b e.1 e.2/\e≠w:=λe he=>⟨hx e (XP _ he),λk=>by
  rw [XE] at hd;exact hd.2.2 e he w (by simp) k⟩
 have hxB:∀ e∈B,Crs a b e.1 e.2/\e≠w:=λe he=>⟨hx e (by simp [he]),λk=>by
  rw [XE] at hd;have:=hd.2.1;rw [Xn] at this;exact this.1 (k▸he)⟩
 have za:det a b a=0:=by unfold det;grind
 have zb:det a b b=0:=by unfold det;grind
 have inw:∀ e∈A ++ w :: B,e∈L.flatMap ways:=by
  intro e he;obtain ⟨X,Y,e1⟩:=Jv he;rw [e1] at hP;have:=(qB.1 hP).2;cases Y with
  | nil=>obtain ⟨T,hT,hc⟩:=this;exact yT hT hc.way
  | cons f Y=>obtain ⟨⟨T,hT,v',hc,_⟩,_⟩:=this;exact yT hT hc.way
 have n1:(u,v) ∉ A ++ w :: B:=λk=>h.no_diag hA.inS hA.cS o1 o2 (inw _ k);have n2:(v,u) ∉ A ++ w :: B:=λk=>h.no_diag hA.inR hA.cR o2 o1 (inw _ k);obtain ⟨hp1,hq1⟩:=qB.1 hP;rcases List.eq_nil_or_concat A with rfl | ⟨A0,p,rfl⟩
 ·have eu:u=a:=hA.first h hp1;refine .inr ⟨by rw [eu,za];omega,?_⟩;cases B with
  | nil=>
   have ev:v=b:=hA.last h hq1;rw [eu,ev] at cU;exact .inl (yT hU cU.turn.turn.way)
  | cons q B0=>
   obtain ⟨k1,k2⟩:=qX.1 hq1;have k3:=Zb h hA hw hk (hxB q (by simp)).1 (hxB q (by simp)).2 (λe he=>hxB e (X6 _ he)) k2;refine qX.2 ⟨?_,k3⟩;rw [eu] at cU cV;rcases hA.behind h k1 with rfl | rfl
   ·exact ⟨V,hV,cV.turn⟩
   ·exact ⟨U,hU,cU⟩
 ·rw [List.concat_eq_append] at *;obtain ⟨k1,k2⟩:=vw.1 hp1;have hxp:=hxA p (by simp);have k3:=tw h hA hw hk (o:=none) (λe he=>by cases he) (λe he=>hxA e (XP _ he)) hxp.1 hxp.2 k1;have pl:=hxp.1.left;have pr:=hxp.1.right;have pb:=hxp.1.back;cases B with
  | nil=>
   have ev:v=b:=hA.last h hq1;refine .inr ⟨by rw [ev,zb];omega,?_⟩;rw [XM];refine qB.2 ⟨k3,?_⟩;rw [ev] at cU cV;rcases hA.ahead h k2 with rfl | rfl
   ·exact ⟨V,hV,cV⟩
   ·exact ⟨U,hU,cU.turn⟩
  | cons q B0=>
   obtain ⟨j1,j2⟩:=qX.1 hq1;have hxq:=hxB q (by simp);have j3:=Zb h hA hw hk hxq.1 hxq.2 (λe he=>hxB e (X6 _ he)) j2;have ql:=hxq.1.left;have qr:=hxq.1.right;have qf:=hxq.1.front;have mk:∀ f,Nx L' p f->Nx L' f q->Ch L' a b none ((A0 ++ [p]) ++ f :: q :: B0):=λf x y=>by
    rw [Yp];exact qB.2 ⟨k3,qX.2 ⟨x,qX.2 ⟨y,j3⟩⟩⟩
   have mk2:Nx L' p q->Ch L' a b none ((A0 ++ [p]) ++ q :: B0):=λx=>by
    rw [Yp];exact qB.2 ⟨k3,qX.2 ⟨x,j3⟩⟩
   obtain ⟨d1,d2,d3⟩:=zL (h.cyc_pos hA.inS hA.cS);obtain ⟨d4,d5,d6⟩:=zL (h.cyc_pos hA.inR hA.cR);rcases hA.ahead h k2 with rfl | rfl <;> rcases hA.behind h j1 with rfl | rfl <;> simp only at pl pr pb ql qr qf
   ·exact .inr ⟨by omega,mk2 ⟨V,hV,v,cV,.inl rfl⟩⟩
   ·refine .inl ⟨A0,_,_,B0,(u,v),rfl,rfl,.inl rfl,four_crs hw.left hw.right o1 o2 pl qr pb qf,mk _ ⟨V,hV,v,cV,.inr rfl⟩ ⟨U,hU,w.1,cU.turn.turn,.inl rfl⟩,n1,?_,?_⟩
    ·unfold up;simp only;constructor
     ·rintro (⟨k,_⟩ | ⟨_,k⟩);exact absurd k d2;exact .inr ⟨d2,k⟩
     ·rintro (⟨k,_⟩ | ⟨_,k⟩);exact absurd k d2;exact .inr ⟨d2,k⟩
    ·unfold up;simp
   ·refine .inl ⟨A0,_,_,B0,(v,u),rfl,rfl,.inr rfl,four_crs2 hw.left hw.right o1 o2 pr ql pb qf,mk _ ⟨U,hU,v,cU.turn,.inl rfl⟩ ⟨V,hV,w.2,cV.turn.turn,.inr rfl⟩,n2,?_,?_⟩
    ·unfold up;simp
    ·unfold up;simp only;constructor
     ·rintro (⟨k,_⟩ | ⟨_,k⟩);exact absurd k d6;exact .inr ⟨d6,k⟩
     ·rintro (⟨k,_⟩ | ⟨_,k⟩);exact absurd k d6;exact .inr ⟨d6,k⟩
   ·exact .inr ⟨by omega,mk2 ⟨U,hU,v,cU.turn,.inr rfl⟩⟩
theorem Ch.stays {W H:Int} {L:List Tri3} (h:Tiles W H L) {a b:Pt} {A B:List (Pt×Pt)} {w:Pt×Pt} (hP:Ch L a b none (A ++ w :: B)) (hx:∀ e∈A ++ w :: B,Crs a b e.1 e.2) {S R:Tri3} {u v:Pt} (hA:At L w S R u v) (ho:¬ (0 < det v w.1 u/\0 < det u w.2 v)) (hl:A=[]\/∃ A0 p,A=A0 ++ [p]/\up a b p w):∃ q B0,B=q :: B0/\up a b w q:=by
 have hw:=hx w (by simp);have za:det a b a=0:=by unfold det;grind
 have zb:det a b b=0:=by unfold det;grind
 obtain ⟨hp1,hq1⟩:=qB.1 hP;have wl:=hw.left;have wr:=hw.right;have tS:=h.cyc_pos hA.inS hA.cS;have tR:=h.cyc_pos hA.inR hA.cR;obtain ⟨d1,d2,d3⟩:=zL tS;obtain ⟨d4,d5,d6⟩:=zL tR;have hu:(det a b u<=det a b w.1/\det a b w.2<=det a b u)/\(det a b u < det a b w.1\/det a b w.2 < det a b u)/\(det a b u=0\/(0 < det a b u\/det a b u < 0)):=by
  rcases hl with rfl | ⟨A0,p,rfl,hup⟩
  ·have eu:u=a:=hA.first h hp1;rw [eu,za];omega
  ·have hxp:=hx p (by simp);have pl:=hxp.left;have pr:=hxp.right;obtain ⟨_,k2⟩:=vw.1 hp1;rcases hA.ahead h k2 with rfl | rfl <;> simp only at pl pr
   ·rcases hup with ⟨_,k⟩ | ⟨k,_⟩
    ·simp only at k;omega
    ·exact absurd rfl k
   ·rcases hup with ⟨k,_⟩ | ⟨_,k⟩
    ·exact absurd k d6
    ·simp only at k;omega
 cases B with
 | nil=>
  exfalso
  have ev:v=b:=hA.last h hq1;refine ho (jX wl wr tS tR (by omega) (by rw [ev,zb];omega) (by rw [ev,zb];omega) (by omega) (by rw [ev,zb];omega) (by rw [ev,zb];omega))
 | cons q B0=>
  refine ⟨q,B0,rfl,Xj λhn=>?_⟩;have hxq:=hx q (by simp);have ql:=hxq.left;have qr:=hxq.right;obtain ⟨j1,_⟩:=qX.1 hq1;rcases hA.behind h j1 with rfl | rfl <;> simp only at ql qr
  ·have:¬ det a b w.1<=det a b v:=λk=>hn (.inl ⟨rfl,k⟩);exact ho (jX wl wr tS tR (by omega) (by omega) (by omega) (by omega) (by omega) (by omega))
  ·have:¬ det a b v<=det a b w.2:=λk=>hn (.inr ⟨d2,k⟩);exact ho (jX wl wr tS tR (by omega) (by omega) (by omega) (by omega) (by omega) (by omega))
theorem meet_crs {a b c d:Pt} (h:meetR a b c d=1):Crs a b c d\/Crs a b d c:=by
 rw [tH] at h;obtain ⟨_,h1,h2⟩:=h;have e1:det d c a = - det c d a:=by unfold det;grind
 have e2:det d c b = - det c d b:=by unfold det;grind
 have e3:det d c a+det c d b=det a b c - det a b d:=by unfold det;grind
 rcases h1 with ⟨k1,k2⟩ | ⟨k1,k2⟩ <;> rcases h2 with ⟨j1,j2⟩ | ⟨j1,j2⟩
 ·omega
 ·exact .inl ⟨k1,k2,by omega,by omega⟩
 ·exact .inr ⟨k2,k1,by omega,by omega⟩
 ·omega
theorem uk {α:Type} [DecidableEq α]:∀ {l m:List α},l.Nodup->(∀ x∈l,x∈m)->l.length<=m.length
 | [],_,_,_=>XZ _
 | x :: l,m,hd,h=>by
  rw [Xn] at hd;have hx:=h x (by simp);have k:=uk (l:=l) (m:=m.erase x) hd.2 (λy hy=>(List.mem_erase_of_ne (λe:y=x=>hd.1 (by rw [<-e];exact hy))).2 (h y (X6 _ hy)));rw [List.length_erase_of_mem hx] at k;have:=List.length_pos_of_mem hx;simp;omega
def edgeL (L:List Tri3) (a b:Pt):Prop:=(a,b)∈L.flatMap ways\/(b,a)∈L.flatMap ways
theorem edgeL.turn {L:List Tri3} {a b:Pt} (h:edgeL L a b):edgeL L b a:=h.elim .inr .inl
theorem tZ (a b q:Pt):det a b q=ff (-(b.y - a.y)) (b.x - a.x) q - ff (-(b.y - a.y)) (b.x - a.x) a:=by unfold det ff;grind
theorem Zn {T:Tri3} {x y z p:Pt} (hc:Cyc T x y z) (hp:0 < det x y z) (ho:onS p x y=true):hasT T p:=by
 obtain ⟨n1,n2,n3⟩:=zL hp;have hz:det x y p=0:=by
  rw [on_eq] at ho;unfold onR at ho;simp only [Yf,Yh] at ho;exact ho.2.2.2.1
 have k1:0<=det y z p:=by
  have:=(on_ff (-(z.y - y.y)) (z.x - y.x) n1 ho (m:=ff (-(z.y - y.y)) (z.x - y.x) y)).2 (by
   have e:=tZ y z x;have:det y z x=det x y z:=zX x y z;omega) (Jp _)
  have e:=tZ y z p;omega
 have k2:0<=det z x p:=by
  have:=(on_ff (-(x.y - z.y)) (x.x - z.x) n1 ho (m:=ff (-(x.y - z.y)) (x.x - z.x) x)).2 (Jp _) (by
   have e:=tZ z x y;have e2:det z x y=det x y z:=by unfold det;grind
   have e3:=tZ z x x;have e4:det z x x=0:=by unfold det;grind
   omega)
  have e:=tZ z x p;have e3:=tZ z x x;have e4:det z x x=0:=by unfold det;grind
  omega
 rcases hc with ⟨rfl,rfl,rfl⟩ | ⟨rfl,rfl,rfl⟩ | ⟨rfl,rfl,rfl⟩
 ·exact ⟨by omega,k1,k2⟩
 ·exact ⟨k2,by omega,k1⟩
 ·exact ⟨k1,k2,by omega⟩
section
variable {W H:Int} {L:List Tri3} (h:Tiles W H L)
include h
theorem Tiles.way_of {a b:Pt} (hm:(a,b)∈L.flatMap ways):∃ T∈L,∃ c,Cyc T a b c/\0 < det a b c:=by
 obtain ⟨T,hT,k⟩:=Yw.1 hm;obtain ⟨c,hc⟩:=xJ k;exact ⟨T,hT,c,hc,h.cyc_pos hT hc⟩
theorem Tiles.corner_in {a b p:Pt} (he:edgeL L a b) (hp:someC L p) (ho:onS p a b=true):p=a\/p=b:=by
 have main:∀ {a b:Pt},(a,b)∈L.flatMap ways->onS p a b=true->p=a\/p=b:=by
  intro a b hm ho;obtain ⟨T,hT,c,hc,hpos⟩:=h.way_of hm;obtain ⟨S,hS,hcn⟩:=hp;rcases (hc.cnr_iff p).1 (h.cnr_all hS hT hcn (Zn hc hpos ho)) with k | k | k
  ·exact .inl k
  ·exact .inr k
  ·exfalso
   rw [on_eq] at ho;unfold onR at ho;simp only [Yf,Yh] at ho;have:=ho.2.2.2.1;rw [k] at this;omega
 rcases he with he | he
 ·exact main he ho
 ·refine (main he ?_).symm;rw [on_eq] at ho ⊢;unfold onR btw at ho ⊢;simp only [Yf,Yh] at ho ⊢;obtain ⟨v1,v2,v3,z,b1,b2⟩:=ho;have:=zh a b p;exact ⟨v1,v3,v2,by omega,by omega,by omega⟩
theorem Tiles.cross_no {a b l r:Pt} (h1:(a,b)∈L.flatMap ways) (h2:(l,r)∈L.flatMap ways) (hx:Crs a b l r):False:=by
 obtain ⟨S,hS,s,cS,pS⟩:=h.way_of h1;obtain ⟨T,hT,u,cT,pT⟩:=h.way_of h2;obtain ⟨hl,hr,hbk,hfr⟩:=hx;have nab:=(zL pS).1;have hcr:crd a b ⟨r.x - l.x,r.y - l.y⟩=det a b r - det a b l:=by unfold crd det;grind
 obtain ⟨v,v1,v2⟩:=qg (a:=a) (b:=b) (d:=l) (e:=r) nab (λk=>by rw [hcr] at k;omega);have hM:0 < det a b l - det a b r:=by omega
 have mul2:∀ {x y:Int},0 < x->0 < y->0 < x * y:=λh1 h2=>Yu h1 h2;obtain ⟨M,eM⟩:∃ M,det a b l - det a b r=M:=⟨_,rfl⟩;rw [eM] at hM;obtain ⟨p,ep⟩:∃ p:Pt,p=⟨det a b l * r.x - det a b r * l.x,det a b l * r.y - det a b r * l.y⟩:=⟨_,rfl⟩;have a1:det (sc M a) (sc M b) p=0:=by rw [ep,<-eM];unfold det sc;grind
 have a2:det (sc M b) (sc M s) p=M * (det l r b * det a b s):=by rw [ep,<-eM];unfold det sc;grind
 have a3:det (sc M s) (sc M a) p=M * (det r l a * det a b s):=by rw [ep,<-eM];unfold det sc;grind
 have b1:det (sc M l) (sc M r) p=0:=by rw [ep,<-eM];unfold det sc;grind
 have b2:det (sc M r) (sc M u) p=M * (-(det a b r) * det l r u):=by rw [ep,<-eM];unfold det sc;grind
 have b3:det (sc M u) (sc M l) p=M * (det a b l * det l r u):=by rw [ep,<-eM];unfold det sc;grind
 have nS:near M S p v:=cS.near ⟨.inr ⟨a1,v1⟩,.inl (by rw [a2];exact mul2 hM (mul2 hfr pS)),.inl (by rw [a3];exact mul2 hM (mul2 hbk pS))⟩;have nT:near M T p v:=cT.near ⟨.inr ⟨b1,v2⟩,.inl (by rw [b2];exact mul2 hM (mul2 (by omega) pT)),.inl (by rw [b3];exact mul2 hM (mul2 hl pT))⟩;have e:=h.same hS hT hM nS nT;subst e;have z1:det a b a=0:=by unfold det;grind
 have z2:det a b b=0:=by unfold det;grind
 have m1:=(cS.cnr_iff l).1 cT.cnr;have m2:=(cS.cnr_iff r).1 cT.turn.cnr;rcases m1 with k | k | k
 ·rw [k] at hl;omega
 ·rw [k] at hl;omega
 ·rcases m2 with j | j | j
  ·rw [j] at hr;omega
  ·rw [j] at hr;omega
  ·rw [k] at hl;rw [j] at hr;omega
theorem Tiles.edge_box {a b:Pt} (he:edgeL L a b):(inBox W H a/\inBox W H b)/\(someC L a/\someC L b)/\a≠b:=by
 have main:∀ {a b:Pt},(a,b)∈L.flatMap ways->(inBox W H a/\inBox W H b)/\(someC L a/\someC L b)/\a≠b:=by
  intro a b hm;obtain ⟨T,hT,c,hc,hpos⟩:=h.way_of hm;exact ⟨⟨h.cyc_box hT hc,h.cyc_box hT hc.turn⟩,⟨⟨T,hT,hc.cnr⟩,T,hT,hc.turn.cnr⟩,(zL hpos).1⟩
 rcases he with he | he
 ·exact main he
 ·obtain ⟨⟨x1,x2⟩,⟨x3,x4⟩,x5⟩:=main he;exact ⟨⟨x2,x1⟩,⟨x4,x3⟩,x5.symm⟩
theorem Tiles.edges_apart (hW:W < 16777216) (hH:H < 16777216) {a b c d:Pt} (e1:edgeL L a b) (e2:edgeL L c d) (hne:¬ ((a=c/\b=d)\/(a=d/\b=c))):meetS a b c d=0:=by
 have vb:∀ q,inBox W H q->vld q=true:=λq hq=>by rw [zZ];unfold inBox at hq;omega
 obtain ⟨⟨ba,bb⟩,⟨ca,cb⟩,nab⟩:=h.edge_box e1;obtain ⟨⟨bc,bd⟩,⟨cc,cd⟩,ncd⟩:=h.edge_box e2;have s:Seg2 a b c d:=⟨vb _ ba,vb _ bb,vb _ bc,vb _ bd,nab,ncd⟩;have other:∀ {l r:Pt},edgeL L l r->Crs a b l r->(l,r)∈L.flatMap ways:=λ{l r} he hx=>by
  rcases he with he | he
  ·exact he
  ·exact (h.other ba bb hx).2 he
 have ncross:∀ {l r:Pt},edgeL L l r->Crs a b l r->False:=λ{l r} he hx=>by
  rcases e1 with k | k
  ·exact h.cross_no k (other he hx) hx
  ·exact h.cross_no k ((h.other ba bb hx).1 (other he hx)) hx.turn
 have inno:∀ {p x y:Pt},edgeL L x y->someC L p->tch p x y=0:=λ{p x y} he hp=>by
  have k:=tch_bd p x y;refine Xj λhn=>?_;have ho:=tch_on hn;rcases h.corner_in he hp ho with e | e
  ·apply hn;unfold tch;subst e;rw [qL];split <;> simp
  ·apply hn;unfold tch;subst e;rw [qL];(repeat' split) <;> simp_all
 refine Xj λhn=>?_;by_cases hl:det a b c=0/\det a b d=0
 ·have hm:mil a b c d≠0:=by rw [<-yd s hl];exact hn
  rw [kM s] at hm;have hk:min (key a) (key b) < max (key c) (key d)/\min (key c) (key d) < max (key a) (key b):=by
   refine Xj λk=>hm ?_;rw [Ye k]
  have hl2:=ZB s hl;have n1:=key_n s;have n2:=key_n2 s;have nk:∀ {p q:Pt},vld p=true->vld q=true->key p=key q->p=q:=λhp hq e=>yK hp hq e;have on1:∀ {p:Pt},vld p=true->det a b p=0->someC L p->¬ (key a < key p/\key p < key b\/key b < key p/\key p < key a):=λ{p} vp hz hp k=>by
   have ho:=uj vp s.va s.vb hz (by omega);rcases h.corner_in e1 hp ho with e | e <;> rw [e] at k <;> omega
  have on2:∀ {p:Pt},vld p=true->det c d p=0->someC L p->¬ (key c < key p/\key p < key d\/key d < key p/\key p < key c):=λ{p} vp hz hp k=>by
   have ho:=uj vp s.vc s.vd hz (by omega);rcases h.corner_in e2 hp ho with e | e <;> rw [e] at k <;> omega
  have q1:=on1 s.vc hl.1 cc;have q2:=on1 s.vd hl.2 cd;have q3:=on2 s.va hl2.1 ca;have q4:=on2 s.vb hl2.2 cb;have:(key a=key c/\key b=key d)\/(key a=key d/\key b=key c):=by omega
  rcases this with ⟨k1,k2⟩ | ⟨k1,k2⟩
  ·exact hne (.inl ⟨nk s.va s.vc k1,nk s.vb s.vd k2⟩)
  ·exact hne (.inr ⟨nk s.va s.vd k1,nk s.vb s.vc k2⟩)
 ·rw [Y8,kN s hl] at hn;split at hn
  ·rename_i hc
   have h1:meetR a b c d=1:=by rw [kN s hl,Yn hc]
   rcases meet_crs h1 with k | k
   ·exact ncross e2 k
   ·exact ncross e2.turn k
  ·rw [inno e2 ca,inno e2 cb,inno e1 cc,inno e1 cd] at hn;exact hn rfl
end
theorem DocAt.turn {w w':World} {db b:Nat} {v:Value} {L:List Wl} {E:Es} (S:DocAt w db v L) (H:Hs w b E) (hg:w.grownBy w' (some b)):DocAt w' db v L:=
 ⟨S.box.turn H hg,S.row.kept hg (.inr (λe=>yP S.row H e.symm)),S.ne,S.le⟩
def insW (L:List Wl) (X:Wl) (k:Nat):List Wl:=L.take k ++ X :: L.drop k
def AddD (D:List Wl) (p:Pt) (D':List Wl):Prop:=
 (D.find? (onD p)=none/\D'=D)\/∃ X r D1 k1 k2,D.find? (onD p)=some X/\RemAt D (rl X.A X.B) (rg X.A X.B) r D1/\PutAt D1 ⟨X.A,p,X.K⟩ k1/\PutAt (insW D1 ⟨X.A,p,X.K⟩ k1) ⟨p,X.B,X.K⟩ k2/\D'=insW (insW D1 ⟨X.A,p,X.K⟩ k1) ⟨p,X.B,X.K⟩ k2
section
open Go.Lib Go.ChangeShapes Go.WideShapes Go.ChangeAt
theorem qa {L:List Wl} (h:Apart L) {i j:Nat} (hi:i < L.length) (hj:j < L.length) (hij:i≠j):meetS L[i].A L[i].B L[j].A L[j].B=0:=by
 unfold Apart at h;rw [Xk] at h;rcases Nat.lt_or_gt_of_ne hij with h1 | h1
 ·exact h i j hi hj h1
 ·rw [<-Z7];exact h j i hj hi h1
theorem kind_own {L:List Wl} (h:Apart L) (hg:∀ x∈L,GoodW x) {x:Wl} (hx:x∈L):kindW L x.A x.B=x.K:=by
 unfold kindW;cases hf:L.find? (isW x.A x.B) with
 | none=>
  have:=Xb.1 hf x hx;exact absurd (yw.2 ⟨rfl,rfl⟩) this
 | some y=>
  have hy:=XV hf;have e:=yw.1 (JF hf);obtain ⟨i,hi,rfl⟩:=Xz.1 hx;obtain ⟨j,hj,rfl⟩:=Xz.1 hy;by_cases hij:i=j
  ·subst hij;rfl
  ·exfalso
   have:=qa h hj hi (Ne.symm hij);rw [e.1,e.2] at this;exact xS (hg _ (Yx hi)) this
theorem add_zero {L:List Wl} {X:Wl} (h:addE L X=0):unm X=false/\clashW L X.A X.B=0:=by
 unfold addE at h;cases hu:unm X with
 | true=>rw [hu,Yn rfl] at h;cases h
 | false=>rw [hu,Ye (by simp)] at h;exact ⟨rfl,h⟩
theorem set_new {L:List Wl} (hr:Ris L) (h:Apart L) (hg:∀ x∈L,GoodW x):srt cmpW L=L/\L.any unm=false/\(¬ ∃ (i:Nat) (h:i+1 < L.length),adjB L[i] L[i+1]=true)/\¬ ∃ (k:Nat) (h:k < L.length),hitB (L.take k) L[k]=true:=by
 refine ⟨(wholeW.srt_eq (Q5 L) (hr.imp λh=>by omega)).symm,?_,?_,?_⟩
 ·rw [List.any_eq_false];intro x hx;rw [ZF (hg x hx)];simp
 ·rintro ⟨i,hi,e⟩;unfold adjB at e;simp only [Yf,Yh] at e;have:=qa h (show i < L.length by omega) hi (by omega);rw [e.1,e.2] at this;exact xS (hg _ (Yx hi)) this
 ·rintro ⟨k,hk,e⟩;unfold hitB at e;rw [Jn] at e;obtain ⟨y,hy,hb⟩:=e;have hy2:y∈L.take k:=by
   have:=XR.1 hy;have sub:∀ (M o:List Wl) (z:Wl),z∈M.foldl (λo x=>o.filter (λy => !gone x y) ++ [x]) o->z∈o\/z∈M:=by
    intro M;induction M with
    | nil=>intro o z hz;exact .inl hz
    | cons x M ih=>
     intro o z hz;rcases ih _ z hz with h1 | h1
     ·rcases Ys.1 h1 with h1 | h1
      ·exact .inl (XR.1 h1).1
      ·exact .inr (Yg.2 (.inl (by simpa using h1)))
     ·exact .inr (Yg.2 (.inr h1))
   rcases sub (L.take k) [] y this.1 with h1 | h1
   ·cases h1
   ·exact h1
  obtain ⟨j,hj,rfl⟩:=J1.1 hy2;unfold bar1 at hb;simp only [Yf,Yh] at hb;exact hb.2 (qa h (by omega) hk (by omega))
theorem new_set {a:Option Addr} {c:Nat} {L:List Wl} (hL:L.length < 1000000) (hf:Flat a) (hz:a=none->L=[]) (hr:Ris L) (h:Apart L) (hg:∀ x∈L,GoodW x) (w:World) (hrow:RowAt cW 5 w a L):Calls prog 39 #[.slice a L.length c] w λe w'=>∃ sb v,e=.returned (.tuple #[pt0 sb,()])/\SetAt w' sb v L/\w.heap.size<=sb/\(∀ g,v.ownBlock=some g->w.heap.size<=g)/\Below w w w':=by
 obtain ⟨h1,h2,h3,h4⟩:=set_new hr h hg;refine (new_ok a c L hL hf hz L h1 false rfl (iff_no h3) false rfl (iff_no h4) h2 w hrow).mono ?_;rintro e w' ⟨sb,v,rfl,h1,h2,h3,h4,h5⟩;exact ⟨sb,v,rfl,⟨h1,h2.base (XZ _),h4,by omega,hr,hg⟩,h3,λg e=>(h2.lt g e).1,h5⟩
end
theorem good_mk {X:Wl} (hX:GoodW X):mkOk X.A X.B 1=true:=by
 have hab:X.A≠X.B:=λe=>by have:=hX.ab;rw [e,zc.2 rfl] at this;omega
 unfold mkOk mkK;simp [hX.va,hX.vb,hab]
theorem clash_ok {L:List Wl} {X:Wl} (hX:GoodW X) (hm:∀ x∈L,meetS x.A x.B X.A X.B=0):clashW L X.A X.B=0:=by
 obtain ⟨hA,hB⟩:=ky hX;unfold clashW;rw [hA,hB,Yn (good_mk hX)];have hk:kindW L X.A X.B=0:=by
  unfold kindW;cases hf:L.find? (isW X.A X.B) with
  | none=>rfl
  | some y=>
   exfalso
   have hy:=XV hf;have e:=yw.1 (JF hf);have:=hm y hy;rw [e.1,e.2] at this;exact xS hX this
 rw [Yn hk,Ye];intro h;rw [Jn] at h;obtain ⟨x,hx,hb⟩:=h;unfold bar1 at hb;simp only [Yf,Yh] at hb;exact hb.2 (hm x (XR.1 hx).1)
theorem add_ok_of {L:List Wl} {X:Wl} (hX:GoodW X) (hm:∀ x∈L,meetS x.A x.B X.A X.B=0):addE L X=0:=by
 unfold addE;rw [ZF hX,Ye (by simp)];exact clash_ok hX hm
theorem addL_perm {L:List Wl} {X:Wl} (h:addE L X=0):(addL L X).Perm (X :: L):=by
 unfold addL;rw [Yn (add_zero h)];have:=KM (a:=X) (l₁:=L.take (posW L X.A X.B)) (l₂:=L.drop (posW L X.A X.B))
 rwa [X9] at this
theorem qZ {L M:List Wl} (hp:L.Perm M) (h:Apart L):Apart M:=(hp.pairwise_iff (λ{x y} e=>by rw [<-Z7];exact e)).1 h
theorem Zf {I T:List Wl} (h:Apart I) (hg:∀ x∈I,GoodW x) {i:Nat} (hi:i < I.length) (hT:T.Perm (I.drop (i+1))):addE T I[i]=0/\(addL T I[i]).Perm (I.drop i):=by
 have he:addE T I[i]=0:=add_ok_of (hg _ (Yx hi)) (λx hx=>by
  have hx2:=hT.mem_iff.1 hx;obtain ⟨j,hj,rfl⟩:=List.mem_drop_iff_getElem.1 hx2;exact qa h (by omega) hi (by omega))
 refine ⟨he,(addL_perm he).trans ?_⟩;rw [<-Ko hi];exact hT.cons _
end
section
open Go.RowKit Go.Sort
attribute [local go_sem] rOper rAt rUpon cell_set sg_i64 sg_u64 alloc_cell alloc_frozen
attribute [local go_sem 10000] pt_eql pt_neq wal_eql wal_neq
attribute [local irreducible] rWalk
def hitD (a b:Pt) (x:Wl):Bool:=decide (meetR a b x.A x.B≠0)
def clashD (L:List Wl) (a b:Pt):Int:=if mkOk a b 1=true then (if kindD L a b=0 then (if L.any (hitD a b)=true then 7 else 0) else 5) else 2
def addDE (L:List Wl) (X:Wl):Int:=if unm X=true then 2 else clashD L X.A X.B
def AddAt (L:List Wl) (X:Wl) (r:Int) (L':List Wl):Prop:=r=addDE L X/\((r≠0/\L'=L)\/(r=0/\∃ k,PutAt L X k/\L'=L.take k ++ X :: L.drop k))
inductive AddsOk:List Wl->List Wl->Prop where
 | nil:AddsOk [] []
 | snoc {I S S':List Wl} {x:Wl}:AddsOk I S->AddAt S x 0 S'->AddsOk (I ++ [x]) S'
theorem AddsOk.len {I S:List Wl} (h:AddsOk I S):S.length=I.length:=by
 induction h with
 | nil=>rfl
 | snoc _ ha ih=>
  obtain ⟨_,⟨h0,_⟩ | ⟨_,k,hp,rfl⟩⟩:=ha
  ·exact absurd rfl h0
  ·have:=hp.1;simp only [Yi,X4,XO,X7,Kn];omega
theorem AddsOk.sub {I S:List Wl} (h:AddsOk I S):∀ x∈S,x∈I:=by
 induction h with
 | nil=>exact λx h=>h
 | snoc _ ha ih=>
  obtain ⟨_,⟨h0,_⟩ | ⟨_,k,hp,rfl⟩⟩:=ha
  ·exact absurd rfl h0
  ·intro x hx;rcases Ys.1 hx with hx | hx
   ·exact XP _ (ih x (Kd hx))
   ·rcases Yg.1 hx with rfl | hx
    ·exact XJ _ Yy
    ·exact XP _ (ih x (JB hx))
section
open Go.Lib
theorem kV {p q:Wl->Bool}:∀ {L:List Wl},(∀ x∈L,p x=q x)->L.find? p=L.find? q
 | [],_=>rfl
 | x :: L,h=>by
  rw [List.find?_cons,List.find?_cons,h x Yy,kV λy hy=>h y (X6 _ hy)]
theorem isE_lo {p q:Pt} {x:Wl} (hx:GoodW x):isE p q x=isW (lo2 p q) (hi2 p q) x:=by
 rw [Xv];simp only [isE,isW,KS,Yf,Yh];have hab:=hx.ab;have hn:=zv p q;unfold lo2 hi2;by_cases h:cmpP q p < 0
 ·rw [Yn h,Yn h];constructor
  ·rintro (⟨e1,e2⟩ | h2)
   ·rw [e1,e2] at hab;omega
   ·exact h2
  ·exact λh2=>.inr h2
 ·rw [Ye h,Ye h];constructor
  ·rintro (h1 | ⟨e1,e2⟩)
   ·exact h1
   ·rw [e1,e2] at hab;exact absurd hab h
  ·exact λh2=>.inl h2
theorem uD {L:List Wl} (hg:∀ x∈L,GoodW x) (p q:Pt):kindD L p q=kindW L (lo2 p q) (hi2 p q):=by
 unfold kindD kindW;rw [kV (q:=isW (lo2 p q) (hi2 p q)) λx hx=>isE_lo (hg x hx)];all_goals (cases L.find? (isW (lo2 p q) (hi2 p q)) <;> rfl)
theorem good_mk2 {a b:Pt} {k:Int} (h:mkOk a b k=true):GoodW ⟨lo2 a b,hi2 a b,k⟩:=by
 unfold mkOk mkK at h;simp only [Yf,KS,Yh,Kg,KI] at h;obtain ⟨hk,hab,ha,hb⟩:=h;have hn:=zv a b;have h0:cmpP a b≠0:=λe=>hab (zc.1 e);unfold lo2 hi2;by_cases h:cmpP b a < 0
 ·rw [Yn h,Yn h];exact ⟨hb,ha,h,hk⟩
 ·rw [Ye h,Ye h];exact ⟨ha,hb,by show cmpP a b < 0;omega,hk⟩
theorem Zl (a b:Pt):rl a b=lo2 a b/\rg a b=hi2 a b:=by
 by_cases h:a=b
 ·subst h;unfold rl rg lo2 hi2;rw [zc.2 rfl];exact ⟨rfl,rfl⟩
 ·exact rl_lo h
theorem rem_at {L:List Wl} (hr:Ris L) (ha:Apart L) (hg:∀ x∈L,GoodW x) {a b:Pt} {r:Int} {L':List Wl} (h:RemAt L (rl a b) (rg a b) r L'):r=remE L (lo2 a b) (hi2 a b)/\L'=remL L (lo2 a b) (hi2 a b):=by
 rw [(Zl a b).1,(Zl a b).2] at h;have hK:∀ x∈L,0 < x.K:=λx hx=>by have:=(hg x hx).k;omega
 generalize lo2 a b=p at *
 generalize hi2 a b=q at *
 unfold remE remL;cases hf:fnd L (posW L p q) p q with
 | true=>
  obtain ⟨hm,_,e1,e2⟩:=kT hr hf hK;rw [Yn rfl,Yn rfl];rcases h with ⟨_,_,h3⟩ | ⟨h1,k,hk,h2,h3⟩
  ·have:=h3 _ (Yx hm);rw [yw.2 ⟨e1,e2⟩] at this;cases this
  ·refine ⟨h1,?_⟩;have hkm:k=posW L p q:=by
    by_cases e:k=posW L p q
    ·exact e
    ·exfalso
     obtain ⟨e3,e4⟩:=yw.1 h2;have h0:=qa ha hk hm e;rw [e1,e2,<-e3,<-e4] at h0;exact xS (hg _ (Yx hk)) h0
   rw [h3,hkm]
 | false=>
  have hn:=jb hr hf hK;rw [Ye (by simp),Ye (by simp)];rcases h with ⟨h1,h2,_⟩ | ⟨_,k,hk,h2,_⟩
  ·exact ⟨h1,h2⟩
  ·exfalso
   have:=Xb.1 hn _ (Yx hk);exact this h2
theorem Y4 {p:Pt} {x:Wl} (hx:GoodW x) (h:onR p x.A x.B=true) (hne:p≠x.A):cmpP x.A p<=0/\bsd x p p=false:=by
 unfold onR at h;simp only [Yf,Yh] at h;obtain ⟨_,_,_,hd,h1,h2⟩:=h;unfold btw at h1 h2;simp only [Yh] at h1 h2;have hab:=tJ.1 hx.ab;have hx1:x.A.x<=p.x/\p.x<=x.B.x:=by omega
 refine ⟨?_,?_⟩
 ·by_cases hlt:x.A.x < p.x
  ·have:cmpP x.A p < 0:=tJ.2 (.inl hlt);omega
  ·have e:p.x=x.A.x:=by omega
   rcases hab with hb | ⟨e2,hb⟩
   ·exfalso
    unfold det at hd;rw [e] at hd;have h3:(x.B.x - x.A.x) * (p.y - x.A.y)=0:=by grind
    rcases Yl.1 h3 with h4 | h4
    ·omega
    ·exact hne (Pt.eq_iff.2 ⟨e,by omega⟩)
   ·have h3:x.A.y<=p.y:=by omega
    rcases XY h3 with h4 | h4
    ·have:cmpP x.A p < 0:=tJ.2 (.inr ⟨by omega,h4⟩);omega
    ·exact absurd (Pt.eq_iff.2 ⟨e,by omega⟩) hne
 ·unfold bsd mxI mnI;simp only [Bool.or_eq_false_iff,KI];refine ⟨by omega,by omega,?_,?_⟩ <;> (repeat' split) <;> omega
theorem Y0 {L:List Wl} (hr:Ris L) (hg:∀ x∈L,GoodW x) (p:Pt):L.find? (onD p)=(bgL L p).find? (onW p):=by
 have e1:(bgL L p).find? (onW p)=(bgL L p).find? (onD p):=kV λx hx=>by
  have hxL:=(XR.1 hx).1;unfold onW onD;rw [on_eq];by_cases h1:x.A=p
  ·simp [h1]
  ·by_cases h2:x.B=p
   ·simp [h2]
   ·have h3:¬ p=x.A:=λe=>h1 e.symm;have h4:¬ p=x.B:=λe=>h2 e.symm;cases ho:onR p x.A x.B with
    | false=>simp
    | true=>simp [h1,h2,h3,h4,(Y4 (hg x hxL) ho h3).2]
 rw [e1];obtain ⟨_,_,h3⟩:=j9 hr p;have hsplit:L=bgL L p ++ L.drop (bgL L p).length:=by
  conv=>lhs;rw [<-X9 (bgL L p).length L,h3]
 have hnone:(L.drop (bgL L p).length).find? (onD p)=none:=by
  rw [Xb];intro x hx ho;have hxL:=JB hx;unfold onD at ho;simp only [Yf,Kg,KI] at ho;have hc:=(Y4 (hg x hxL) ho.2.2 ho.1).1;obtain ⟨j,hj,rfl⟩:=Xz.1 hx;rw [Jd] at hc;rw [X7] at hj;have h4:=((j9 hr p).1 ((bgL L p).length+j) (by omega)).1 (bgn_lt.2 hc);omega
 conv=>lhs;rw [hsplit]
 rw [JE,hnone,Option.or_none]
end
theorem uu {E:Es} {L M:List Tri3} (g:Good E L) (k:Good E M):L.Perm M:=g.heads.symm.trans k.heads
theorem vB (p a b:Pt):onS p b a=onS p a b:=by
 rw [on_eq,on_eq,Xv];unfold onR btw;simp only [Yf,Yh];have:=zh a b p;constructor <;> rintro ⟨v1,v2,v3,z,b1,b2⟩ <;> exact ⟨v1,v3,v2,by omega,by omega,by omega⟩
theorem has_on {a b c p:Pt} (hp:0 < det a b c) (va:vld a=true) (vb:vld b=true) (vp:vld p=true) (z:det a b p=0) (k1:0<=det b c p) (k2:0<=det c a p):onS p a b=true:=by
 have e:det a b c=det a b p+det b c p+det c a p:=by unfold det;grind
 have x1:det a b c * (p.x - a.x)=det c a p * (b.x - a.x):=by
  have:det a b c * (p.x - a.x)=det c a p * (b.x - a.x)+det a b p * (c.x - a.x):=by unfold det;grind
  rw [this,z,XU,Ks]
 have x2:det a b c * (p.y - a.y)=det c a p * (b.y - a.y):=by
  have:det a b c * (p.y - a.y)=det c a p * (b.y - a.y)+det a b p * (c.y - a.y):=by unfold det;grind
  rw [this,z,XU,Ks]
 have y1:=Zs hp k2 (by omega) x1;have y2:=Zs hp k2 (by omega) x2;rw [on_eq];unfold onR;rw [va,vb,vp,z,y1,y2];rfl
theorem tz {p a b:Pt} (h:onS p a b=true):det a b p=0:=by
 rw [on_eq] at h;unfold onR at h;simp only [Yf,Yh] at h;exact h.2.2.2.1
theorem qb {a b c p:Pt} (hp:0 < det a b c) (z1:det a b p=0) (z2:det b c p=0):p=b:=by
 have x1:det a b c * (p.x - b.x)=0:=by
  have:det a b c * (p.x - b.x)=det b c p * (a.x - b.x)+det a b p * (c.x - b.x):=by unfold det;grind
  rw [this,z1,z2];simp
 have x2:det a b c * (p.y - b.y)=0:=by
  have:det a b c * (p.y - b.y)=det b c p * (a.y - b.y)+det a b p * (c.y - b.y):=by unfold det;grind
  rw [this,z1,z2];simp
 rcases Yl.1 x1 with k | k
 ·omega
 ·rcases Yl.1 x2 with j | j
  ·omega
  ·exact Pt.eq_iff.2 ⟨by omega,by omega⟩
section
variable {W H:Int} {E:Es} {L:List Tri3} {p:Pt} (hW:W < 16777216) (hH:H < 16777216) (g:Good E L) (t:Tiles W H L)
include hW hH g t
theorem add_edges (hW0:0 < W) (hH0:0 < H) (hp:inBox W H p) (hn:¬ someC L p) {L1:List Tri3} (g1:Good (addPE E p) L1):(∀ a b,(a,b)∈L.flatMap ways->onS p a b=false->(a,b)∈L1.flatMap ways)/\(∀ a b,(a,b)∈L.flatMap ways->onS p a b=true->(a,p)∈L1.flatMap ways/\(p,b)∈L1.flatMap ways):=by
 have vb:∀ q,inBox W H q->vld q=true:=λq hq=>by rw [zZ];unfold inBox at hq;omega
 have vp:=vb _ hp;obtain ⟨h1,h2⟩:=tQ hW hH g hp;have hn':∀ T∈L,¬ isCnr T p:=λT hT hc=>hn ⟨T,hT,hc⟩;obtain ⟨F,hF,f1,f2⟩:=t.spots hW0 hH0 hp hn' h2;have fa:=h1.trans f1;have hcut:∀ T∈atE E p,(cutS p T).Perm (cutP p T):=by
  intro T hT;have hm:=XR.1 (h1.mem_iff.1 hT);have hc:=hn' T hm.1;have:cutOk T p=true:=by
   unfold cutOk isCnr at *;simp only [QD] at hc;rw [hm.2,y9.2 hc.1,y9.2 hc.2.1,y9.2 hc.2.2];rfl
  unfold cutS cutR;rw [Yn this];exact zd _
 obtain ⟨t',tv⟩:=uQ t hW0 hH0 hW hH hp hn' hF f2;have pI:((atE E p).flatMap (cutS p)).Perm (F.flatMap (cutP p)):=(jJ hcut).trans (fa.flatMap_right _);have g2:Good (addPE E p) ((atE E p).flatMap (cutS p) ++ L.filter (λx => !hasP x p)):=by
  unfold addPE;rw [ja];have k:=Good.takesF (F:=atE E p) (E:=E) (M:=L.filter λx => !hasP x p) (g.order (f2.trans (fa.symm.append_right _)));refine Good.putsF k (λU hU=>(tv U (pI.mem_iff.1 hU)).1) ?_;exact (zi (pI.append_right _)).nodup_iff.2 t'.once
 have pL:=zi (uu g2 g1);have inC:∀ {T U:Tri3} {w:Pt×Pt},T∈L->hasP T p=true->U∈cutP p T->w∈ways U->w∈L1.flatMap ways:=λ{T U w} hT hh hU hw=>by
  have hA:T∈atE E p:=h1.mem_iff.2 (XR.2 ⟨hT,hh⟩);exact pL.mem_iff.1 (Yw.2 ⟨U,XP _ (Yw.2 ⟨T,hA,(hcut T hA).mem_iff.2 hU⟩),hw⟩)
 constructor
 ·intro a b hm ho;obtain ⟨T,hT,c,hc,hpos⟩:=t.way_of hm;by_cases hh:hasP T p=true
  ·have hs:=(h2 T hT).1 hh;have bx:=t.cyc_box hT hc;have by':=t.cyc_box hT hc.turn;have d3:0<=det a b p/\0<=det b c p/\0<=det c a p:=by
    rcases hc with ⟨rfl,rfl,rfl⟩ | ⟨rfl,rfl,rfl⟩ | ⟨rfl,rfl,rfl⟩
    ·exact hs
    ·exact ⟨hs.2.1,hs.2.2,hs.1⟩
    ·exact ⟨hs.2.2,hs.1,hs.2.1⟩
   have hd:0 < det a b p:=by
    rcases XY d3.1 with k | k
    ·exact k
    ·rw [has_on hpos (vb _ bx) (vb _ by') vp k.symm d3.2.1 d3.2.2] at ho;cases ho
   have hU:mk a b p∈cutP p T:=by
    rw [(xH hc p).mem_iff,zf (vb _ bx) (vb _ by') vp hd];simp
   exact inC hT hh hU (zj (vb _ bx) (vb _ by') vp hd).1.way
  ·exact pL.mem_iff.1 (Yw.2 ⟨T,XJ _ (XR.2 ⟨hT,by simpa using hh⟩),hc.way⟩)
 ·intro a b hm ho;obtain ⟨T,hT,c,hc,hpos⟩:=t.way_of hm;have hh:=Zn hc hpos ho;have hhP:=(h2 T hT).2 hh;have hz:=tz ho;have bx:=t.cyc_box hT hc;have by':=t.cyc_box hT hc.turn;have bz:=t.cyc_box hT hc.turn.turn;have hcn:¬ (p=a\/p=b\/p=c):=λk=>hn' T hT ((hc.cnr_iff p).2 k);simp only [QD] at hcn;have d3:0<=det b c p/\0<=det c a p:=by
   rcases hc with ⟨rfl,rfl,rfl⟩ | ⟨rfl,rfl,rfl⟩ | ⟨rfl,rfl,rfl⟩
   ·exact hh.2
   ·exact ⟨hh.2.2,hh.1⟩
   ·exact ⟨hh.1,hh.2.1⟩
  have e2:det c a b=det a b c:=by unfold det;grind
  have d4:0 < det b c p:=by
   rcases XY d3.1 with k | k
   ·exact k
   ·exact absurd (qb hpos hz k.symm) hcn.2.1
  have d5:0 < det c a p:=by
   rcases XY d3.2 with k | k
   ·exact k
   ·exact absurd (qb (a:=c) (b:=a) (c:=b) (by omega) k.symm hz) hcn.1
  have hU:mk b c p∈cutP p T:=by
   rw [(xH hc p).mem_iff,zf (vb _ by') (vb _ bz) vp d4];simp
  have hV:mk c a p∈cutP p T:=by
   rw [(xH hc p).mem_iff,zf (vb _ bz) (vb _ bx) vp d5];simp
  exact ⟨inC hT hhP hV (zj (vb _ bz) (vb _ bx) vp d5).1.turn.way,inC hT hhP hU (zj (vb _ by') (vb _ bz) vp d4).1.turn.turn.way⟩
omit hW hH g in
theorem on_single (hn:¬ someC L p) {a b c d:Pt} (e1:edgeL L a b) (e2:edgeL L c d) (o1:onS p a b=true) (o2:onS p c d=true):(a=c/\b=d)\/(a=d/\b=c):=by
 have main:∀ {a b c d:Pt},(a,b)∈L.flatMap ways->(c,d)∈L.flatMap ways->onS p a b=true->onS p c d=true->(a=c/\b=d)\/(a=d/\b=c):=by
  intro a b c d m1 m2 o1 o2;obtain ⟨S,hS,s,cS,pS⟩:=t.way_of m1;obtain ⟨T,hT,u,cT,pT⟩:=t.way_of m2;have hh:=Zn cT pT o2;have h1:=Zn cS pS o1;have z1:=tz o1;have z2:=tz o2;have nS:¬ (p=a\/p=b\/p=s):=λk=>hn ⟨S,hS,(cS.cnr_iff p).2 k⟩;have nT:¬ (p=c\/p=d\/p=u):=λk=>hn ⟨T,hT,(cT.cnr_iff p).2 k⟩;simp only [QD] at nS nT;have d3:0<=det b s p/\0<=det s a p:=by
   rcases cS with ⟨rfl,rfl,rfl⟩ | ⟨rfl,rfl,rfl⟩ | ⟨rfl,rfl,rfl⟩
   ·exact h1.2
   ·exact ⟨h1.2.2,h1.1⟩
   ·exact ⟨h1.1,h1.2.1⟩
  have hedg:edg a b s p:=by
   refine ⟨z1,?_,?_⟩
   ·rcases XY d3.1 with k | k
    ·exact k
    ·exact absurd (qb pS z1 k.symm) nS.2.1
   ·rcases XY d3.2 with k | k
    ·exact k
    ·have e2:det s a b=det a b s:=by unfold det;grind
     exact absurd (qb (a:=s) (b:=a) (c:=b) (by omega) k.symm z1) nS.1
  have hcT:¬ isCnr T p:=λk=>by
   have:=(cT.cnr_iff p).1 k;simp only [nT,or_self] at this
  have same:∀ {x y:Pt},(x,y)∈ways T->det x y p=0->x=c/\y=d:=by
   intro x y hw hz;have:=cT.ways.mem_iff.1 hw;simp only [Yg,XS,Ym,XG] at this;rcases this with k | ⟨k1,k2⟩ | ⟨k1,k2⟩ <;> try rw [k1,k2] at hz
   ·exact k
   ·exact absurd (qb pT z2 hz) nT.2.1
   ·have e2:det u c d=det c d u:=by unfold det;grind
    exact absurd (qb (a:=u) (b:=c) (c:=d) (by omega) hz z2) nT.1
  rcases t.edg_two hS hT cS hedg hh hcT with e | ⟨k,_⟩
  ·rw [e] at same;exact .inl (same cS.way z1)
  ·have:=same k (by have:=zh a b p;omega);exact .inr ⟨this.2,this.1⟩
 rcases e1 with e1 | e1 <;> rcases e2 with e2 | e2
 ·exact main e1 e2 o1 o2
 ·rw [<-vB] at o2;rcases main e1 e2 o1 o2 with ⟨k1,k2⟩ | ⟨k1,k2⟩
  ·exact .inr ⟨k1,k2⟩
  ·exact .inl ⟨k1,k2⟩
 ·rw [<-vB] at o1;rcases main e1 e2 o1 o2 with ⟨k1,k2⟩ | ⟨k1,k2⟩
  ·exact .inr ⟨k2,k1⟩
  ·exact .inl ⟨k2,k1⟩
 ·rw [<-vB] at o1 o2;rcases main e1 e2 o1 o2 with ⟨k1,k2⟩ | ⟨k1,k2⟩
  ·exact .inl ⟨k2,k1⟩
  ·exact .inr ⟨k2,k1⟩
end
structure WInv (L:List Tri3) (D:List Wl):Prop where
 good:∀ x∈D,GoodW x
 ris:Ris D
 apart:Apart D
 edge:∀ x∈D,edgeL L x.A x.B
theorem kq {D:List Wl} {X:Wl} {k:Nat} (hr:Ris D) (h:PutAt D X k) (hne:∀ x∈D,x≠X):Ris (insW D X k):=by
 obtain ⟨q0,q1,q2⟩:=h;have lt:∀ (i:Nat) (hi:i < D.length),¬ 0 < cmpW D[i] X->cmpW D[i] X < 0:=λi hi hh=>by
  have:cmpW D[i] X≠0:=λe=>hne _ (Yx hi) (uJ.1 e);omega
 unfold insW;exact (qp wholeW hr q0 (λi hi=>by
  have hk:k - 1 < D.length:=by omega
  have h1:=lt (k - 1) hk (q2 hk (by omega));rcases KF i (k - 1) with h3 | h3
  ·exact wholeW.trans (ua hr (by omega) hk h3) h1
  ·have e:i=k - 1:=by omega
   subst e;exact h1) (λi h1 h2=>q1 i h2 h1)).1
theorem xX (D:List Wl) (X:Wl) (k:Nat):(insW D X k).Perm (X :: D):=xy k
theorem Zy {D M:List Wl} (h:Ris D) (s:M.Sublist D):Ris M:=List.Pairwise.sublist s h
theorem je {D:List Wl} {k:Nat}:(D.take k ++ D.drop (k+1)).Sublist D:=by
 have e:D=D.take k ++ D.drop k:=(X9 k D).symm
 conv=>rhs;rw [e]
 exact (List.Sublist.refl _).append (by rw [<-Q6];exact List.drop_sublist _ _)
theorem on_between {X:Wl} {p:Pt} (hX:GoodW X) (ho:onR p X.A X.B=true) (h1:p≠X.A) (h2:p≠X.B):cmpP X.A p < 0/\cmpP p X.B < 0:=by
 have hn:X.A≠X.B:=λe=>by have:=hX.ab;rw [e,zc.2 rfl] at this;omega
 have hab:=hX.ab;have ho':=ho;unfold onR at ho';simp only [Yf,Yh] at ho';obtain ⟨_,_,_,hd,b1,b2⟩:=ho';have k:=(on_k hn hd).2 ((btw_k hn hd).1 (by rw [b1,b2];rfl));have a0:cmpP X.A p≠0:=λe=>h1 (zc.1 e).symm;have b0:cmpP p X.B≠0:=λe=>h2 (zc.1 e);have sg:∀ x y:Pt,cmpP x y = -1\/cmpP x y=0\/cmpP x y=1:=λx y=>by
  unfold cmpP cmpN;split
  ·rcases zJ (x.y - y.y) with ⟨e,_⟩ | ⟨e,_⟩ | ⟨e,_⟩ <;> rw [e] <;> simp
  ·rcases zJ (x.x - y.x) with ⟨e,_⟩ | ⟨e,_⟩ | ⟨e,_⟩ <;> rw [e] <;> simp
 have s1:=sg X.A p;have s2:=sg p X.B;rcases s1 with e | e | e
 ·rcases s2 with f | f | f
  ·omega
  ·omega
  ·rw [e,f] at k;omega
 ·omega
 ·rcases s2 with f | f | f
  ·rw [e,f] at k;omega
  ·omega
  ·exfalso
   have n1:=zv X.A p;have n2:=zv p X.B;have:=wholeP.trans (x:=X.B) (y:=p) (z:=X.A) (by omega) (by omega);have n3:=zv X.A X.B;omega
theorem tb {W H:Int} (hW0:0 < W) (hH0:0 < H) (hW:W < 16777216) (hH:H < 16777216) {E:Es} {L L1:List Tri3} {D D':List Wl} {p:Pt} (g:Good E L) (t:Tiles W H L) (hI:WInv L D) (hp:inBox W H p) (hn:¬ someC L p) (hA:AddD D p D') (g1:Good (addPE E p) L1) (t1:Tiles W H L1):WInv L1 D':=by
 have vb:∀ q,inBox W H q->vld q=true:=λq hq=>by rw [zZ];unfold inBox at hq;omega
 obtain ⟨a1,a2⟩:=add_edges hW hH g t hW0 hH0 hp hn g1;have stays:∀ {a b:Pt},edgeL L a b->onS p a b=false->edgeL L1 a b:=λ{a b} he ho=>by
  rcases he with he | he
  ·exact .inl (a1 _ _ he ho)
  ·exact .inr (a1 _ _ he (by rw [vB];exact ho))
 have cuts:∀ {a b:Pt},edgeL L a b->onS p a b=true->edgeL L1 a p/\edgeL L1 p b:=λ{a b} he ho=>by
  rcases he with he | he
  ·exact ⟨.inl (a2 _ _ he ho).1,.inl (a2 _ _ he ho).2⟩
  ·have k:=a2 _ _ he (by rw [vB];exact ho);exact ⟨.inr k.2,.inr k.1⟩
 have ends:∀ {a b:Pt},edgeL L a b->p≠a/\p≠b:=λ{a b} he=>by
  obtain ⟨_,⟨c1,c2⟩,_⟩:=t.edge_box he;exact ⟨λe=>hn (e▸c1),λe=>hn (e▸c2)⟩
 rcases hA with ⟨hf,rfl⟩ | ⟨X,r,D1,k1,k2,hf,hR,p1,p2,rfl⟩
 ·refine ⟨hI.good,hI.ris,hI.apart,λx hx=>?_⟩;refine stays (hI.edge x hx) ?_;have h0:=Xb.1 hf x hx;obtain ⟨n1,n2⟩:=ends (hI.edge x hx);rw [on_eq];unfold onD at h0
  simpa [n1,n2] using h0
 ·have hXm:=XV hf;have hX:=hI.good X hXm;have hXe:=hI.edge X hXm;obtain ⟨n1,n2⟩:=ends hXe;have ho:onR p X.A X.B=true:=by
   have:=JF hf;unfold onD at this
   simpa [n1,n2] using this
  have ho':onS p X.A X.B=true:=by rw [on_eq];exact ho
  obtain ⟨cA,cB⟩:=on_between hX ho n1 n2;obtain ⟨eA,eB⟩:=cuts hXe ho';have hlo:rl X.A X.B=X.A/\rg X.A X.B=X.B:=by unfold rl rg;rw [Yn hX.ab,Yn hX.ab];exact ⟨rfl,rfl⟩
  rw [hlo.1,hlo.2] at hR;have hD1:D1.Sublist D/\∀ y∈D1,y∈D/\meetS X.A X.B y.A y.B=0:=by
   rcases hR with ⟨_,_,h0⟩ | ⟨_,k,hk,hw,e⟩
   ·have:=h0 X hXm;rw [yw.2 ⟨rfl,rfl⟩] at this;cases this
   ·rw [e];refine ⟨je,λy hy=>⟨je.mem hy,?_⟩⟩;obtain ⟨w1,w2⟩:=yw.1 hw;have hp':D.Perm (D[k] :: (D.take k ++ D.drop (k+1))):=by
     have e2:D=D.take k ++ D[k] :: D.drop (k+1):=by
      rw [Ko hk,X9]
     have:=KM (a:=D[k]) (l₁:=D.take k) (l₂:=D.drop (k+1));rw [<-e2] at this;exact this
    have:=Xt.1 (qZ hp' hI.apart);have h3:=this.1 y hy;rw [w1,w2] at h3;exact h3
  obtain ⟨hsub,hD1⟩:=hD1;have ne1:∀ y∈D1,¬ (y.A=p\/y.B=p):=λy hy k=>by
   obtain ⟨m1,m2⟩:=ends (hI.edge y (hD1 y hy).1);rcases k with k | k
   ·exact m1 k.symm
   ·exact m2 k.symm
  have hye:∀ y∈D1,edgeL L1 y.A y.B:=λy hy=>by
   refine stays (hI.edge y (hD1 y hy).1) ?_;cases hoy:onS p y.A y.B with
   | false=>rfl
   | true=>
    exfalso
    have gy:=hI.good y (hD1 y hy).1;rcases on_single t hn hXe (hI.edge y (hD1 y hy).1) ho' hoy with ⟨e1,e2⟩ | ⟨e1,e2⟩
    ·have h3:=(hD1 y hy).2;rw [<-e1,<-e2] at h3;exact xS hX h3
    ·have k1:=hX.ab;have k2:=gy.ab;rw [e1,e2,zv] at k1;omega
  have gA:GoodW ⟨X.A,p,X.K⟩:=⟨hX.va,vb _ hp,cA,hX.k⟩;have gB:GoodW ⟨p,X.B,X.K⟩:=⟨vb _ hp,hX.vb,cB,hX.k⟩;have q1:=xX D1 ⟨X.A,p,X.K⟩ k1;have q2:=xX (insW D1 ⟨X.A,p,X.K⟩ k1) ⟨p,X.B,X.K⟩ k2;have q:=q2.trans (q1.cons _);have mem:∀ {x},x∈insW (insW D1 ⟨X.A,p,X.K⟩ k1) ⟨p,X.B,X.K⟩ k2->x=⟨p,X.B,X.K⟩\/x=⟨X.A,p,X.K⟩\/x∈D1:=λ{x} hx=>by
   have:=q.mem_iff.1 hx
   simpa using this
  refine ⟨λx hx=>?_,?_,?_,λx hx=>?_⟩
  ·rcases mem hx with rfl | rfl | hx
   ·exact gB
   ·exact gA
   ·exact hI.good x (hD1 x hx).1
  ·refine kq (kq (Zy hI.ris hsub) p1 (λx hx e=>ne1 x hx (.inr (by rw [e])))) p2 (λx hx e=>?_);rcases Yg.1 (q1.mem_iff.1 hx) with k | k
   ·rw [e] at k;simp only [Wl.mk.injEq] at k;exact n1 k.1
   ·exact ne1 x k (.inl (by rw [e]))
  ·refine qZ q.symm ?_;refine Xt.2 ⟨λy hy=>?_,Xt.2 ⟨λy hy=>?_,List.Pairwise.sublist hsub hI.apart⟩⟩
   ·rcases Yg.1 hy with rfl | hy
    ·exact t1.edges_apart hW hH eB eA (by rintro (⟨k,_⟩ | ⟨_,k⟩);exact n1 k;exact (λk2=>by have:=hX.ab;rw [<-k2,zc.2 rfl] at this;omega) k.symm)
    ·exact t1.edges_apart hW hH eB (hye y hy) (by rintro (⟨k,_⟩ | ⟨k,_⟩);exact ne1 y hy (.inl k.symm);exact ne1 y hy (.inr k.symm))
   ·exact t1.edges_apart hW hH eA (hye y hy) (by rintro (⟨_,k⟩ | ⟨_,k⟩);exact ne1 y hy (.inr k.symm);exact ne1 y hy (.inl k.symm))
  ·rcases mem hx with rfl | rfl | hx
   ·exact eB
   ·exact eA
   ·exact hye x hx
theorem winv_wll {L:List Tri3} {D:List Wl} (h:WInv L D) {x:Wl} (hx:x∈D):wll D x.A x.B:=by
 have hg:=h.good x hx;unfold wll;rw [uD h.good,(ky hg).1,(ky hg).2,kind_own h.apart h.good hx];have:=hg.k;omega
theorem WInv.kept {L L':List Tri3} {D:List Wl} (h:WInv L D) (k:Kept (wll D) L L'):WInv L' D:=by
 refine ⟨h.good,h.ris,h.apart,λx hx=>?_⟩;have hw:=winv_wll h hx;rcases h.edge x hx with e | e
 ·exact .inl (k.wall _ _ hw e)
 ·exact .inr (k.wall _ _ (by unfold wll at *;rw [xn];exact hw) e)
end
end Go.Proofs.YtmpfadapbbjbkaaGreat
