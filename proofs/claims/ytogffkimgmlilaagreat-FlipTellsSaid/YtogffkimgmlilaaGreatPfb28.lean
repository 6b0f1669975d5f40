/- Put together: GeoC. -/
import Derived.Test.YtogffkimgmlilaaGreatPfb27
set_option maxRecDepth 100000
set_option maxHeartbeats 8000000
set_option linter.all false
namespace Go.Proofs.YtogffkimgmlilaaGreat
section
open Go.RowKit
def PH (h:Pt→Int) (a b c d:Pt):Int:=det d b c * h a+det a d c * h b+det a b d * h c - det a b c * h d
theorem PH_cyc (h:Pt→Int) (a b c d:Pt):PH h b c a d=PH h a b c d:=by
 unfold PH;have e1:det d c a=det a d c:=by unfold det;grind
 have e2:det b d a=det a b d:=by unfold det;grind
 have e3:det b c d=det d b c:=by unfold det;grind
 have e4:det b c a=det a b c:=by unfold det;grind
 rw [e1,e2,e3,e4];omega
theorem PH_lft (a b c d:Pt):PH (fun p=>p.x * p.x+p.y * p.y) a b c d=lft a b c d:=by unfold PH lft ht cr way det;grind
theorem wgt_ex:∃ (w:Pt→Int) (M:Int),(∀ p,vld p=true→0 < w p∧w p≤M)∧∀ p q,vld p=true→vld q=true→key p < key q→2251799545249801 * w q≤w p:=by
 have gen:∀ (B:Nat) (C N:Int),(B:Int)=C→0 < B→(∀ p,vld p=true→0≤key p∧key p≤N)→∃ (w:Pt→Int) (M:Int),(∀ p,vld p=true→0 < w p∧w p≤M)∧∀ p q,vld p=true→vld q=true→key p < key q→C * w q≤w p:=by
  intro B C N hC hB hN;refine ⟨fun p=>((B ^ (N - key p).toNat:Nat):Int),((B ^ N.toNat:Nat):Int),fun p hp=>?_,fun p q hp hq hk=>?_⟩
  ·have h1:0 < B ^ (N - key p).toNat:=Nat.pow_pos hB;have h2:B ^ (N - key p).toNat≤B ^ N.toNat:=Nat.pow_le_pow_right hB (by have:=hN p hp;omega);refine ⟨?_,?_⟩
   ·show (0:Int) < ((B ^ (N - key p).toNat:Nat):Int);omega
   ·show ((B ^ (N - key p).toNat:Nat):Int)≤((B ^ N.toNat:Nat):Int);omega
  ·have:=hN q hq;have:=hN p hp;have e:(N - key p).toNat=((N - key q).toNat+1)+((N - key p).toNat - ((N - key q).toNat+1)):=by omega
   have h1:B ^ ((N - key q).toNat+1)≤B ^ (N - key p).toNat:=Nat.pow_le_pow_right hB (by omega);rw [Nat.pow_succ,jEg] at h1;show C * ((B ^ (N - key q).toNat:Nat):Int)≤((B ^ (N - key p).toNat:Nat):Int);rw [←hC]
   exact_mod_cast h1
 exact gen 2251799545249801 2251799545249801 281474976710656 (by omega) (by omega) (fun p hp=>by rw [zAm] at hp;unfold key;omega)
theorem zFd {u w D:Int} (h1 : -D≤u) (h2:u≤D) (hw:0≤w) : -(D * w)≤u * w∧u * w≤D * w:=by
 have e1:=jBc h2 hw;have e2:=jBc h1 hw;rw [jE1] at e2;exact ⟨e2,e1⟩
structure Hts (h:Pt→Int):Prop where
 nn:∀ p,vld p=true→0≤h p
 sign:∀ a b c d,vld a=true→vld b=true→vld c=true→vld d=true→0 < det a b c→d≠a→d≠b→d≠c→(circ a b c d=1∧0 < PH h a b c d∧0≤lft a b c d)∨(circ a b c d = -1∧PH h a b c d < 0)
theorem tie_main {w:Pt→Int} (hp:∀ p,vld p=true→0 < w p) (hw:∀ p q,vld p=true→vld q=true→key p < key q→2251799545249801 * w q≤w p) {a b c d:Pt} (ha:vld a=true) (hb:vld b=true) (hc:vld c=true) (hd:vld d=true) (hD:0 < det a b c) (e1:d≠a) (e2:d≠b) (e3:d≠c) (hl:lft a b c d=0):(circ a b c d=1∧PH w a b c d < 0)∨(circ a b c d = -1∧0 < PH w a b c d):=by
 obtain ⟨n1,n2,n3⟩:=zAb hD;have h0:¬ ori a b c=0:=by rw [ori_v ha hb hc,zBk];omega
 rw [zBv h0 hd e1 e2 e3,jA0 (by rw [hl];simp [sgn])];have hk:=zDg ha hb hc hd;have k1:∀ p q:Pt,vld p=true→vld q=true→p≠q→key p≠key q:=fun p q hp hq hn h=>hn (zBo hp hq h);have b0:=zJ5 ha hb hc;have b1:=zJ5 hd hb hc;have b2:=zJ5 ha hd hc;have b3:=zJ5 ha hb hd;have t1:det d b c≠0:=zF2 hl (by omega) e2 e3;have t2:det a d c≠0:=by
  have:=zF2 (a:=b) (b:=c) (c:=a) (d:=d) (by rw [zGc];exact hl) (by rw [zAh];omega) e3 e1
  rwa [←zAh a d c]
 have t3:det a b d≠0:=by
  have:=zF2 (a:=c) (b:=a) (c:=b) (d:=d) (by rw [zGc b c a,zGc];exact hl) (by rw [zAh b c a,zAh];omega) e1 e2
  rwa [←zAh a b d,←zAh b d a]
 have pa:=hp a ha;have pb:=hp b hb;have pc:=hp c hc;have pd:=hp d hd;have q1:=zFd b1.1 b1.2 (jAn pa);have q2:=zFd b2.1 b2.2 (jAn pb);have q3:=zFd b3.1 b3.2 (jAn pc);have q4:=zFd b0.1 b0.2 (jAn pd);have one:∀ (u x:Int),u≠0→0 < x→(0 < u∧x≤u * x)∨(u < 0∧u * x ≤ -x):=by
  intro u x hu hx;rcases Int.lt_or_gt_of_ne hu with k | k
  ·right
   have:=jA2 (a := -1 - u) (b:=x) (by omega) (by omega);rw [jE7] at this;exact ⟨k,by omega⟩
  ·left
   have:=jA2 (a:=u - 1) (b:=x) (by omega) (by omega);rw [jE7] at this;exact ⟨k,by omega⟩
 unfold PH tie;rcases zMd a b c d with m | m | m | m
 ·rw [m] at hk;have x1:=hw a b ha hb (by have:=k1 a b ha hb n1;omega);have x2:=hw a c ha hc (by have:=k1 a c ha hc n3.symm;omega);have x3:=hw a d ha hd (by have:=k1 a d ha hd e1.symm;omega);rw [m,jA0 (np e1.symm),jAc (pp rfl),ori_v hd hb hc];have s:=zA8 (det d b c);have o:=one _ _ t1 pa;generalize det d b c * w a=z1 at *
  generalize det a d c * w b=z2 at *
  generalize det a b d * w c=z3 at *
  generalize det a b c * w d=z4 at *
  omega
 ·rw [m] at hk;have x1:=hw b a hb ha (by have:=k1 b a hb ha n1.symm;omega);have x2:=hw b c hb hc (by have:=k1 b c hb hc n2;omega);have x3:=hw b d hb hd (by have:=k1 b d hb hd e2.symm;omega);rw [m,jA0 (np e2.symm),jA0 (np n1.symm),jAc (pp rfl),ori_v ha hd hc];have s:=zA8 (det a d c);have o:=one _ _ t2 pb;generalize det d b c * w a=z1 at *
  generalize det a d c * w b=z2 at *
  generalize det a b d * w c=z3 at *
  generalize det a b c * w d=z4 at *
  omega
 ·rw [m] at hk;have x1:=hw c a hc ha (by have:=k1 c a hc ha n3;omega);have x2:=hw c b hc hb (by have:=k1 c b hc hb n2.symm;omega);have x3:=hw c d hc hd (by have:=k1 c d hc hd e3.symm;omega);rw [m,jA0 (np e3.symm),jA0 (np n3),jA0 (np n2.symm),ori_v ha hb hd];have s:=zA8 (det a b d);have o:=one _ _ t3 pc;generalize det d b c * w a=z1 at *
  generalize det a d c * w b=z2 at *
  generalize det a b d * w c=z3 at *
  generalize det a b c * w d=z4 at *
  omega
 ·rw [m] at hk;have x1:=hw d a hd ha (by have:=k1 d a hd ha e1;omega);have x2:=hw d b hd hb (by have:=k1 d b hd hb e2;omega);have x3:=hw d c hd hc (by have:=k1 d c hd hc e3;omega);rw [m,jAc (pp rfl),ori_v ha hb hc];have s:=zA8 (det a b c);have o:=one _ _ (show det a b c≠0 by omega) pd;generalize det d b c * w a=z1 at *
  generalize det a d c * w b=z2 at *
  generalize det a b d * w c=z3 at *
  generalize det a b c * w d=z4 at *
  omega
theorem zNr:∃ h,Hts h:=by
 obtain ⟨w,M,hM,hw⟩:=wgt_ex;have hM0:0 < M:=by have:=hM ⟨0,0⟩ (by decide);omega
 refine ⟨fun p=>(4 * 562949886312450 * M+1) * (p.x * p.x+p.y * p.y) - w p+M,fun p hp=>?_,fun a b c d ha hb hc hd hD e1 e2 e3=>?_⟩
 ·have:=hM p hp;have:=jA2 (a:=4 * 562949886312450 * M+1) (b:=p.x * p.x+p.y * p.y) (by omega) (by have:=sq_nn p.x;have:=sq_nn p.y;omega);show 0≤(4 * 562949886312450 * M+1) * (p.x * p.x+p.y * p.y) - w p+M;omega
 ·have e : PH (fun p => (4 * 562949886312450 * M + 1) * (p.x * p.x + p.y * p.y) - w p + M) a b c d = (4 * 562949886312450 * M + 1) * lft a b c d - PH w a b c d := by
    have z:det d b c+det a d c+det a b d=det a b c:=by unfold det;grind
    rw [←PH_lft];unfold PH;grind
  rw [e];have h0:¬ ori a b c=0:=by rw [ori_v ha hb hc,zBk];omega
  have pa:=hM a ha;have pb:=hM b hb;have pc:=hM c hc;have pd:=hM d hd;by_cases hl:lft a b c d=0
  ·have t:=tie_main (fun p hp=>(hM p hp).1) hw ha hb hc hd hD e1 e2 e3 hl;rw [hl,jAy];omega
  ·have b0:=zJ5 ha hb hc;have b1:=zJ5 hd hb hc;have b2:=zJ5 ha hd hc;have b3:=zJ5 ha hb hd;have q1:=zFd b1.1 b1.2 (jAn pa.1);have q2:=zFd b2.1 b2.2 (jAn pb.1);have q3:=zFd b3.1 b3.2 (jAn pc.1);have q4:=zFd b0.1 b0.2 (jAn pd.1);rw [zBv h0 hd e1 e2 e3];have s:=zA8 (lft a b c d);rw [jAc (by rw [zBk];exact hl)];have key:(4 * 562949886312450 * M+1) * lft a b c d ≤ -(4 * 562949886312450 * M+1)∨(4 * 562949886312450 * M+1)≤(4 * 562949886312450 * M+1) * lft a b c d:=by
    rcases Int.lt_or_gt_of_ne hl with k | k
    ·left
     have:=jA2 (a:=4 * 562949886312450 * M+1) (b := -1 - lft a b c d) (by omega) (by omega);rw [jDd] at this;omega
    ·right
     have:=jA2 (a:=4 * 562949886312450 * M+1) (b:=lft a b c d - 1) (by omega) (by omega);rw [jDd] at this;omega
   have sg:0 < lft a b c d→(4 * 562949886312450 * M+1) * lft a b c d > 0:=fun k=>jAf (by omega) k;have sg':lft a b c d < 0→(4 * 562949886312450 * M+1) * lft a b c d < 0:=fun k=>jBp (by omega) k;unfold PH;generalize (4 * 562949886312450 * M+1) * lft a b c d=Q at *
   generalize det d b c * w a=z1 at *
   generalize det a d c * w b=z2 at *
   generalize det a b d * w c=z3 at *
   generalize det a b c * w d=z4 at *
   omega
theorem lft_edge (a b c d:Pt):lft a b c d=det c a d * ((b.x - a.x) * (b.x - a.x)+(b.y - a.y) * (b.y - a.y)) - det b a d * ((c.x - a.x) * (c.x - a.x)+(c.y - a.y) * (c.y - a.y)) - det a b c * ((d.x - a.x) * (d.x - a.x)+(d.y - a.y) * (d.y - a.y)):=by unfold lft ht cr way det;grind
theorem lft_edge2 (a b c d:Pt):lft a b c d=det d b c * ((b.x - a.x) * (b.x - a.x)+(b.y - a.y) * (b.y - a.y)) - det b a d * ((c.x - b.x) * (c.x - b.x)+(c.y - b.y) * (c.y - b.y)) - det a b c * ((d.x - b.x) * (d.x - b.x)+(d.y - b.y) * (d.y - b.y)):=by unfold lft ht cr way det;grind
theorem sq_ne {p q:Pt} (h:p≠q):0 < (q.x - p.x) * (q.x - p.x)+(q.y - p.y) * (q.y - p.y):=by
 have s1:=sq_nn (q.x - p.x);have s2:=sq_nn (q.y - p.y);refine jAd fun k=>h ?_;have u1:=jA7.1 (show (q.x - p.x) * (q.x - p.x)=0 by omega);have u2:=jA7.1 (show (q.y - p.y) * (q.y - p.y)=0 by omega);rw [Pt.eq_iff];omega
theorem convex {a b c d:Pt} (h1:0 < det a b c) (h2:0 < det b a d) (hl:0≤lft a b c d):0 < det c a d∧0 < det d b c:=by
 obtain ⟨n1,n2,n3⟩:=zAb h1;obtain ⟨m1,m2,m3⟩:=zAb h2;have key:∀ g x y z:Int,0 < x→0 < y→0 < z→0≤g * x - det b a d * y - det a b c * z→0 < g:=by
  intro g x y z hx hy hz k;refine jAd fun hg=>?_;have i1:=jA2 (a := -g) (b:=x) (by omega) (by omega);have i2:=jAf h2 hy;have i3:=jAf h1 hz;rw [jE1] at i1;omega
 refine ⟨key _ _ _ _ (sq_ne n1) (sq_ne n3.symm) (sq_ne m2) (by rw [←lft_edge];exact hl),key _ _ _ _ (sq_ne n1) (sq_ne n2) (sq_ne m3.symm) (by rw [←lft_edge2];exact hl)⟩
def vol (h:Pt→Int) (T:Tri3):Int:=det T.A T.B T.C * (h T.A+h T.B+h T.C)
def volS (h:Pt→Int):List Tri3→Int
 | []=>0
 | T :: L=>vol h T+volS h L
theorem zK1 {h:Pt→Int} {l m:List Tri3} (p:l.Perm m):volS h l=volS h m:=by
 induction p with
 | nil=>rfl
 | cons x _ ih=>simp only [volS,ih]
 | swap x y l=>simp only [volS];omega
 | trans _ _ h1 h2=>exact h1.trans h2
theorem Cyc.vol {T:Tri3} {a b c:Pt} (h:Cyc T a b c) (f:Pt→Int):Go.Proofs.YtogffkimgmlilaaGreat.vol f T=Go.Proofs.YtogffkimgmlilaaGreat.det a b c * (f a+f b+f c):=by
 rw [h.det];unfold Go.Proofs.YtogffkimgmlilaaGreat.vol;rcases h with ⟨rfl,rfl,rfl⟩ | ⟨rfl,rfl,rfl⟩ | ⟨rfl,rfl,rfl⟩
 ·rfl
 ·congr 1;omega
 ·congr 1;omega
theorem vol_flip (h:Pt→Int) {S R U V:Tri3} (M:List Tri3) {a b c d:Pt} (hS:Cyc S a b c) (hR:Cyc R b a d) (hU:Cyc U c a d) (hV:Cyc V d b c):volS h (S :: R :: M)=volS h (U :: V :: M)+PH h a b c d:=by
 simp only [volS];rw [hS.vol,hR.vol,hU.vol,hV.vol];unfold PH det;grind
theorem zNu {h:Pt→Int} (hh:Hts h):∀ {L:List Tri3},(∀ T∈L,0 < det T.A T.B T.C∧vld T.A=true∧vld T.B=true∧vld T.C=true)→0≤volS h L
 | [],_=>jE5 0
 | T :: L,k=>by
  have k1:=k T (by simp);have k2:=zNu hh (L:=L) (fun S hS=>k S (by simp [hS]));have a1:=hh.nn _ k1.2.1;have a2:=hh.nn _ k1.2.2.1;have a3:=hh.nn _ k1.2.2.2;have:=jA2 (a:=det T.A T.B T.C) (b:=h T.A+h T.B+h T.C) (by omega) (by omega);unfold volS vol;omega
theorem zOl (h:Pt→Int) (a b c d p:Pt):det a b c * PH h b a d p=det b a d * PH h a b c p - PH h a b c d * det b a p:=by unfold PH det;grind
theorem Tiles.inner {W H:Int} {L:List Tri3} (h:Tiles W H L) {S R:Tri3} (hS:S∈L) (hR:R∈L) {a b c d:Pt} (cS:Cyc S a b c) (cR:Cyc R b a d):¬ onRim W H a b:=by
 intro hr;have p1:=h.cyc_pos hS cS;have p2:=h.cyc_pos hR cR;refine zM0 (p:=a) hr p1 (h.cyc_box hS cS.turn.turn) (h.cyc_box hR cR.turn.turn) p2 (by unfold det;grind) (by unfold det;grind) (by unfold crd;grind) ?_;have e:(b.x - a.x) * (a.x - b.x)+(b.y - a.y) * (a.y - b.y) = - ((b.x - a.x) * (b.x - a.x)+(b.y - a.y) * (b.y - a.y)):=by grind
 have:=sq_nn (b.x - a.x);have:=sq_nn (b.y - a.y);omega
theorem zG6 {W H:Int} {a b c p:Pt} (hr:onRim W H a b) (h1:0 < det a b c) (hc:inBox W H c) (hp:inBox W H p):0≤det a b p:=by
 refine jAd fun k=>?_;have z:crd a b ⟨p.x - a.x,p.y - a.y⟩=det a b p:=by unfold crd det;grind
 have:=zJf (p:=a) (x:=p) hr h1 hc hp (by unfold det;grind) (by omega);omega
theorem zEj {α:Type} (n m:α→Int):∀ (L:List α),L≠[]→(∀ x∈L,0 < m x)→∃ x∈L,∀ y∈L,n y * m x≤n x * m y
 | [],h,_=>absurd rfl h
 | [x],_,_=>⟨x,by simp,fun y hy=>by simp at hy;subst hy;exact jE5 _⟩
 | x :: y :: L,_,hm=>by
  obtain ⟨z,hz,k⟩:=zEj n m (y :: L) (by simp) (fun u hu=>hm u (by simp [hu]));have pz:=hm z (by simp [hz]);have px:=hm x (by simp);by_cases g:n x * m z≤n z * m x
  ·refine ⟨z,by simp [hz],fun u hu=>?_⟩;rcases jA1.1 hu with rfl | hu
   ·exact g
   ·exact k u hu
  ·refine ⟨x,by simp,fun u hu=>?_⟩;rcases jA1.1 hu with rfl | hu
   ·exact jE5 _
   ·have pu:=hm u (by simp [hu]);have k1:=k u hu
    -- n u / m u≤n z / m z < n x / m x
    have a1:n u * m z * m x≤n z * m u * m x:=jBc k1 (by omega);have a2:n z * m x * m u≤n x * m z * m u:=jBc (by omega) (by omega);have a3:m z * (n u * m x)≤m z * (n x * m u):=by
     have e1:m z * (n u * m x)=n u * m z * m x:=by grind
     have e2:m z * (n x * m u)=n x * m z * m u:=by grind
     have e3:n z * m u * m x=n z * m x * m u:=by grind
     omega
    exact jBv a3 pz
def pH (h:Pt→Int) (p:Pt) (T:Tri3):Int:=PH h T.A T.B T.C p
theorem Cyc.pH {T:Tri3} {a b c:Pt} (hc:Cyc T a b c) (h:Pt→Int) (p:Pt):Go.Proofs.YtogffkimgmlilaaGreat.pH h p T=PH h a b c p:=by
 unfold Go.Proofs.YtogffkimgmlilaaGreat.pH;rcases hc with ⟨rfl,rfl,rfl⟩ | ⟨rfl,rfl,rfl⟩ | ⟨rfl,rfl,rfl⟩
 ·rfl
 ·exact (PH_cyc h T.A T.B T.C p).symm
 ·exact PH_cyc h T.C T.A T.B p
theorem PH_cnr (h:Pt→Int) (a b c:Pt):PH h a b c a=0:=by unfold PH det;grind
def NoBad (L:List Tri3):Prop:=∀ S∈L,∀ R∈L,∀ a b c d,Cyc S a b c→Cyc R b a d→circ a b c d≠1
theorem Tiles.delaunay {W H:Int} {L:List Tri3} (h:Tiles W H L) (hW:W < 16777216) (hH:H < 16777216) {ht:Pt→Int} (hh:Hts ht) (hn:NoBad L) {S T:Tri3} (hS:S∈L) (hT:T∈L) {p:Pt} (hp:isCnr S p):pH ht p T≤0:=by
 have vb:∀ q,inBox W H q→vld q=true:=fun q hq=>by rw [zAm];unfold inBox at hq;omega
 have bp:inBox W H p:=by
  obtain ⟨x,y,hc⟩:=zCf hp;exact h.cyc_box hS hc
 obtain ⟨M,hM,hmax⟩:=zEj (pH ht p) (fun T=>det T.A T.B T.C) L (jEi hT) h.pos;have hMp:pH ht p M≤0:=by
  refine jAd fun k=>?_;have pM:=h.pos M hM;have nC:¬ isCnr M p:=fun g=>by
   obtain ⟨x,y,hc⟩:=zCf g;have:=hc.pH ht p;rw [PH_cnr] at this;omega
  have nh:¬ hasT M p:=fun g=>nC (h.cnr_all hS hM hp g);have:∃ a b c,Cyc M a b c∧det a b p < 0:=by
   unfold hasT at nh;by_cases e1:det M.A M.B p < 0
   ·exact ⟨_,_,_,Cyc.refl M,e1⟩
   by_cases e2:det M.B M.C p < 0
   ·exact ⟨_,_,_,(Cyc.refl M).turn,e2⟩
   by_cases e3:det M.C M.A p < 0
   ·exact ⟨_,_,_,(Cyc.refl M).turn.turn,e3⟩
   omega
  obtain ⟨a,b,c,hc,hneg⟩:=this;have p1:=h.cyc_pos hM hc;rcases h.rim (a,b) (mem_flat hM hc.way) with hr | hr
  ·obtain ⟨R,hR,hw⟩:=jAh.1 hr;have hw:(b,a)∈ways R:=hw;obtain ⟨d,hd⟩:=zBd hw;have p2:=h.cyc_pos hR hd;have hnb:=hn M hM R hR a b c d hc hd;obtain ⟨q1,q2,q3⟩:=zAb p2;have dc:d≠c:=by
    rintro rfl;rw [zAd] at p2;omega
   have sg:=hh.sign a b c d (vb _ (h.cyc_box hM hc)) (vb _ (h.cyc_box hM hc.turn)) (vb _ (h.cyc_box hM hc.turn.turn)) (vb _ (h.cyc_box hR hd.turn.turn)) p1 (Ne.symm q2) q3 dc;have hneg2:PH ht a b c d < 0:=by omega
   have st:=zOl ht a b c d p;have mx:pH ht p R * det M.A M.B M.C≤pH ht p M * det R.A R.B R.C:=hmax R hR;rw [hd.pH,hc.pH,←hc.det,←hd.det] at mx;have:0 < det b a p:=by rw [zAd];omega
   have:=jEc hneg2 this;have e1:det a b c * PH ht b a d p=PH ht b a d p * det a b c:=jD2 _ _;have e2:det b a d * PH ht a b c p=PH ht a b c p * det b a d:=jD2 _ _;omega
  ·have hr:onRim W H a b:=hr;have:=zG6 hr p1 (h.cyc_box hM hc.turn.turn) bp;omega
 have mx:pH ht p T * det M.A M.B M.C≤pH ht p M * det T.A T.B T.C:=hmax T hT;have pM:=h.pos M hM;have pT:=h.pos T hT;have:pH ht p M * det T.A T.B T.C≤0:=jCx hMp (by omega);refine jAd fun k=>?_;have:=jAf (show 0 < pH ht p T by omega) pM;omega
theorem Tiles.empty {W H:Int} {L:List Tri3} (h:Tiles W H L) (hW:W < 16777216) (hH:H < 16777216) (hn:NoBad L) {S T:Tri3} (hS:S∈L) (hT:T∈L) {p:Pt} (hp:isCnr S p):circ T.A T.B T.C p≠1:=by
 obtain ⟨ht,hh⟩:=zNr;have vb:∀ q,inBox W H q→vld q=true:=fun q hq=>by rw [zAm];unfold inBox at hq;omega
 obtain ⟨x,y,hc⟩:=zCf hp;have bp:=h.cyc_box hS hc;have bT:=h.box T hT;intro e;have n:p≠T.A∧p≠T.B∧p≠T.C:=by
  refine ⟨fun k=>?_,fun k=>?_,fun k=>?_⟩
  ·rw [zAg (.inr (.inr (.inl k)))] at e;omega
  ·rw [zAg (.inr (.inr (.inr (.inl k))))] at e;omega
  ·rw [zAg (.inr (.inr (.inr (.inr k))))] at e;omega
 have:=hh.sign _ _ _ p (vb _ bT.1) (vb _ bT.2.1) (vb _ bT.2.2) (vb _ bp) (h.pos T hT) n.1 n.2.1 n.2.2;have:=h.delaunay hW hH hh hn hS hT hp;unfold pH at this;omega
def insM (M:Int) (T:Tri3) (p:Pt):Prop:=0 < det (sc M T.A) (sc M T.B) p∧0 < det (sc M T.B) (sc M T.C) p∧0 < det (sc M T.C) (sc M T.A) p
theorem zKn {M:Int} {T:Tri3} {p:Pt} (h:insM M T p) (v:Pt):near M T p v:=⟨.inl h.1,.inl h.2.1,.inl h.2.2⟩
theorem zHt {M:Int} (hM:0 < M) {T:Tri3} {p:Pt} (hp:0 < det T.A T.B T.C) (h:hasM M T p):near M T p ⟨M * (T.A.x+T.B.x+T.C.x) - 3 * p.x,M * (T.A.y+T.B.y+T.C.y) - 3 * p.y⟩:=by
 have e:∀ a b c:Pt,M * crd a b ⟨M * (a.x+b.x+c.x) - 3 * p.x,M * (a.y+b.y+c.y) - 3 * p.y⟩=M * (M * det a b c) - 3 * det (sc M a) (sc M b) p:=by intro a b c;unfold crd det sc;grind
 have key:∀ a b c:Pt,0 < det a b c→0≤det (sc M a) (sc M b) p→0 < det (sc M a) (sc M b) p∨(det (sc M a) (sc M b) p=0∧0 < crd a b ⟨M * (a.x+b.x+c.x) - 3 * p.x,M * (a.y+b.y+c.y) - 3 * p.y⟩):=by
  intro a b c h1 h2;rcases jBo h2 with k | k
  ·exact .inl k
  ·refine .inr ⟨k.symm,(zAi hM).1 ?_⟩;rw [e,←k];have:=jAf hM (jAf hM h1);omega
 obtain ⟨h1,h2,h3⟩:=h;have k1:=key T.A T.B T.C hp h1;have k2:=key T.B T.C T.A (by rw [zAh];exact hp) h2;have k3:=key T.C T.A T.B (by rw [zAh,zAh];exact hp) h3;rw [show T.B.x+T.C.x+T.A.x=T.A.x+T.B.x+T.C.x by omega,show T.B.y+T.C.y+T.A.y=T.A.y+T.B.y+T.C.y by omega] at k2;rw [show T.C.x+T.A.x+T.B.x=T.A.x+T.B.x+T.C.x by omega,show T.C.y+T.A.y+T.B.y=T.A.y+T.B.y+T.C.y by omega] at k3;exact ⟨k1,k2,k3⟩
theorem Tiles.insM_one {W H:Int} {L:List Tri3} (h:Tiles W H L) {S T:Tri3} (hS:S∈L) (hT:T∈L) {M:Int} (hM:0 < M) {p:Pt} (h1:insM M S p) (h2:hasM M T p):S=T:=
 h.same hS hT hM (zKn h1 _) (zHt hM (h.pos T hT) h2)
theorem zCi {M:Int} {T:Tri3} {a b c p:Pt} (hc:Cyc T a b c):hasM M T p↔0≤det (sc M a) (sc M b) p∧0≤det (sc M b) (sc M c) p∧0≤det (sc M c) (sc M a) p:=by
 unfold hasM;rcases hc with ⟨rfl,rfl,rfl⟩ | ⟨rfl,rfl,rfl⟩ | ⟨rfl,rfl,rfl⟩ <;> omega
theorem insM_cyc {M:Int} {T:Tri3} {a b c p:Pt} (hc:Cyc T a b c):insM M T p↔0 < det (sc M a) (sc M b) p∧0 < det (sc M b) (sc M c) p∧0 < det (sc M c) (sc M a) p:=by
 unfold insM;rcases hc with ⟨rfl,rfl,rfl⟩ | ⟨rfl,rfl,rfl⟩ | ⟨rfl,rfl,rfl⟩ <;> omega
theorem zIv {M:Int} {a b c d p:Pt} (h1:0 < det a b c) (h2:0 < det b a d) (hz:det (sc M a) (sc M b) p=0) (k1:0≤det (sc M b) (sc M c) p) (k2:0≤det (sc M c) (sc M a) p):0≤det (sc M a) (sc M d) p∧0≤det (sc M d) (sc M b) p:=by
 have e1:det a b c * det (sc M a) (sc M d) p=det (sc M c) (sc M a) p * det b a d+det (sc M a) (sc M b) p * det a d c:=by unfold det sc;grind
 have e2:det a b c * det (sc M d) (sc M b) p=det (sc M b) (sc M c) p * det b a d - det (sc M a) (sc M b) p * det b d c:=by unfold det sc;grind
 rw [hz,jB1] at e1 e2;have:=jA2 k1 (jAn h2);have:=jA2 k2 (jAn h2);exact ⟨(zAk h1).1 (by omega),(zAk h1).1 (by omega)⟩
theorem leave {M:Int} (hM:0 < M) {T:Tri3} {x v:Pt} (hx:hasM M T x) (hv:¬ hasT T v):∃ a b c N n,Cyc T a b c∧det a b v < 0∧0≤n∧n < N∧det (sc (M * N) a) (sc (M * N) b) ⟨(N - n) * x.x+n * (M * v.x),(N - n) * x.y+n * (M * v.y)⟩=0∧0≤det (sc (M * N) b) (sc (M * N) c) ⟨(N - n) * x.x+n * (M * v.x),(N - n) * x.y+n * (M * v.y)⟩∧0≤det (sc (M * N) c) (sc (M * N) a) ⟨(N - n) * x.x+n * (M * v.x),(N - n) * x.y+n * (M * v.y)⟩:=by
 -- the edges beyond which v lies;of these the one that is reached first
 let E:List (Pt×Pt×Pt):=[(T.A,T.B,T.C),(T.B,T.C,T.A),(T.C,T.A,T.B)].filter fun e=>decide (det e.1 e.2.1 v < 0)
 have hE:E≠[]:=by
  intro he;rw [jDm] at he;apply hv;have h1:=he (T.A,T.B,T.C) (by simp);have h2:=he (T.B,T.C,T.A) (by simp);have h3:=he (T.C,T.A,T.B) (by simp);simp only [jA4] at h1 h2 h3;exact ⟨by omega,by omega,by omega⟩
 have mE:∀ e,e∈E↔(e=(T.A,T.B,T.C)∨e=(T.B,T.C,T.A)∨e=(T.C,T.A,T.B))∧det e.1 e.2.1 v < 0:=by
  intro e;simp only [E,jAq,jA1,jA6,jAw,jA4]
 have xn:∀ e∈E,0≤det (sc M e.1) (sc M e.2.1) x:=by
  intro e he;rcases ((mE e).1 he).1 with rfl | rfl | rfl
  ·exact hx.1
  ·exact hx.2.1
  ·exact hx.2.2
 have mm:∀ e∈E,0 < - (M * (M * det e.1 e.2.1 v)):=by
  intro e he;have:=jAf hM (jAf hM (show 0 < - det e.1 e.2.1 v by have:=((mE e).1 he).2;omega));rw [jCj,jCj] at this;exact this
 -- n / (n+m) least: n / m least: -n / m greatest
 obtain ⟨e,he,hmax⟩:=zEj (fun e:Pt×Pt×Pt => - det (sc M e.1) (sc M e.2.1) x) (fun e => - (M * (M * det e.1 e.2.1 v))) E hE mm;have hn:=xn e he;have hm:=mm e he;have hmax:∀ f∈E,- det (sc M f.1) (sc M f.2.1) x * - (M * (M * det e.1 e.2.1 v)) ≤ - det (sc M e.1) (sc M e.2.1) x * - (M * (M * det f.1 f.2.1 v)):=hmax;obtain ⟨a,b,c⟩:=e;have hmax:∀ f∈E,- det (sc M f.1) (sc M f.2.1) x * - (M * (M * det a b v)) ≤ - det (sc M a) (sc M b) x * - (M * (M * det f.1 f.2.1 v)):=hmax;have hn:0≤det (sc M a) (sc M b) x:=hn;have hm:0 < - (M * (M * det a b v)):=hm;obtain ⟨hw,hneg⟩:=(mE _).1 he;have hc:Cyc T a b c:=by
  simp only [jB6] at hw;rcases hw with ⟨rfl,rfl,rfl⟩ | ⟨rfl,rfl,rfl⟩ | ⟨rfl,rfl,rfl⟩
  ·exact .inl ⟨rfl,rfl,rfl⟩
  ·exact .inr (.inl ⟨rfl,rfl,rfl⟩)
  ·exact .inr (.inr ⟨rfl,rfl,rfl⟩)
 obtain ⟨n,e0⟩:∃ n,n=det (sc M a) (sc M b) x:=⟨_,rfl⟩;obtain ⟨m,e1⟩:∃ m,m = - (M * (M * det a b v)):=⟨_,rfl⟩;rw [←e0] at hn hmax;rw [←e1] at hm hmax
 -- the value at the place along any edge
 have val:∀ p q:Pt,det (sc (M * (n+m)) p) (sc (M * (n+m)) q) ⟨(n+m - n) * x.x+n * (M * v.x),(n+m - n) * x.y+n * (M * v.y)⟩=(n+m) * (m * det (sc M p) (sc M q) x+n * (M * (M * det p q v))):=by
  intro p q;unfold det sc;grind
 have oth:∀ p q r:Pt,(p,q,r)=(T.A,T.B,T.C)∨(p,q,r)=(T.B,T.C,T.A)∨(p,q,r)=(T.C,T.A,T.B)→0≤det (sc M p) (sc M q) x→0≤m * det (sc M p) (sc M q) x+n * (M * (M * det p q v)):=by
  intro p q r hpq hx0;by_cases hs:det p q v < 0
  ·have:=hmax (p,q,r) ((mE _).2 ⟨hpq,hs⟩);have e2 : - det (sc M p) (sc M q) x * m = - (m * det (sc M p) (sc M q) x):=by grind
   have e3 : - n * - (M * (M * det p q v))=n * (M * (M * det p q v)):=by grind
   have this : - det (sc M p) (sc M q) x * m ≤ - n * - (M * (M * det p q v)):=this;omega
  ·have a1:=jA2 (jAn hm) hx0;have a2:=jA2 hn (jA2 (jAn hM) (jA2 (jAn hM) (show 0≤det p q v by omega)));omega
 have hx':=(zCi hc).1 hx;have hw2:(b,c,a)=(T.A,T.B,T.C)∨(b,c,a)=(T.B,T.C,T.A)∨(b,c,a)=(T.C,T.A,T.B):=by
  simp only [jB6];rcases hc with ⟨h1,h2,h3⟩ | ⟨h1,h2,h3⟩ | ⟨h1,h2,h3⟩
  ·exact .inr (.inl ⟨h2,h3,h1⟩)
  ·exact .inr (.inr ⟨h2,h3,h1⟩)
  ·exact .inl ⟨h2,h3,h1⟩
 have hw3:(c,a,b)=(T.A,T.B,T.C)∨(c,a,b)=(T.B,T.C,T.A)∨(c,a,b)=(T.C,T.A,T.B):=by
  simp only [jB6];rcases hc with ⟨h1,h2,h3⟩ | ⟨h1,h2,h3⟩ | ⟨h1,h2,h3⟩
  ·exact .inr (.inr ⟨h3,h1,h2⟩)
  ·exact .inl ⟨h3,h1,h2⟩
  ·exact .inr (.inl ⟨h3,h1,h2⟩)
 refine ⟨a,b,c,n+m,n,hc,hneg,hn,by omega,?_,?_,?_⟩
 ·rw [val,←e0];have:M * (M * det a b v) = -m:=by omega
  rw [this,jCj,jD2 m n];rw [show n * m + -(n * m)=0 by omega,jAy]
 ·rw [val];exact jA2 (by omega) (oth b c a hw2 hx'.2.1)
 ·rw [val];exact jA2 (by omega) (oth c a b hw3 hx'.2.2)
structure Fixed (W H:Int) (wl:Pt→Pt→Prop) (L:List Tri3):Prop where
 tiles:Tiles W H L
 good:∀ S∈L,∀ R∈L,∀ a b c d,Cyc S a b c→Cyc R b a d→¬ wl a b→circ a b c d≠1
theorem seen {W H:Int} {L1 L2:List Tri3} (hW:W < 16777216) (hH:H < 16777216) {wl:Pt→Pt→Prop} (h1:Fixed W H wl L1) (h2:Tiles W H L2) (hw:∀ S∈L1,∀ R∈L1,∀ a b c d,Cyc S a b c→Cyc R b a d→wl a b→(a,b)∈L2.flatMap ways∨(b,a)∈L2.flatMap ways) (hv:∀ T∈L2,∀ p,isCnr T p→∃ S∈L1,isCnr S p) {ht:Pt→Int} (hh:Hts ht) {T2:Tri3} (m2:T2∈L2) {v:Pt} (hc2:isCnr T2 v) {T1:Tri3} (m1:T1∈L1) {M:Int} (hM:0 < M) {x:Pt} (x2:insM M T2 x) (x1:hasM M T1 x):pH ht v T1≤0:=by
 classical
 have vb:∀ q,inBox W H q→vld q=true:=fun q hq=>by rw [zAm];unfold inBox at hq;omega
 have bv:inBox W H v:=by
  obtain ⟨b,c,hc⟩:=zCf hc2;exact h2.cyc_box m2 hc
 have hv2:hasT T2 v:=(zLd (h2.pos T2 m2) hc2).1;obtain ⟨Sv,mSv,cSv⟩:=hv T2 m2 v hc2
 let F:List Tri3:=L1.filter fun T=>decide (∃ M x,0 < M∧insM M T2 x∧hasM M T x)
 have mF:∀ T,T∈F↔T∈L1∧∃ M x,0 < M∧insM M T2 x∧hasM M T x:=by
  intro T;simp only [F,jAq,jA4]
 have f1:T1∈F:=(mF T1).2 ⟨m1,M,x,hM,x2,x1⟩;obtain ⟨X,hX,hmax⟩:=zEj (pH ht v) (fun T=>det T.A T.B T.C) F (jEi f1) (fun T hT=>h1.tiles.pos T ((mF T).1 hT).1);obtain ⟨mX,N,y,hN,y2,yX⟩:=(mF X).1 hX;have pX:=h1.tiles.pos X mX;have hXp:pH ht v X≤0:=by
  refine jAd fun k=>?_;have nC:¬ isCnr X v:=fun g=>by
   obtain ⟨b,c,hc⟩:=zCf g;have:=hc.pH ht v;rw [PH_cnr] at this;omega
  have nh:¬ hasT X v:=fun g=>nC (h1.tiles.cnr_all mSv mX cSv g);obtain ⟨a,b,c,Q,n,hc,hneg,n0,nQ,z1,z2,z3⟩:=leave hN yX nh;have p1:=h1.tiles.cyc_pos mX hc;rcases h1.tiles.rim (a,b) (mem_flat mX hc.way) with hr | hr
  ·obtain ⟨R,hR,hwy⟩:=jAh.1 hr;have hwy:(b,a)∈ways R:=hwy;obtain ⟨d,hd⟩:=zBd hwy;have p2:=h1.tiles.cyc_pos hR hd;have hQN:0 < N * Q:=jAf hN (by omega)
   -- the place lies within T2
   have in2:insM (N * Q) T2 ⟨(Q - n) * y.x+n * (N * v.x),(Q - n) * y.y+n * (N * v.y)⟩:=by
    have val:∀ p q:Pt,det (sc (N * Q) p) (sc (N * Q) q) ⟨(Q - n) * y.x+n * (N * v.x),(Q - n) * y.y+n * (N * v.y)⟩=Q * ((Q - n) * det (sc N p) (sc N q) y+n * (N * (N * det p q v))):=by
     intro p q;unfold det sc;grind
    have pos:∀ p q:Pt,0 < det (sc N p) (sc N q) y→0≤det p q v→0 < det (sc (N * Q) p) (sc (N * Q) q) ⟨(Q - n) * y.x+n * (N * v.x),(Q - n) * y.y+n * (N * v.y)⟩:=by
     intro p q k1 k2;rw [val];have a1:=jAf (show 0 < Q - n by omega) k1;have a2:=jA2 n0 (jA2 (jAn hN) (jA2 (jAn hN) k2));exact jAf (by omega) (by omega)
    exact ⟨pos _ _ y2.1 hv2.1,pos _ _ y2.2.1 hv2.2.1,pos _ _ y2.2.2 hv2.2.2⟩
   have nw:¬ wl a b:=by
    intro w;have bad:∀ p q,(p,q)∈L2.flatMap ways→det (sc (N * Q) p) (sc (N * Q) q) ⟨(Q - n) * y.x+n * (N * v.x),(Q - n) * y.y+n * (N * v.y)⟩=0→(∃ r,0 < det p q r∧0≤det (sc (N * Q) q) (sc (N * Q) r) ⟨(Q - n) * y.x+n * (N * v.x),(Q - n) * y.y+n * (N * v.y)⟩∧0≤det (sc (N * Q) r) (sc (N * Q) p) ⟨(Q - n) * y.x+n * (N * v.x),(Q - n) * y.y+n * (N * v.y)⟩)→False:=by
     intro p q hm hz ⟨r,r0,r1,r2⟩;obtain ⟨U,mU,hU⟩:=jAh.1 hm;obtain ⟨s,hs⟩:=zBd hU;have pU:=h2.cyc_pos mU hs
     -- p q r and p q s lie on one side
     have e1:det p q r * det (sc (N * Q) q) (sc (N * Q) s) ⟨(Q - n) * y.x+n * (N * v.x),(Q - n) * y.y+n * (N * v.y)⟩=det (sc (N * Q) q) (sc (N * Q) r) ⟨(Q - n) * y.x+n * (N * v.x),(Q - n) * y.y+n * (N * v.y)⟩ * det p q s+det (sc (N * Q) p) (sc (N * Q) q) ⟨(Q - n) * y.x+n * (N * v.x),(Q - n) * y.y+n * (N * v.y)⟩ * det q s r:=by
      generalize (⟨(Q - n) * y.x+n * (N * v.x),(Q - n) * y.y+n * (N * v.y)⟩:Pt)=z
      unfold det sc;grind
     have e2:det p q r * det (sc (N * Q) s) (sc (N * Q) p) ⟨(Q - n) * y.x+n * (N * v.x),(Q - n) * y.y+n * (N * v.y)⟩=det (sc (N * Q) r) (sc (N * Q) p) ⟨(Q - n) * y.x+n * (N * v.x),(Q - n) * y.y+n * (N * v.y)⟩ * det p q s - det (sc (N * Q) p) (sc (N * Q) q) ⟨(Q - n) * y.x+n * (N * v.x),(Q - n) * y.y+n * (N * v.y)⟩ * det p s r:=by
      generalize (⟨(Q - n) * y.x+n * (N * v.x),(Q - n) * y.y+n * (N * v.y)⟩:Pt)=z
      unfold det sc;grind
     rw [hz,jB1] at e1 e2;have g1:=jA2 r1 (jAn pU);have g2:=jA2 r2 (jAn pU);have hU':hasM (N * Q) U ⟨(Q - n) * y.x+n * (N * v.x),(Q - n) * y.y+n * (N * v.y)⟩:=(zCi hs).2 ⟨by omega,(zAk r0).1 (by omega),(zAk r0).1 (by omega)⟩;have e:=h2.insM_one m2 mU hQN in2 hU';rw [e] at in2;have:=((insM_cyc hs).1 in2).1;omega
    rcases hw X mX R hR a b c d hc hd w with k | k
    ·exact bad a b k z1 ⟨c,p1,z2,z3⟩
    ·have o:=zIv p1 p2 z1 z2 z3;refine bad b a k (by rw [zAd];omega) ⟨d,p2,o.1,o.2⟩
   have hnb:=h1.good X mX R hR a b c d hc hd nw;obtain ⟨q1,q2,q3⟩:=zAb p2;have dc:d≠c:=by
    rintro rfl;rw [zAd] at p2;omega
   have sg:=hh.sign a b c d (vb _ (h1.tiles.cyc_box mX hc)) (vb _ (h1.tiles.cyc_box mX hc.turn)) (vb _ (h1.tiles.cyc_box mX hc.turn.turn)) (vb _ (h1.tiles.cyc_box hR hd.turn.turn)) p1 (Ne.symm q2) q3 dc;have hneg2:PH ht a b c d < 0:=by omega
   have o:=zIv p1 p2 z1 z2 z3;have fR:R∈F:=(mF R).2 ⟨hR,_,_,hQN,in2,(zCi hd).2 ⟨by rw [zAd];omega,o.1,o.2⟩⟩;have st:=zOl ht a b c d v;have mx:pH ht v R * det X.A X.B X.C≤pH ht v X * det R.A R.B R.C:=hmax R fR;rw [hd.pH,hc.pH,←hc.det,←hd.det] at mx;have:0 < det b a v:=by rw [zAd];omega
   have:=jEc hneg2 this;have e1:det a b c * PH ht b a d v=PH ht b a d v * det a b c:=jD2 _ _;have e2:det b a d * PH ht a b c v=PH ht a b c v * det b a d:=jD2 _ _;omega
  ·have hr:onRim W H a b:=hr;have:=zG6 hr p1 (h1.tiles.cyc_box mX hc.turn.turn) bv;omega
 have mx:pH ht v T1 * det X.A X.B X.C≤pH ht v X * det T1.A T1.B T1.C:=hmax T1 f1;have pT:=h1.tiles.pos T1 m1;have:pH ht v X * det T1.A T1.B T1.C≤0:=jCx hXp (by omega);refine jAd fun k=>?_;have:=jAf (show 0 < pH ht v T1 by omega) pX;omega
theorem planes (ht:Pt→Int) (a b c d e f x:Pt) (M:Int):det (sc M b) (sc M c) x * PH ht d e f a+det (sc M c) (sc M a) x * PH ht d e f b+det (sc M a) (sc M b) x * PH ht d e f c+(det (sc M e) (sc M f) x * PH ht a b c d+det (sc M f) (sc M d) x * PH ht a b c e+det (sc M d) (sc M e) x * PH ht a b c f)=0:=by
 unfold PH det sc;grind
theorem one_mesh {W H:Int} {L1 L2:List Tri3} (hW0:0 < W) (hH0:0 < H) (hW:W < 16777216) (hH:H < 16777216) {wl:Pt→Pt→Prop} (h1:Fixed W H wl L1) (h2:Fixed W H wl L2) (w1:∀ S∈L1,∀ R∈L1,∀ a b c d,Cyc S a b c→Cyc R b a d→wl a b→(a,b)∈L2.flatMap ways∨(b,a)∈L2.flatMap ways) (w2:∀ S∈L2,∀ R∈L2,∀ a b c d,Cyc S a b c→Cyc R b a d→wl a b→(a,b)∈L1.flatMap ways∨(b,a)∈L1.flatMap ways) (v1:∀ T∈L1,∀ p,isCnr T p→∃ S∈L2,isCnr S p) (v2:∀ T∈L2,∀ p,isCnr T p→∃ S∈L1,isCnr S p) {T2:Tri3} (m2:T2∈L2):∃ T1∈L1,Cyc T1 T2.A T2.B T2.C:=by
 obtain ⟨ht,hh⟩:=zNr;have p2:=h2.tiles.pos T2 m2;have b2:=h2.tiles.box T2 m2;have vb:∀ q,inBox W H q→vld q=true:=fun q hq=>by rw [zAm];unfold inBox at hq;omega
 -- the middle of T2,and a triangle that has it
 let x:Pt:=⟨T2.A.x+T2.B.x+T2.C.x,T2.A.y+T2.B.y+T2.C.y⟩
 have ex:∀ a b:Pt,det (sc 3 a) (sc 3 b) x=3 * (det a b T2.A+det a b T2.B+det a b T2.C):=by
  intro a b;show det (sc 3 a) (sc 3 b) ⟨T2.A.x+T2.B.x+T2.C.x,T2.A.y+T2.B.y+T2.C.y⟩=_;unfold det sc;grind
 have z1:det T2.A T2.B T2.A=0:=by unfold det;grind
 have z2:det T2.A T2.B T2.B=0:=by unfold det;grind
 have z3:det T2.B T2.C T2.B=0:=by unfold det;grind
 have z4:det T2.B T2.C T2.C=0:=by unfold det;grind
 have z5:det T2.C T2.A T2.C=0:=by unfold det;grind
 have z6:det T2.C T2.A T2.A=0:=by unfold det;grind
 have c1:=zAh T2.A T2.B T2.C;have c2:=zAh T2.B T2.C T2.A;have x2:insM 3 T2 x:=⟨by rw [ex];omega,by rw [ex];omega,by rw [ex];omega⟩;have bx:inBox (3 * W) (3 * H) x:=by
  show inBox (3 * W) (3 * H) ⟨T2.A.x+T2.B.x+T2.C.x,T2.A.y+T2.B.y+T2.C.y⟩;unfold inBox at *;simp only;omega
 obtain ⟨T1,m1,x1⟩:=h1.tiles.covM hW0 hH0 (M:=3) (by omega) bx;refine ⟨T1,m1,?_⟩;have p1:=h1.tiles.pos T1 m1;have b1:=h1.tiles.box T1 m1
 -- a place within both
 let v:Pt:=⟨3 * (T1.A.x+T1.B.x+T1.C.x) - 3 * x.x,3 * (T1.A.y+T1.B.y+T1.C.y) - 3 * x.y⟩
 let K:Int:=big 3 T1 v+big 3 T2 v+1
 have hK:0 < K:=by show 0 < big 3 T1 v+big 3 T2 v+1;unfold big;omega
 have n1:=zHt (M:=3) (by omega) p1 x1;have n2:=zKn x2 v;have g2:∀ (T:Tri3),near 3 T x v→big 3 T v < K→insM (K * 3) T ⟨K * x.x+v.x,K * x.y+v.y⟩:=by
  intro T ⟨k1,k2,k3⟩ hb;unfold big at hb;exact ⟨zEx (by omega) hK k1 (zCg 3 K _ _ x v) (by omega),zEx (by omega) hK k2 (zCg 3 K _ _ x v) (by omega),zEx (by omega) hK k3 (zCg 3 K _ _ x v) (by omega)⟩
 have i1:=g2 T1 n1 (by show big 3 T1 v < big 3 T1 v+big 3 T2 v+1;unfold big;omega);have i2:=g2 T2 n2 (by show big 3 T2 v < big 3 T1 v+big 3 T2 v+1;unfold big;omega);generalize hy:(⟨K * x.x+v.x,K * x.y+v.y⟩:Pt)=y at i1 i2
 have hK3:0 < K * 3:=by omega
 generalize K * 3=N at *
 have weak:∀ {T:Tri3},insM N T y→hasM N T y:=fun ⟨k1,k2,k3⟩=>⟨by omega,by omega,by omega⟩;have s1:∀ q,isCnr T2 q→pH ht q T1≤0:=fun q hq=>seen hW hH h1 h2.tiles w1 v2 hh m2 hq m1 hK3 i2 (weak i1);have s2:∀ q,isCnr T1 q→pH ht q T2≤0:=fun q hq=>seen hW hH h2 h1.tiles w2 v1 hh m1 hq m2 hK3 i1 (weak i2);have pl:=planes ht T2.A T2.B T2.C T1.A T1.B T1.C y N;have a1:=s1 T2.A (.inl rfl);have a2:=s1 T2.B (.inr (.inl rfl));have a3:=s1 T2.C (.inr (.inr rfl));have a4:=s2 T1.A (.inl rfl);have a5:=s2 T1.B (.inr (.inl rfl));have a6:=s2 T1.C (.inr (.inr rfl));unfold pH at a1 a2 a3 a4 a5 a6;have np:∀ u w:Int,0 < u→w≤0→u * w≤0:=fun u w hu hw=>jC1 (by omega) hw;have e1:=np _ _ i2.2.1 a1;have e2:=np _ _ i2.2.2 a2;have e3:=np _ _ i2.1 a3;have e4:=np _ _ i1.2.1 a4;have e5:=np _ _ i1.2.2 a5;have e6:=np _ _ i1.1 a6;have zz:∀ u w:Int,0 < u→u * w=0→w=0:=fun u w hu h=>(jA7.1 h).resolve_left (by omega);have f1:=zz _ _ i2.2.1 (show det (sc N T2.B) (sc N T2.C) y * PH ht T1.A T1.B T1.C T2.A=0 by omega);have f2:=zz _ _ i2.2.2 (show det (sc N T2.C) (sc N T2.A) y * PH ht T1.A T1.B T1.C T2.B=0 by omega);have f3:=zz _ _ i2.1 (show det (sc N T2.A) (sc N T2.B) y * PH ht T1.A T1.B T1.C T2.C=0 by omega);have cn:∀ q,inBox W H q→PH ht T1.A T1.B T1.C q=0→q=T1.A∨q=T1.B∨q=T1.C:=by
  intro q hq hz;refine jAd fun k=>?_;simp only [jFd] at k;have:=hh.sign _ _ _ q (vb _ b1.1) (vb _ b1.2.1) (vb _ b1.2.2) (vb _ hq) p1 k.1 k.2.1 k.2.2;omega
 have q1:=cn _ b2.1 f1;have q2:=cn _ b2.2.1 f2;have q3:=cn _ b2.2.2 f3;obtain ⟨d1,d2,d3⟩:=zAb p2;have turn:∀ a b c:Pt,0 < det a b c→0 < det a c b→False:=fun a b c k1 k2=>by
  have:det a c b = - det a b c:=by unfold det;grind
  omega
 unfold Cyc;generalize T1.A=A at *
 generalize T1.B=B at *
 generalize T1.C=C at *
 have cA:=zAh A B C;have cB:=zAh B C A;have k1:=zAh A C B;have k2:=zAh C B A;have sw:det A C B = - det A B C:=by unfold det;grind
 rcases q1 with q1 | q1 | q1 <;> rcases q2 with q2 | q2 | q2 <;> rcases q3 with q3 | q3 | q3
 all_goals first
  | (exfalso;apply d1;rw [q1,q2];done)
  | (exfalso;apply d2;rw [q2,q3];done)
  | (exfalso;apply d3;rw [q3,q1];done)
  | (exfalso;rw [q1,q2,q3] at p2;omega)
  | exact .inl ⟨q1,q2,q3⟩
  | exact .inr (.inl ⟨q1,q2,q3⟩)
  | exact .inr (.inr ⟨q1,q2,q3⟩)
end
end Go.Proofs.YtogffkimgmlilaaGreat
