/- Put together: EdgB. -/
import Derived.Test.YtogffkimgmlilaaGreatPfb39
set_option maxRecDepth 100000
set_option maxHeartbeats 8000000
set_option linter.all false
namespace Go.Proofs.YtogffkimgmlilaaGreat
section
open Go.RowKit
theorem zFr {E:Es} {L M:List Tri3} (g:Good E L) (k:Good E M):L.Perm M:=g.heads.symm.trans k.heads
theorem edgeL.perm {L M:List Tri3} {a b:Pt} (h:edgeL L a b) (p:L.Perm M):edgeL M a b:=h.imp (flat_perm p).mem_iff.1 (flat_perm p).mem_iff.1
theorem zH7 (p a b:Pt):onS p b a=onS p a b:=by
 rw [on_eq,on_eq,jCs];unfold onR btw;simp only [jA3,jA4];have:=zAd a b p;constructor <;> rintro ⟨v1,v2,v3,z,b1,b2⟩ <;> exact ⟨v1,v3,v2,by omega,by omega,by omega⟩
theorem has_on {a b c p:Pt} (hp:0 < det a b c) (va:vld a=true) (vb:vld b=true) (vp:vld p=true) (z:det a b p=0) (k1:0≤det b c p) (k2:0≤det c a p):onS p a b=true:=by
 have e:det a b c=det a b p+det b c p+det c a p:=by unfold det;grind
 have x1:det a b c * (p.x - a.x)=det c a p * (b.x - a.x):=by
  have:det a b c * (p.x - a.x)=det c a p * (b.x - a.x)+det a b p * (c.x - a.x):=by unfold det;grind
  rw [this,z,jB1,jD1]
 have x2:det a b c * (p.y - a.y)=det c a p * (b.y - a.y):=by
  have:det a b c * (p.y - a.y)=det c a p * (b.y - a.y)+det a b p * (c.y - a.y):=by unfold det;grind
  rw [this,z,jB1,jD1]
 have y1:=zNt hp k2 (by omega) x1;have y2:=zNt hp k2 (by omega) x2;rw [on_eq];unfold onR;rw [va,vb,vp,z,y1,y2];rfl
theorem zM8 {p a b:Pt} (h:onS p a b=true):det a b p=0:=by
 rw [on_eq] at h;unfold onR at h;simp only [jA3,jA4] at h;exact h.2.2.2.1
theorem zEw {a b c p:Pt} (hp:0 < det a b c) (z1:det a b p=0) (z2:det b c p=0):p=b:=by
 have x1:det a b c * (p.x - b.x)=0:=by
  have:det a b c * (p.x - b.x)=det b c p * (a.x - b.x)+det a b p * (c.x - b.x):=by unfold det;grind
  rw [this,z1,z2];simp
 have x2:det a b c * (p.y - b.y)=0:=by
  have:det a b c * (p.y - b.y)=det b c p * (a.y - b.y)+det a b p * (c.y - b.y):=by unfold det;grind
  rw [this,z1,z2];simp
 rcases jA7.1 x1 with k | k
 ·omega
 ·rcases jA7.1 x2 with j | j
  ·omega
  ·exact Pt.eq_iff.2 ⟨by omega,by omega⟩
section
variable {W H:Int} {E:Es} {L:List Tri3} {p:Pt} (hW:W < 16777216) (hH:H < 16777216) (g:Good E L) (t:Tiles W H L)
include hW hH g t
theorem add_edges (hW0:0 < W) (hH0:0 < H) (hp:inBox W H p) (hn:¬ someC L p) {L1:List Tri3} (g1:Good (addPE E p) L1):(∀ a b,(a,b)∈L.flatMap ways→onS p a b=false→(a,b)∈L1.flatMap ways)∧(∀ a b,(a,b)∈L.flatMap ways→onS p a b=true→(a,p)∈L1.flatMap ways∧(p,b)∈L1.flatMap ways):=by
 have vb:∀ q,inBox W H q→vld q=true:=fun q hq=>by rw [zAm];unfold inBox at hq;omega
 have vp:=vb _ hp;obtain ⟨h1,h2⟩:=zNe hW hH g hp;have hn':∀ T∈L,¬ isCnr T p:=fun T hT hc=>hn ⟨T,hT,hc⟩;obtain ⟨F,hF,f1,f2⟩:=t.spots hW0 hH0 hp hn' h2;have fa:=h1.trans f1;have hcut:∀ T∈atE E p,(cutS p T).Perm (cutP p T):=by
  intro T hT;have hm:=jAq.1 (h1.mem_iff.1 hT);have hc:=hn' T hm.1;have:cutOk T p=true:=by
   unfold cutOk isCnr at *;simp only [jFd] at hc;rw [hm.2,zBr.2 hc.1,zBr.2 hc.2.1,zBr.2 hc.2.2];rfl
  unfold cutS cutR;rw [jAc this];exact srt_perm _
 obtain ⟨t',tv⟩:=zK4 t hW0 hH0 hW hH hp hn' hF f2;have pI:((atE E p).flatMap (cutS p)).Perm (F.flatMap (cutP p)):=(zHp hcut).trans (fa.flatMap_right _);have g2:Good (addPE E p) ((atE E p).flatMap (cutS p) ++ L.filter (fun x => !hasP x p)):=by
  unfold addPE;rw [zI1];have k:=Good.takesF (F:=atE E p) (E:=E) (M:=L.filter fun x => !hasP x p) (g.order (f2.trans (fa.symm.append_right _)));refine Good.putsF k (fun U hU=>(tv U (pI.mem_iff.1 hU)).1) ?_;exact (flat_perm (pI.append_right _)).nodup_iff.2 t'.once
 have pL:=flat_perm (zFr g2 g1);have inC:∀ {T U:Tri3} {w:Pt×Pt},T∈L→hasP T p=true→U∈cutP p T→w∈ways U→w∈L1.flatMap ways:=fun {T U w} hT hh hU hw=>by
  have hA:T∈atE E p:=h1.mem_iff.2 (jAq.2 ⟨hT,hh⟩);exact pL.mem_iff.1 (jAh.2 ⟨U,jB4 _ (jAh.2 ⟨T,hA,(hcut T hA).mem_iff.2 hU⟩),hw⟩)
 constructor
 ·intro a b hm ho;obtain ⟨T,hT,c,hc,hpos⟩:=t.way_of hm;by_cases hh:hasP T p=true
  ·have hs:=(h2 T hT).1 hh;have bx:=t.cyc_box hT hc;have by':=t.cyc_box hT hc.turn;have d3:0≤det a b p∧0≤det b c p∧0≤det c a p:=by
    rcases hc with ⟨rfl,rfl,rfl⟩ | ⟨rfl,rfl,rfl⟩ | ⟨rfl,rfl,rfl⟩
    ·exact hs
    ·exact ⟨hs.2.1,hs.2.2,hs.1⟩
    ·exact ⟨hs.2.2,hs.1,hs.2.1⟩
   have hd:0 < det a b p:=by
    rcases jBo d3.1 with k | k
    ·exact k
    ·rw [has_on hpos (vb _ bx) (vb _ by') vp k.symm d3.2.1 d3.2.2] at ho;cases ho
   have hU:mk a b p∈cutP p T:=by
    rw [(zD0 hc p).mem_iff,zB3 (vb _ bx) (vb _ by') vp hd];simp
   exact inC hT hh hU (zB2 (vb _ bx) (vb _ by') vp hd).1.way
  ·exact pL.mem_iff.1 (jAh.2 ⟨T,jBa _ (jAq.2 ⟨hT,by simpa using hh⟩),hc.way⟩)
 ·intro a b hm ho;obtain ⟨T,hT,c,hc,hpos⟩:=t.way_of hm;have hh:=zNm hc hpos ho;have hhP:=(h2 T hT).2 hh;have hz:=zM8 ho;have bx:=t.cyc_box hT hc;have by':=t.cyc_box hT hc.turn;have bz:=t.cyc_box hT hc.turn.turn;have hcn:¬ (p=a∨p=b∨p=c):=fun k=>hn' T hT ((hc.cnr_iff p).2 k);simp only [jFd] at hcn;have d3:0≤det b c p∧0≤det c a p:=by
   rcases hc with ⟨rfl,rfl,rfl⟩ | ⟨rfl,rfl,rfl⟩ | ⟨rfl,rfl,rfl⟩
   ·exact hh.2
   ·exact ⟨hh.2.2,hh.1⟩
   ·exact ⟨hh.1,hh.2.1⟩
  have e2:det c a b=det a b c:=by unfold det;grind
  have d4:0 < det b c p:=by
   rcases jBo d3.1 with k | k
   ·exact k
   ·exact absurd (zEw hpos hz k.symm) hcn.2.1
  have d5:0 < det c a p:=by
   rcases jBo d3.2 with k | k
   ·exact k
   ·exact absurd (zEw (a:=c) (b:=a) (c:=b) (by omega) k.symm hz) hcn.1
  have hU:mk b c p∈cutP p T:=by
   rw [(zD0 hc p).mem_iff,zB3 (vb _ by') (vb _ bz) vp d4];simp
  have hV:mk c a p∈cutP p T:=by
   rw [(zD0 hc p).mem_iff,zB3 (vb _ bz) (vb _ bx) vp d5];simp
  exact ⟨inC hT hhP hV (zB2 (vb _ bz) (vb _ bx) vp d5).1.turn.way,inC hT hhP hU (zB2 (vb _ by') (vb _ bz) vp d4).1.turn.turn.way⟩
omit hW hH g in
theorem on_single (hn:¬ someC L p) {a b c d:Pt} (e1:edgeL L a b) (e2:edgeL L c d) (o1:onS p a b=true) (o2:onS p c d=true):(a=c∧b=d)∨(a=d∧b=c):=by
 have main:∀ {a b c d:Pt},(a,b)∈L.flatMap ways→(c,d)∈L.flatMap ways→onS p a b=true→onS p c d=true→(a=c∧b=d)∨(a=d∧b=c):=by
  intro a b c d m1 m2 o1 o2;obtain ⟨S,hS,s,cS,pS⟩:=t.way_of m1;obtain ⟨T,hT,u,cT,pT⟩:=t.way_of m2;have hh:=zNm cT pT o2;have h1:=zNm cS pS o1;have z1:=zM8 o1;have z2:=zM8 o2;have nS:¬ (p=a∨p=b∨p=s):=fun k=>hn ⟨S,hS,(cS.cnr_iff p).2 k⟩;have nT:¬ (p=c∨p=d∨p=u):=fun k=>hn ⟨T,hT,(cT.cnr_iff p).2 k⟩;simp only [jFd] at nS nT;have d3:0≤det b s p∧0≤det s a p:=by
   rcases cS with ⟨rfl,rfl,rfl⟩ | ⟨rfl,rfl,rfl⟩ | ⟨rfl,rfl,rfl⟩
   ·exact h1.2
   ·exact ⟨h1.2.2,h1.1⟩
   ·exact ⟨h1.1,h1.2.1⟩
  have hedg:edg a b s p:=by
   refine ⟨z1,?_,?_⟩
   ·rcases jBo d3.1 with k | k
    ·exact k
    ·exact absurd (zEw pS z1 k.symm) nS.2.1
   ·rcases jBo d3.2 with k | k
    ·exact k
    ·have e2:det s a b=det a b s:=by unfold det;grind
     exact absurd (zEw (a:=s) (b:=a) (c:=b) (by omega) k.symm z1) nS.1
  have hcT:¬ isCnr T p:=fun k=>by
   have:=(cT.cnr_iff p).1 k;simp only [nT,or_self] at this
  have same:∀ {x y:Pt},(x,y)∈ways T→det x y p=0→x=c∧y=d:=by
   intro x y hw hz;have:=cT.ways.mem_iff.1 hw;simp only [jA1,jB6,jA6,jAw] at this;rcases this with k | ⟨k1,k2⟩ | ⟨k1,k2⟩ <;> try rw [k1,k2] at hz
   ·exact k
   ·exact absurd (zEw pT z2 hz) nT.2.1
   ·have e2:det u c d=det c d u:=by unfold det;grind
    exact absurd (zEw (a:=u) (b:=c) (c:=d) (by omega) hz z2) nT.1
  rcases t.edg_two hS hT cS hedg hh hcT with e | ⟨k,_⟩
  ·rw [e] at same;exact .inl (same cS.way z1)
  ·have:=same k (by have:=zAd a b p;omega);exact .inr ⟨this.2,this.1⟩
 rcases e1 with e1 | e1 <;> rcases e2 with e2 | e2
 ·exact main e1 e2 o1 o2
 ·rw [←zH7] at o2;rcases main e1 e2 o1 o2 with ⟨k1,k2⟩ | ⟨k1,k2⟩
  ·exact .inr ⟨k1,k2⟩
  ·exact .inl ⟨k1,k2⟩
 ·rw [←zH7] at o1;rcases main e1 e2 o1 o2 with ⟨k1,k2⟩ | ⟨k1,k2⟩
  ·exact .inr ⟨k2,k1⟩
  ·exact .inl ⟨k2,k1⟩
 ·rw [←zH7] at o1 o2;rcases main e1 e2 o1 o2 with ⟨k1,k2⟩ | ⟨k1,k2⟩
  ·exact .inl ⟨k2,k1⟩
  ·exact .inr ⟨k2,k1⟩
end
structure WInv (L:List Tri3) (D:List Wl):Prop where
 good:∀ x∈D,GoodW x
 ris:Ris D
 apart:Apart D
 edge:∀ x∈D,edgeL L x.A x.B
theorem put_ris {D:List Wl} {X:Wl} {k:Nat} (hr:Ris D) (h:PutAt D X k) (hne:∀ x∈D,x≠X):Ris (insW D X k):=by
 obtain ⟨q0,q1,q2⟩:=h;have lt:∀ (i:Nat) (hi:i < D.length),¬ 0 < cmpW D[i] X→cmpW D[i] X < 0:=fun i hi hh=>by
  have:cmpW D[i] X≠0:=fun e=>hne _ (jAx hi) (cmpW_eq0.1 e);omega
 unfold insW;exact (rising_insert wholeW hr q0 (fun i hi=>by
  have hk:k - 1 < D.length:=by omega
  have h1:=lt (k - 1) hk (q2 hk (by omega));rcases jCm i (k - 1) with h3 | h3
  ·exact wholeW.trans (rising_lt hr (by omega) hk h3) h1
  ·have e:i=k - 1:=by omega
   subst e;exact h1) (fun i h1 h2=>q1 i h2 h1)).1
theorem zF5 (D:List Wl) (X:Wl) (k:Nat):(insW D X k).Perm (X :: D):=zCh k
theorem ris_sub {D M:List Wl} (h:Ris D) (s:M.Sublist D):Ris M:=List.Pairwise.sublist s h
theorem zJx {D:List Wl} {k:Nat}:(D.take k ++ D.drop (k+1)).Sublist D:=by
 have e:D=D.take k ++ D.drop k:=(jBu k D).symm
 conv=>rhs;rw [e]
 exact (List.Sublist.refl _).append (by rw [←jF6];exact List.drop_sublist _ _)
theorem zG7 {X:Wl} {p:Pt} (hX:GoodW X) (ho:onR p X.A X.B=true) (h1:p≠X.A) (h2:p≠X.B):cmpP X.A p < 0∧cmpP p X.B < 0:=by
 have hn:X.A≠X.B:=fun e=>by have:=hX.ab;rw [e,cmpP_eq0.2 rfl] at this;omega
 have hab:=hX.ab;have ho':=ho;unfold onR at ho';simp only [jA3,jA4] at ho';obtain ⟨_,_,_,hd,b1,b2⟩:=ho';have k:=(on_k hn hd).2 ((btw_k hn hd).1 (by rw [b1,b2];rfl));have a0:cmpP X.A p≠0:=fun e=>h1 (cmpP_eq0.1 e).symm;have b0:cmpP p X.B≠0:=fun e=>h2 (cmpP_eq0.1 e);have sg:∀ x y:Pt,cmpP x y = -1∨cmpP x y=0∨cmpP x y=1:=fun x y=>by
  unfold cmpP cmpN;split
  ·rcases zA8 (x.y - y.y) with ⟨e,_⟩ | ⟨e,_⟩ | ⟨e,_⟩ <;> rw [e] <;> simp
  ·rcases zA8 (x.x - y.x) with ⟨e,_⟩ | ⟨e,_⟩ | ⟨e,_⟩ <;> rw [e] <;> simp
 have s1:=sg X.A p;have s2:=sg p X.B;rcases s1 with e | e | e
 ·rcases s2 with f | f | f
  ·omega
  ·omega
  ·rw [e,f] at k;omega
 ·omega
 ·rcases s2 with f | f | f
  ·rw [e,f] at k;omega
  ·omega
  ·exfalso
   have n1:=zAv X.A p;have n2:=zAv p X.B;have:=wholeP.trans (x:=X.B) (y:=p) (z:=X.A) (by omega) (by omega);have n3:=zAv X.A X.B;omega
theorem winv_add {W H:Int} (hW0:0 < W) (hH0:0 < H) (hW:W < 16777216) (hH:H < 16777216) {E:Es} {L L1:List Tri3} {D D':List Wl} {p:Pt} (g:Good E L) (t:Tiles W H L) (hI:WInv L D) (hp:inBox W H p) (hn:¬ someC L p) (hA:AddD D p D') (g1:Good (addPE E p) L1) (t1:Tiles W H L1):WInv L1 D':=by
 have vb:∀ q,inBox W H q→vld q=true:=fun q hq=>by rw [zAm];unfold inBox at hq;omega
 obtain ⟨a1,a2⟩:=add_edges hW hH g t hW0 hH0 hp hn g1;have stays:∀ {a b:Pt},edgeL L a b→onS p a b=false→edgeL L1 a b:=fun {a b} he ho=>by
  rcases he with he | he
  ·exact .inl (a1 _ _ he ho)
  ·exact .inr (a1 _ _ he (by rw [zH7];exact ho))
 have cuts:∀ {a b:Pt},edgeL L a b→onS p a b=true→edgeL L1 a p∧edgeL L1 p b:=fun {a b} he ho=>by
  rcases he with he | he
  ·exact ⟨.inl (a2 _ _ he ho).1,.inl (a2 _ _ he ho).2⟩
  ·have k:=a2 _ _ he (by rw [zH7];exact ho);exact ⟨.inr k.2,.inr k.1⟩
 have ends:∀ {a b:Pt},edgeL L a b→p≠a∧p≠b:=fun {a b} he=>by
  obtain ⟨_,⟨c1,c2⟩,_⟩:=t.edge_box he;exact ⟨fun e=>hn (e▸c1),fun e=>hn (e▸c2)⟩
 rcases hA with ⟨hf,rfl⟩ | ⟨X,r,D1,k1,k2,hf,hR,p1,p2,rfl⟩
 ·refine ⟨hI.good,hI.ris,hI.apart,fun x hx=>?_⟩;refine stays (hI.edge x hx) ?_;have h0:=jDa.1 hf x hx;obtain ⟨n1,n2⟩:=ends (hI.edge x hx);rw [on_eq];unfold onD at h0
  simpa [n1,n2] using h0
 ·have hXm:=jC6 hf;have hX:=hI.good X hXm;have hXe:=hI.edge X hXm;obtain ⟨n1,n2⟩:=ends hXe;have ho:onR p X.A X.B=true:=by
   have:=jE6 hf;unfold onD at this
   simpa [n1,n2] using this
  have ho':onS p X.A X.B=true:=by rw [on_eq];exact ho
  obtain ⟨cA,cB⟩:=zG7 hX ho n1 n2;obtain ⟨eA,eB⟩:=cuts hXe ho';have hlo:rl X.A X.B=X.A∧rg X.A X.B=X.B:=by unfold rl rg;rw [jAc hX.ab,jAc hX.ab];exact ⟨rfl,rfl⟩
  rw [hlo.1,hlo.2] at hR;have hD1:D1.Sublist D∧∀ y∈D1,y∈D∧meetS X.A X.B y.A y.B=0:=by
   rcases hR with ⟨_,_,h0⟩ | ⟨_,k,hk,hw,e⟩
   ·have:=h0 X hXm;rw [zGe.2 ⟨rfl,rfl⟩] at this;cases this
   ·rw [e];refine ⟨zJx,fun y hy=>⟨zJx.mem hy,?_⟩⟩;obtain ⟨w1,w2⟩:=zGe.1 hw;have hp':D.Perm (D[k] :: (D.take k ++ D.drop (k+1))):=by
     have e2:D=D.take k ++ D[k] :: D.drop (k+1):=by
      rw [jEj hk,jBu]
     have:=jC2 (a:=D[k]) (l₁:=D.take k) (l₂:=D.drop (k+1));rw [←e2] at this;exact this
    have:=jBk.1 (zEv hp' hI.apart);have h3:=this.1 y hy;rw [w1,w2] at h3;exact h3
  obtain ⟨hsub,hD1⟩:=hD1;have ne1:∀ y∈D1,¬ (y.A=p∨y.B=p):=fun y hy k=>by
   obtain ⟨m1,m2⟩:=ends (hI.edge y (hD1 y hy).1);rcases k with k | k
   ·exact m1 k.symm
   ·exact m2 k.symm
  have hye:∀ y∈D1,edgeL L1 y.A y.B:=fun y hy=>by
   refine stays (hI.edge y (hD1 y hy).1) ?_;cases hoy:onS p y.A y.B with
   | false=>rfl
   | true=>
    exfalso
    have gy:=hI.good y (hD1 y hy).1;rcases on_single t hn hXe (hI.edge y (hD1 y hy).1) ho' hoy with ⟨e1,e2⟩ | ⟨e1,e2⟩
    ·have h3:=(hD1 y hy).2;rw [←e1,←e2] at h3;exact zEg hX h3
    ·have k1:=hX.ab;have k2:=gy.ab;rw [e1,e2,zAv] at k1;omega
  have gA:GoodW ⟨X.A,p,X.K⟩:=⟨hX.va,vb _ hp,cA,hX.k⟩;have gB:GoodW ⟨p,X.B,X.K⟩:=⟨vb _ hp,hX.vb,cB,hX.k⟩;have q1:=zF5 D1 ⟨X.A,p,X.K⟩ k1;have q2:=zF5 (insW D1 ⟨X.A,p,X.K⟩ k1) ⟨p,X.B,X.K⟩ k2;have q:=q2.trans (q1.cons _);have mem:∀ {x},x∈insW (insW D1 ⟨X.A,p,X.K⟩ k1) ⟨p,X.B,X.K⟩ k2→x=⟨p,X.B,X.K⟩∨x=⟨X.A,p,X.K⟩∨x∈D1:=fun {x} hx=>by
   have:=q.mem_iff.1 hx
   simpa using this
  refine ⟨fun x hx=>?_,?_,?_,fun x hx=>?_⟩
  ·rcases mem hx with rfl | rfl | hx
   ·exact gB
   ·exact gA
   ·exact hI.good x (hD1 x hx).1
  ·refine put_ris (put_ris (ris_sub hI.ris hsub) p1 (fun x hx e=>ne1 x hx (.inr (by rw [e])))) p2 (fun x hx e=>?_);rcases jA1.1 (q1.mem_iff.1 hx) with k | k
   ·rw [e] at k;simp only [Wl.mk.injEq] at k;exact n1 k.1
   ·exact ne1 x k (.inl (by rw [e]))
  ·refine zEv q.symm ?_;refine jBk.2 ⟨fun y hy=>?_,jBk.2 ⟨fun y hy=>?_,List.Pairwise.sublist hsub hI.apart⟩⟩
   ·rcases jA1.1 hy with rfl | hy
    ·exact t1.edges_apart hW hH eB eA (by rintro (⟨k,_⟩ | ⟨_,k⟩);exact n1 k;exact (fun k2=>by have:=hX.ab;rw [←k2,cmpP_eq0.2 rfl] at this;omega) k.symm)
    ·exact t1.edges_apart hW hH eB (hye y hy) (by rintro (⟨k,_⟩ | ⟨k,_⟩);exact ne1 y hy (.inl k.symm);exact ne1 y hy (.inr k.symm))
   ·exact t1.edges_apart hW hH eA (hye y hy) (by rintro (⟨_,k⟩ | ⟨_,k⟩);exact ne1 y hy (.inr k.symm);exact ne1 y hy (.inl k.symm))
  ·rcases mem hx with rfl | rfl | hx
   ·exact eB
   ·exact eA
   ·exact hye x hx
theorem winv_wll {L:List Tri3} {D:List Wl} (h:WInv L D) {x:Wl} (hx:x∈D):wll D x.A x.B:=by
 have hg:=h.good x hx;unfold wll;rw [kindD_eq h.good,(good_lo hg).1,(good_lo hg).2,kind_own h.apart h.good hx];have:=hg.k;omega
theorem WInv.kept {L L':List Tri3} {D:List Wl} (h:WInv L D) (k:Kept (wll D) L L'):WInv L' D:=by
 refine ⟨h.good,h.ris,h.apart,fun x hx=>?_⟩;have hw:=winv_wll h hx;rcases h.edge x hx with e | e
 ·exact .inl (k.wall _ _ hw e)
 ·exact .inr (k.wall _ _ (by unfold wll at *;rw [zCw];exact hw) e)
theorem WInv.perm {L L':List Tri3} {D:List Wl} (h:WInv L D) (p:L.Perm L'):WInv L' D:=⟨h.good,h.ris,h.apart,fun x hx=>(h.edge x hx).perm p⟩
end
end Go.Proofs.YtogffkimgmlilaaGreat
