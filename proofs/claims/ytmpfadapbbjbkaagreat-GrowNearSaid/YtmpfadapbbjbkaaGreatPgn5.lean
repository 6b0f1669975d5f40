import Derived.Test.YtmpfadapbbjbkaaGreatPgn4
import Derived.Deep.Cut
set_option maxRecDepth 100000
set_option maxHeartbeats 8000000
set_option linter.all false
namespace Go.Proofs.YtmpfadapbbjbkaaGreat
open _root_.Go.Proofs.Tryz
section
open Go.RowKit
theorem Good.same {D E:Es} {L:List Tri3} (g:Good E L) (p:D.Perm E):Good D L:=⟨p.trans g.perm,g.nodup.perm p.symm,g.val⟩
theorem flip_doc {E E' D:Es} {L L':List Tri3} {p q:Pt} {r:Int} (g:Good E L) (pD:D.Perm E) (g':Good E' L') (h:FlipC E L p q r L'):(flipD D p q).1=r/\Good (flipD D p q).2 L':=by
 have gD:=g.same pD;rcases h with ⟨h1,h2,h3⟩ | ⟨S,R,h0,h1,h⟩
 ·rw [yn (by rw [jI gD.nodup pD,jI gD.nodup pD];exact h2)];exact ⟨h1.symm,gD.order h3.symm⟩
 ·have k0:getE D (p,q)=some S:=by rw [jI gD.nodup pD];exact h0
  have k1:getE D (q,p)=some R:=by rw [jI gD.nodup pD];exact h1
  rw [xL k0 k1];obtain ⟨⟨mS,mR⟩,⟨cS,cR⟩,⟨p1,p2⟩,vp,vq,vc,vd⟩:=qQ gD k0 k1;obtain ⟨C,eC⟩:∃ C,apx S p q=C:=⟨_,rfl⟩;obtain ⟨F,eF⟩:∃ F,apx R p q=F:=⟨_,rfl⟩;rw [eC,eF] at h;rw [eC] at cS p1 vc;rw [eF] at cR p2 vd;rw [eC,eF];have s1:det p q F = -det q p F:=by unfold det;grind
  have s2:det C F p = -det p F C:=by unfold det;grind
  have s3:det C F q=det F q C:=by unfold det;grind
  have hcr:meetS p q C F=1↔0 < ori p F C/\0 < ori F q C:=by
   rw [vN,kM,qJ vp vd vc,qJ vd vq vc];constructor
   ·rintro ⟨_,_,h2⟩;have:det p F C+det F q C=det p q C+det q p F:=by unfold det;grind
    omega
   ·rintro ⟨o1,o2⟩;exact ⟨⟨vp,vq,vc,vd⟩,by omega,by omega⟩
  rcases h with ⟨hm,hr,hp⟩ | ⟨hm,hR⟩
  ·rw [Kl (λhc=>hm (hcr.2 ⟨hc.1,hc.2.1⟩))];exact ⟨hr.symm,gD.order hp.symm⟩
  ·obtain ⟨o1,o2⟩:=hcr.1 hm;rw [<-Z3 C p F] at hR;have hne:S≠R:=by
    rintro rfl;obtain ⟨n1,n2,n3⟩:=zP p1;rcases (cR.cnr_iff C).1 cS.turn.turn.cnr with e | e | e
    ·exact n2 e.symm
    ·exact n3 e
    ·rw [<-e] at s1 p2;omega
   obtain ⟨M,hM⟩:=k6 mS mR hne;have hFC:F≠C:=by
    intro e;rw [e] at s1 p2;omega
   by_cases hfree:getE D (F,C)=none/\getE D (C,F)=none
   ·obtain ⟨_,M2,hM2,gF⟩:=xc gD k0 k1 eC eF o1 o2 hfree.1 hfree.2;rw [J1 ⟨o1,o2,hfree.1,hfree.2⟩];have gE:=g.order (show L.Perm ([S,R] ++ M2) from hM2);obtain ⟨t1,t2⟩:=Good.takes gE;have hnod:(([mk p F C,mk F q C] ++ M2).flatMap ways).Nodup:=gF.once;have hval:∀ T∈[mk p F C,mk F q C],valT T=true:=λT hT=>gF.val T (by
     simp only [Km,JB,Jj] at hT;rcases hT with rfl | rfl <;> simp)
    obtain ⟨t3,t4⟩:=Good.puts t2 hval hnod;rcases hR with ⟨_,h2,_⟩ | ⟨_,_,h3,_⟩ | ⟨h1',_,_,M3,p3,p4⟩
    ·exact absurd h2 (by rw [t1];omega)
    ·exact absurd h3 (by rw [t3];omega)
    ·refine ⟨h1'.symm,gF.order ?_⟩;have:M3.Perm M2:=(List.perm_append_left_iff [S,R]).1 (p3.symm.trans hM2);exact ((this.append_left [mk p F C,mk F q C]).symm).trans p4.symm
   ·rw [Kl (λhc=>hfree ⟨hc.2.2.1,hc.2.2.2⟩)];have hO:∃ O,O∈L/\((F,C)∈ways O\/(C,F)∈ways O):=by
     by_cases e:getE D (F,C)=none
     ·obtain ⟨O,hO⟩:=Option.ne_none_iff_exists'.1 (λe2=>hfree ⟨e,e2⟩);obtain ⟨a,b⟩:=gD.get.1 hO;exact ⟨O,a,.inr b⟩
     ·obtain ⟨O,hO⟩:=Option.ne_none_iff_exists'.1 e;obtain ⟨a,b⟩:=gD.get.1 hO;exact ⟨O,a,.inl b⟩
    obtain ⟨O,mO,wO⟩:=hO;obtain ⟨x1,x2⟩:=jb gD k0 k1 eC eF hFC wO;have gE:=g.order (show L.Perm ([S,R] ++ M) from hM);obtain ⟨t1,t2⟩:=Good.takes gE;rcases hR with ⟨_,h2,_⟩ | ⟨h1',_,_,h4⟩ | ⟨_,_,_,M3,p3,p4⟩
    ·exact absurd h2 (by rw [t1];omega)
    ·exact ⟨h1'.symm,gD.order h4.symm⟩
    ·exfalso
     have mO3:O∈M3:=by
      have:=p3.mem_iff.1 mO;simp only [Jn,Js,Km] at this;rcases this with rfl | rfl | h
      ·rw [k7.2 rfl] at x1;cases x1
      ·rw [k7.2 rfl] at x2;cases x2
      ·exact h
     have hnod:=(g'.order p4).once;simp only [Jn,Js,Ks] at hnod;rw [<-JE,Jb] at hnod;have d1:0 < det p F C:=(qJ vp vd vc).1 o1;have d2:0 < det F q C:=(qJ vd vq vc).1 o2;have v1:=(g'.order p4).val (mk p F C) (by simp);have v2:=(g'.order p4).val (mk F q C) (by simp);have w1:(F,C)∈ways (mk p F C):=(yG vp vd vc d1).1.turn.way;have w2:(C,F)∈ways (mk F q C):=(yG vd vq vc d2).1.turn.turn.way;rcases wO with wO | wO
     ·exact hnod.2.2 (F,C) (Jo _ w1) (F,C) (JH.2 ⟨O,mO3,wO⟩) rfl
     ·exact hnod.2.2 (C,F) (Jp _ w2) (C,F) (JH.2 ⟨O,mO3,wO⟩) rfl
theorem Y0 {h:Pt->Int} {L M:List Tri3} (p:L.Perm M) {a b:Pt} (k:dead h L a b):dead h M a b:=by
 obtain ⟨s,r,hs,hr,T,hT,k2⟩:=k;exact ⟨s,r,hs,hr,T,p.mem_iff.1 hT,k2⟩
theorem xx {W H:Int} {E:Es} {L:List Tri3} {Lw:List Wl} (g:Good E L) (t:Tiles W H L) (hg:∀ x∈Lw,GoodW x) {p q:Pt}:badP E Lw p q=true↔∃ S∈L,∃ R∈L,∃ c d,Cyc S p q c/\Cyc R q p d/\kindD Lw p q=0/\circ p q c d=1:=by
 unfold badP;rw [<-Z5 hg];constructor
 ·intro hb;cases h1:getE E (p,q) with
  | none=>rw [yV h1] at hb;simp at hb
  | some S=>
   cases h2:getE E (q,p) with
   | none=>rw [yV h2] at hb;simp at hb
   | some R=>
    obtain ⟨⟨mS,mR⟩,⟨cS,cR⟩,_⟩:=qQ g h1 h2;rw [zf h1,zf h2] at hb;simp only [Qj,Ko,Kn] at hb;exact ⟨S,mS,R,mR,_,_,cS,cR,hb.1,hb.2⟩
 ·rintro ⟨S,mS,R,mR,c,d,cS,cR,hk,hc⟩;have h1:=g.get.2 ⟨mS,cS.way⟩;have h2:=g.get.2 ⟨mR,cR.way⟩;obtain ⟨n1,n2,n3⟩:=zP (t.cyc_pos mS cS);obtain ⟨m1,m2,m3⟩:=zP (t.cyc_pos mR cR);rw [zf h1,zf h2];simp only [Qj,Ko,Kn];exact ⟨hk,by rw [(q9 cS n1 n2 n3).1,(q9 cR m1 m2 m3).2];exact hc⟩
theorem YE {W H:Int} (hW:W < 16777216) (hH:H < 16777216) {E:Es} {L:List Tri3} {Lw:List Wl} (g:Good E L) (t:Tiles W H L) (hg:∀ x∈Lw,GoodW x) {p q:Pt} (hb:badP E Lw p q=true):badP E Lw q p=true:=by
 have vb:∀ q,inBox W H q->vld q=true:=λq hq=>by rw [zj];unfold inBox at hq;omega
 obtain ⟨S,mS,R,mR,c,d,cS,cR,hk,hc⟩:=(xx g t hg).1 hb;refine (xx g t hg).2 ⟨R,mR,S,mS,d,c,cR,cS,by rw [qg];exact hk,?_⟩;have p1:=t.cyc_pos mS cS;have p2:=t.cyc_pos mR cR;have va:=vb _ (t.cyc_box mS cS);have vb':=vb _ (t.cyc_box mS cS.turn);have vc:=vb _ (t.cyc_box mS cS.turn.turn);have vd:=vb _ (t.cyc_box mR cR.turn.turn);have o1:¬ ori p q d=0:=by
  rw [ori_v va vb' vd,yY];rw [zV] at p2;omega
 have o2:¬ ori p q c=0:=by rw [ori_v va vb' vc,yY];omega
 have dc:c≠d:=by
  rintro rfl;rw [zV] at p2;omega
 have k:=YA o2 o1 dc.symm;rw [uj,k,hc];rfl
theorem badC_of {W H:Int} {E:Es} {L:List Tri3} {Lw:List Wl} (g:Good E L) (t:Tiles W H L) (hg:∀ x∈Lw,GoodW x) {p q c d:Pt} {S R:Tri3} (mS:S∈L) (mR:R∈L) (cS:Cyc S p q c) (cR:Cyc R q p d) (hk:kindD Lw p q=0):badC E Lw p q=(c,d):=by
 have h1:=g.get.2 ⟨mS,cS.way⟩;have h2:=g.get.2 ⟨mR,cR.way⟩;obtain ⟨n1,n2,n3⟩:=zP (t.cyc_pos mS cS);obtain ⟨m1,m2,m3⟩:=zP (t.cyc_pos mR cR);unfold badC;rw [<-Z5 hg,zf h1,zf h2,J1 ⟨rfl,rfl,hk⟩,(q9 cS n1 n2 n3).1,(q9 cR m1 m2 m3).2]
theorem KY (h:Pt->Int) (p q c d:Pt):PH h d c p q = -PH h p q c d:=by
 unfold PH;generalize h p=x
 generalize h q=y
 generalize h c=z
 generalize h d=w
 unfold det;grind
def four (p q c d:Pt):List (Pt×Pt):=[(p,c),(c,q),(q,d),(d,p)]
theorem mend_step {W H:Int} (hW:W < 16777216) (hH:H < 16777216) {h:Pt->Int} (hh:Hts h) {E E':Es} {L L':List Tri3} {Lw:List Wl} (g:Good E L) (t:Tiles W H L) (hg:∀ x∈Lw,GoodW x) {p q:Pt} (hb:badP E Lw p q=true) {r:Int} (g':Good E' L') (hf:FlipC E L p q r L'):r=0/\Tiles W H L'/\Kept (wll Lw) L L'/\volS h L' < volS h L/\edgeL L p q/\dead h L' p q/\(∀ a b,dead h L a b->dead h L' a b)/\(∀ x y,badP E' Lw x y=true->(badP E Lw x y=true/\¬ (x=p/\y=q)/\¬ (x=q/\y=p))\/(x,y)∈four p q (badC E Lw p q).1 (badC E Lw p q).2\/(y,x)∈four p q (badC E Lw p q).1 (badC E Lw p q).2)/\(∀ e∈four p q (badC E Lw p q).1 (badC E Lw p q).2,okW e):=by
 have vb:∀ q,inBox W H q->vld q=true:=λq hq=>by rw [zj];unfold inBox at hq;omega
 obtain ⟨S,mS,R,mR,c,d,cS,cR,hk,hc⟩:=(xx g t hg).1 hb;rw [badC_of g t hg mS mR cS cR hk];obtain ⟨hP,M,f⟩:=t.flip_bad (K:=wll Lw) hW hH hh mS mR cS cR ⟨λk=>k hk,λk=>k (by rw [qg];exact hk)⟩ hc;obtain ⟨fl,g2⟩:=f.go hW hH g t;have hs:=xL fl.h0 fl.h1;rw [fl.hC,fl.hD] at hs;have o1:0 < ori p d c:=by have:=fl.o1;simpa using this
 have o2:0 < ori d q c:=by have:=fl.o2;simpa using this
 rw [J1 ⟨o1,o2,fl.he,fl.hf⟩] at hs;obtain ⟨er,gd⟩:=flip_doc g (.refl _) g' hf;rw [hs] at er gd;have pm:=jH gd g2;have t2:=f.tiles t hW hH;have t':=t2.perm pm.symm;obtain ⟨⟨cU,_⟩,cV,_⟩:=f.news t hW hH;have dS:=t.cyc_pos mS cS;have dR:=t.cyc_pos mR cR;have mM:∀ T,T∈L->T≠S->T≠R->T∈mk c p d :: mk d q c :: M:=λT hT x y=>by
  have:=f.perm.mem_iff.1 hT;simp only [Km] at this;rcases this with k | k | k
  ·exact absurd k x
  ·exact absurd k y
  ·simp [k]
 have hU:mk c p d∈mk c p d :: mk d q c :: M:=by simp
 have hV:mk d q c∈mk c p d :: mk d q c :: M:=by simp
 have noX:∀ {x y u v:Pt} {S' R':Tri3},(x=d/\y=c)\/(x=c/\y=d)->S'∈mk c p d :: mk d q c :: M->R'∈mk c p d :: mk d q c :: M->Cyc S' x y u->Cyc R' y x v->circ x y u v=1->kindD Lw x y=0->False:=by
  intro x y u v S' R' hxy hS' hR' cS' cR' hc' hk';obtain ⟨k1,_⟩:=t2.flip_bad (K:=wll Lw) hW hH hh hS' hR' cS' cR' ⟨λk=>k hk',λk=>k (by rw [qg];exact hk')⟩ hc';rcases hxy with ⟨rfl,rfl⟩ | ⟨rfl,rfl⟩
  ·have e1:=yy t2.once hS' hU cS'.way cU.turn.turn.way;have e2:=yy t2.once hR' hV cR'.way cV.turn.turn.way;subst e1 e2;have e3:=cU.turn.turn.same2 cS' (t2.cyc_pos hU cU.turn.turn);have e4:=cV.turn.turn.same2 cR' (t2.cyc_pos hV cV.turn.turn);rw [e3,e4,KY] at k1;omega
  ·have e1:=yy t2.once hS' hV cS'.way cV.turn.turn.way;have e2:=yy t2.once hR' hU cR'.way cU.turn.turn.way;subst e1 e2;have e3:=cV.turn.turn.same2 cS' (t2.cyc_pos hV cV.turn.turn);have e4:=cU.turn.turn.same2 cR' (t2.cyc_pos hU cU.turn.turn);rw [e3,e4,KX,KY] at k1;omega
 have nd:=(zq f.perm).nodup_iff.1 t.once;rw [Ks,Ks,Jb] at nd;obtain ⟨_,nd2,nd1⟩:=nd;rw [Jb] at nd2;have notM:∀ {T:Tri3},T∈M->(p,q) ∉ ways T/\(q,p) ∉ ways T:=λ{T} hT=>by
  constructor
  ·intro k;exact nd1 (p,q) cS.way (p,q) (Jp _ (JH.2 ⟨T,hT,k⟩)) rfl
  ·intro k;exact nd2.2.2 (q,p) cR.way (q,p) (JH.2 ⟨T,hT,k⟩) rfl
 refine ⟨er.symm,t',(f.kept t hW hH).trans (Kept.perm pm.symm),?_,.inl (y6 mS cS.way),Y0 pm.symm (dead_new hU cU dS dR f.left f.right hP),λa b k=>Y0 pm.symm (dead_flip mM hU hV cS cR cU cV dS dR f.left f.right hP k),?_,?_⟩
 ·rw [ZG pm];exact f.less t hW hH hP
 ·intro x y hxy;obtain ⟨S',mS',R',mR',u,v,cS',cR',hk',hc'⟩:=(xx g' t' hg).1 hxy;have mS2:=pm.mem_iff.1 mS';have mR2:=pm.mem_iff.1 mR';by_cases hin:(x,y)∈four p q c d\/(y,x)∈four p q c d
  ·exact .inr hin
  ·left
   have nin:¬ (x,y)∈four p q c d/\¬ (y,x)∈four p q c d:=U8.1 hin;have nx:¬ ((x=d/\y=c)\/(x=c/\y=d)):=λk=>noX k mS2 mR2 cS' cR' hc' hk';unfold four at nin;simp only [Km,Ji,JB,Jj,U8] at nin;rw [U8] at nx;obtain ⟨⟨a1,a2,a3,a4⟩,b1,b2,b3,b4⟩:=nin;have inM:∀ {T:Tri3} {x y:Pt},T∈mk c p d :: mk d q c :: M->(x,y)∈ways T->¬ (x=p/\y=c)->¬ (x=c/\y=q)->¬ (x=q/\y=d)->¬ (x=d/\y=p)->¬ (y=p/\x=c)->¬ (y=c/\x=q)->¬ (y=q/\x=d)->¬ (y=d/\x=p)->¬ (x=d/\y=c)->¬ (x=c/\y=d)->T∈M:=by
    intro T x y hT hw a1 a2 a3 a4 b1 b2 b3 b4 n1 n2;rcases Km.1 hT with rfl | hT
    ·have:=cU.ways.mem_iff.1 hw;simp only [Km,Ji,JB,Jj] at this;rcases this with ⟨k1,k2⟩ | ⟨k1,k2⟩ | ⟨k1,k2⟩
     ·exact absurd ⟨k2,k1⟩ b1
     ·exact absurd ⟨k2,k1⟩ b4
     ·exact absurd ⟨k1,k2⟩ n1
    ·rcases Km.1 hT with rfl | hT
     ·have:=cV.ways.mem_iff.1 hw;simp only [Km,Ji,JB,Jj] at this;rcases this with ⟨k1,k2⟩ | ⟨k1,k2⟩ | ⟨k1,k2⟩
      ·exact absurd ⟨k2,k1⟩ b3
      ·exact absurd ⟨k2,k1⟩ b2
      ·exact absurd ⟨k1,k2⟩ n2
     ·exact hT
   have hSM:=inM mS2 cS'.way a1 a2 a3 a4 b1 b2 b3 b4 nx.1 nx.2;have hRM:=inM mR2 cR'.way b1 b2 b3 b4 a1 a2 a3 a4 (λk=>nx.2 ⟨k.2,k.1⟩) (λk=>nx.1 ⟨k.2,k.1⟩);refine ⟨(xx g t hg).2 ⟨S',f.perm.mem_iff.2 (by simp [hSM]),R',f.perm.mem_iff.2 (by simp [hRM]),u,v,cS',cR',hk',hc'⟩,?_,?_⟩
   ·rintro ⟨rfl,rfl⟩;exact (notM hSM).1 cS'.way
   ·rintro ⟨rfl,rfl⟩;exact (notM hSM).2 cS'.way
 ·obtain ⟨bp,bq,bc,bd⟩:=f.pts t;have op:=yW (vb _ bp);have oq:=yW (vb _ bq);have oc:=yW (vb _ bc);have od:=yW (vb _ bd);intro e he;unfold four at he;simp only [Km,JB,Jj] at he;rcases he with rfl | rfl | rfl | rfl
  ·exact ⟨op,oc⟩
  ·exact ⟨oc,oq⟩
  ·exact ⟨oq,od⟩
  ·exact ⟨od,op⟩
structure MSt (W H:Int) (h:Pt->Int) (Lw:List Wl) (L0:List Tri3) (n0:Nat) (E:Es) (L:List Tri3) (K:List (Pt×Pt)):Prop where
 good:Good E L
 tiles:Tiles W H L
 kept:Kept (wll Lw) L0 L
 ok:∀ e∈K,okW e
 cov:∀ x y,badP E Lw x y=true->(x,y)∈K\/(y,x)∈K
 gone:∃ F:List (Pt×Pt),F.Nodup/\(∀ e∈F,dead h L e.1 e.2/\someC L0 e.1/\someC L0 e.2)/\K.length<=n0+3 * F.length
theorem XP {L:List Tri3} {p:Pt}:p∈cnrs L↔someC L p:=by
 unfold cnrs someC isCnr;rw [JH];simp
theorem MSt.len {W H:Int} {h:Pt->Int} {Lw:List Wl} {L0:List Tri3} {n0:Nat} {E:Es} {L:List Tri3} {K:List (Pt×Pt)} (S:MSt W H h Lw L0 n0 E L K):K.length<=n0+27 * (L0.length * L0.length):=by
 obtain ⟨F,hd,hF,hl⟩:=S.gone;have k:=uK (l:=F) (m:=(cnrs L0).flatMap λa=>(cnrs L0).map λb=>(a,b)) hd (λe he=>by
  obtain ⟨_,h1,h2⟩:=hF e he;exact JH.2 ⟨e.1,XP.2 h1,JN.2 ⟨e.2,XP.2 h2,rfl⟩⟩)
 have e:∀ C D:List Pt,(C.flatMap λa=>D.map λb=>(a,b)).length=C.length * D.length:=λC D=>by
  induction C with
  | nil=>simp
  | cons a C ih=>rw [Ks,Kp,ih,Qq,JO,UI];omega
 rw [e,XQ] at k;have e2:3 * L0.length * (3 * L0.length)=9 * (L0.length * L0.length):=by
  rw [Nat.mul_mul_mul_comm]
 omega
theorem MSt.pop {W H:Int} {h:Pt->Int} {Lw:List Wl} {L0:List Tri3} {n0:Nat} {E:Es} {L:List Tri3} {K:List (Pt×Pt)} {e:Pt×Pt} (hW:W < 16777216) (hH:H < 16777216) (hg:∀ x∈Lw,GoodW x) (S:MSt W H h Lw L0 n0 E L (K ++ [e])) (hb:badP E Lw e.1 e.2=false):MSt W H h Lw L0 n0 E L K:=by
 refine ⟨S.good,S.tiles,S.kept,λx hx=>S.ok x (Jo _ hx),λx y hxy=>?_,?_⟩
 ·have ne1:(x,y)≠e:=λk=>by rw [<-k] at hb;simp only at hb;rw [hxy] at hb;cases hb
  have ne2:(y,x)≠e:=λk=>by
   have:=YE hW hH S.good S.tiles hg hxy;rw [<-k] at hb;simp only at hb;rw [this] at hb;cases hb
  rcases S.cov x y hxy with k | k
  ·rcases JG.1 k with k | k
   ·exact .inl k
   ·exact absurd (QX.1 k) ne1
  ·rcases JG.1 k with k | k
   ·exact .inr k
   ·exact absurd (QX.1 k) ne2
 ·obtain ⟨F,hd,hF,hl⟩:=S.gone;exact ⟨F,hd,hF,by simp at hl;omega⟩
theorem MSt.flip {W H:Int} {h:Pt->Int} (hh:Hts h) {Lw:List Wl} {L0:List Tri3} {n0:Nat} {E E':Es} {L L':List Tri3} {K:List (Pt×Pt)} {p q:Pt} {r:Int} (hW:W < 16777216) (hH:H < 16777216) (hg:∀ x∈Lw,GoodW x) (S:MSt W H h Lw L0 n0 E L (K ++ [(p,q)])) (hb:badP E Lw p q=true) (g':Good E' L') (hf:FlipC E L p q r L'):r=0/\volS h L' < volS h L/\MSt W H h Lw L0 n0 E' L' (K ++ four p q (badC E Lw p q).1 (badC E Lw p q).2):=by
 obtain ⟨h1,h2,h3,h4,h5,h6,h7,h8,h9⟩:=mend_step hW hH hh S.good S.tiles hg hb g' hf;refine ⟨h1,h4,g',h2,S.kept.trans h3,λx hx=>?_,λx y hxy=>?_,?_⟩
 ·rcases JG.1 hx with k | k
  ·exact S.ok x (Jo _ k)
  ·exact h9 x k
 ·rcases h8 x y hxy with ⟨k1,k2,k3⟩ | k
  ·rcases S.cov x y k1 with k | k
   ·rcases JG.1 k with k | k
    ·exact .inl (Jo _ k)
    ·have:=QX.1 k;simp only [Ji] at this;exact absurd this k2
   ·rcases JG.1 k with k | k
    ·exact .inr (Jo _ k)
    ·have:=QX.1 k;simp only [Ji] at this;exact absurd ⟨this.2,this.1⟩ k3
  ·exact k.imp (Jp _) (Jp _)
 ·obtain ⟨F,hd,hF,hl⟩:=S.gone;obtain ⟨_,⟨c1,c2⟩,_⟩:=S.tiles.edge_box h5;refine ⟨(p,q) :: F,JX.2 ⟨λk=>S.tiles.not_dead h5 (hF _ k).1,hd⟩,λe he=>?_,?_⟩
  ·rcases Km.1 he with rfl | he
   ·exact ⟨h6,(S.kept.cnr _).1 c1,(S.kept.cnr _).1 c2⟩
   ·obtain ⟨k1,k2⟩:=hF e he;exact ⟨h7 _ _ k1,k2⟩
  ·unfold four;simp at hl ⊢;omega
theorem MSt.fixed {W H:Int} {h:Pt->Int} {Lw:List Wl} {L0:List Tri3} {n0:Nat} {E:Es} {L:List Tri3} (hg:∀ x∈Lw,GoodW x) (S:MSt W H h Lw L0 n0 E L []):Fixed W H (wll Lw) L:=by
 refine ⟨S.tiles,λT hT R hR a b c d cT cR hk hc=>?_⟩;have hb:=(xx S.good S.tiles hg).2 ⟨T,hT,R,hR,c,d,cT,cR,QD λk=>hk k,hc⟩;rcases S.cov a b hb with k | k <;> cases k
theorem cmp_neg_of {a b:Pt} (h:a≠b) (k:¬ 0 < cmpP a b):cmpP a b < 0:=by
 have:cmpP a b≠0:=λe=>h (zY.1 e);omega
theorem mkW_of {a b:Pt} {k:Int} (hk:k=1\/k=2) (h:cmpP a b < 0) (va:vld a=true) (vb:vld b=true):mkW a b k=⟨a,b,k⟩:=by
 have hn:a≠b:=λe=>by rw [e,zY.2 rfl] at h;omega
 have h2:¬ cmpP b a < 0:=by have:=zu a b;omega
 have hm:mkOk a b k=true:=by
  unfold mkOk mkK;rcases hk with rfl | rfl <;> simp [hn,va,vb]
 unfold mkW lo2 hi2;rw [J1 hm,Kl h2,Kl h2]
theorem crn_way {T:Tri3} {i:Nat} (hi:i < 3):(crn T i,crn T (i+1))∈ways T:=by
 have:i=0\/i=1\/i=2:=by omega
 unfold ways;rcases this with rfl | rfl | rfl
 ·exact JU
 ·exact JK _ JU
 ·exact JK _ (JK _ JU)
theorem way_crn {T:Tri3} {a b:Pt} (h:(a,b)∈ways T):∃ i,i < 3/\crn T (i:Nat)=a/\crn T ((i:Int)+1)=b:=by
 unfold ways at h;simp only [Km,Ji,JB,Jj] at h;rcases h with ⟨rfl,rfl⟩ | ⟨rfl,rfl⟩ | ⟨rfl,rfl⟩
 ·exact ⟨0,by omega,rfl,rfl⟩
 ·exact ⟨1,by omega,rfl,rfl⟩
 ·exact ⟨2,by omega,rfl,rfl⟩
section
variable {W H:Int} {E:Es} {L:List Tri3} {Lw:List Wl} (hW:W < 16777216) (hH:H < 16777216) (g:Good E L) (t:Tiles W H L) (hg:∀ x∈Lw,GoodW x)
include hW hH g t hg
theorem up_mem {T:Tri3} (hT:T∈L) {x:Wl} (hx:x∈upL E Lw T 3):∃ i,i < 3/\x=⟨crn T (i:Nat),crn T ((i:Int)+1),1⟩/\cmpP x.A x.B < 0/\badP E Lw x.A x.B=true/\(x.A,x.B)∈ways T:=by
 have vb:∀ q,inBox W H q->vld q=true:=λq hq=>by rw [zj];unfold inBox at hq;omega
 unfold upL at hx;obtain ⟨i,hi,rfl⟩:=JN.1 hx;obtain ⟨hr,hf⟩:=JS.1 hi;have hi3:=Jz.1 hr;unfold upF at hf;simp only [Ko,V8,QB] at hf;have hw:=crn_way (T:=T) hi3;obtain ⟨⟨b1,b2⟩,_,hn⟩:=t.edge_box (.inl (y6 hT hw));have hlt:=cmp_neg_of hn hf.1;have e:upW T i=⟨crn T (i:Nat),crn T ((i:Int)+1),1⟩:=mkW_of (.inl rfl) hlt (vb _ b1) (vb _ b2);rw [e];exact ⟨i,hi3,rfl,hlt,hf.2,hw⟩
theorem XY {T:Tri3}:T∈bigT E Lw↔T∈L/\0 < (upL E Lw T 3).length:=by
 unfold bigT;rw [(zS _).mem_iff,(ja g _).mem_iff,JS,Kn]
theorem Kk {x:Wl}:x∈FB E Lw↔x.K=1/\cmpP x.A x.B < 0/\badP E Lw x.A x.B=true:=by
 have vb:∀ q,inBox W H q->vld q=true:=λq hq=>by rw [zj];unfold inBox at hq;omega
 unfold FB;rw [(zS _).mem_iff,JH];constructor
 ·rintro ⟨T,hT,hx⟩;obtain ⟨i,_,e,h1,h2,_⟩:=up_mem hW hH g t hg ((XY hW hH g t hg).1 hT).1 hx;exact ⟨by rw [e],h1,h2⟩
 ·rintro ⟨hk,hc,hb⟩;obtain ⟨S,mS,R,mR,c,d,cS,cR,_⟩:=(xx g t hg).1 hb;obtain ⟨i,hi,e1,e2⟩:=way_crn cS.way;have hu:upF E Lw S i=true:=by
   unfold upF;rw [e1,e2,hb];simp;omega
  have hx:x∈upL E Lw S 3:=by
   unfold upL;refine JN.2 ⟨i,JS.2 ⟨Jz.2 hi,hu⟩,?_⟩;show mkW (crn S (i:Nat)) (crn S ((i:Int)+1)) 1=x;rw [e1,e2,mkW_of (.inl rfl) hc (vb _ (t.cyc_box mS cS)) (vb _ (t.cyc_box mS cS.turn)),<-hk]
  exact ⟨S,(XY hW hH g t hg).2 ⟨mS,VB.2 (List.ne_nil_of_mem hx)⟩,hx⟩
theorem FB_cov {x y:Pt} (hb:badP E Lw x y=true):(x,y)∈(FB E Lw).map (λw=>(w.A,w.B))\/(y,x)∈(FB E Lw).map (λw=>(w.A,w.B)):=by
 obtain ⟨S,mS,R,mR,c,d,cS,cR,_⟩:=(xx g t hg).1 hb;have hn:=(zP (t.cyc_pos mS cS)).1;by_cases hc:cmpP x y < 0
 ·exact .inl (JN.2 ⟨⟨x,y,1⟩,(Kk hW hH g t hg).2 ⟨rfl,hc,hb⟩,rfl⟩)
 ·have h0:cmpP x y≠0:=λe=>hn (zY.1 e);have h1:=zu x y;exact .inr (JN.2 ⟨⟨y,x,1⟩,(Kk hW hH g t hg).2 ⟨rfl,by show cmpP y x < 0;omega,YE hW hH g t hg hb⟩,rfl⟩)
theorem FB_okW:∀ e∈(FB E Lw).map (λw=>(w.A,w.B)),okW e:=by
 have vb:∀ q,inBox W H q->vld q=true:=λq hq=>by rw [zj];unfold inBox at hq;omega
 intro e he;obtain ⟨x,hx,rfl⟩:=JN.1 he;obtain ⟨S,mS,R,mR,c,d,cS,cR,_⟩:=(xx g t hg).1 ((Kk hW hH g t hg).1 hx).2.2;exact ⟨yW (vb _ (t.cyc_box mS cS)),yW (vb _ (t.cyc_box mS cS.turn))⟩
end
theorem FB_le (E:Es) (Lw:List Wl):(FB E Lw).length<=3 * E.length:=by
 unfold FB;rw [(zS _).length_eq];refine JQ (Zu E Lw _) ?_;unfold bigT;rw [(zS _).length_eq];have:=yc (λT=>decide (0 < (upL E Lw T 3).length)) E;omega
open Go.Sort
attribute [local go_sem] rOper rAt rUpon cell_set sg_i64 sg_u64 alloc_cell alloc_frozen
attribute [local go_sem 10000] pt_eql pt_neq tri_eql
attribute [local irreducible] rWalk
theorem tH {x y z:Wl} (h:cmpW x y<=0) (k:cmpW y z<=0):cmpW x z<=0:=by
 by_cases e:cmpW x y=0
 ·rw [wholeW.eq0.1 e];exact k
 ·by_cases f:cmpW y z=0
  ·rw [<-wholeW.eq0.1 f];exact h
  ·have:=wholeW.trans (x:=x) (y:=y) (z:=z) (by omega) (by omega);omega
theorem put_order {L:List Wl} {X:Wl} {k:Nat} (h:InOrder cmpW L) (p:PutAt L X k):InOrder cmpW (L.take k ++ X :: L.drop k):=by
 obtain ⟨p0,p1,p2⟩:=p;have h':=h;unfold InOrder at h ⊢;rw [<-Ja k L,Qt] at h;have lo:∀ x∈L.take k,cmpW x X<=0:=λx hx=>by
  obtain ⟨i,hi,rfl⟩:=QU.1 hx;rw [JV] at hi;rw [Vo];have hk:k - 1 < L.length:=by omega
  have h1:cmpW L[k - 1] X<=0:=by have:=p2 hk (by omega);omega
  rcases QS i (k - 1) with h3 | h3
  ·exact tH (JY.1 h' i (k - 1) (by omega) hk h3) h1
  ·have e:i=k - 1:=by omega
   subst e;exact h1
 have hi:∀ x∈L.drop k,cmpW X x<=0:=λx hx=>by
  obtain ⟨i,hi,rfl⟩:=QU.1 hx;rw [JR] at hi;rw [Vp];have h1:=p1 (k+i) (by omega) (by omega);have h2:=wholeW.neg L[k+i] X;omega
 refine Qt.2 ⟨h.1,Jt.2 ⟨hi,h.2.1⟩,λx hx y hy=>?_⟩;rcases Km.1 hy with rfl | hy
 ·exact lo x hx
 ·exact h.2.2 x hx y hy
section
variable {W H:Int} {E:Es} {L:List Tri3} (hW:W < 16777216) (hH:H < 16777216) (g:Good E L) (t:Tiles W H L) {p:Pt}
include hW hH g t
theorem grow_good (hW0:0 < W) (hH0:0 < H) (hp:inBox W H p) (hn:¬ someC L p):(∀ T∈atE E p,valT T=true)/\(∀ T∈atE E p,∀ U∈cutS p T,valT U=true)/\(atE E p).length<=2/\(takeRun E (atE E p)).1=(atE E p).length/\(putRun (takeRun E (atE E p)).2 ((atE E p).flatMap (cutS p))).1=((atE E p).flatMap (cutS p)).length/\∃ L',Good (addPE E p) L'/\Good (putRun (takeRun E (atE E p)).2 ((atE E p).flatMap (cutS p))).2 L'/\Tiles W H L'/\(∀ q,someC L' q↔someC L q\/q=p)/\(L'.length=L.length+2/\¬ atRim W H p\/L'.length=L.length+1/\atRim W H p):=by
 obtain ⟨h1,h2⟩:=tc hW hH g hp;have hn':∀ T∈L,¬ isCnr T p:=λT hT hc=>hn ⟨T,hT,hc⟩;obtain ⟨F,hF,f1,f2⟩:=t.spots hW0 hH0 hp hn' h2;have fa:=h1.trans f1;have hv:∀ T∈atE E p,valT T=true:=λT hT=>g.val T (JS.1 (h1.mem_iff.1 hT)).1;have hcut:∀ T∈atE E p,(cutS p T).Perm (cutP p T):=by
  intro T hT;have hm:=JS.1 (h1.mem_iff.1 hT);have hc:=hn' T hm.1;have:cutOk T p=true:=by
   unfold cutOk isCnr at *;simp only [U8] at hc;rw [hm.2,yM.2 hc.1,yM.2 hc.2.1,yM.2 hc.2.2];rfl
  unfold cutS cutR;rw [J1 this];exact zS _
 obtain ⟨t',tv⟩:=vg t hW0 hH0 hW hH hp hn' hF f2;obtain ⟨c1,c2⟩:=tV t hW hH hp hF;have pI:((atE E p).flatMap (cutS p)).Perm (F.flatMap (cutP p)):=(jD hcut).trans (fa.flatMap_right _);have lenF:F.length<=2:=by cases hF <;> simp
 have kt:=Good.takes (F:=atE E p) (E:=E) (M:=L.filter λx => !hasP x p) (g.order (f2.trans (fa.symm.append_right _)));have kp:=Good.puts (I:=(atE E p).flatMap (cutS p)) kt.2 (λU hU=>(tv U (pI.mem_iff.1 hU)).1) ((zq (pI.append_right _)).nodup_iff.2 t'.once);refine ⟨hv,λT hT U hU=>(tv U (pI.mem_iff.1 (JH.2 ⟨T,hT,hU⟩))).1,by rw [fa.length_eq];exact lenF,kt.1,kp.1,(atE E p).flatMap (cutS p) ++ L.filter (λx => !hasP x p),?_,kp.2,?_,?_,?_⟩
 ·unfold addPE;rw [jJ];have k:=Good.takesF (F:=atE E p) (E:=E) (M:=L.filter λx => !hasP x p) (g.order (f2.trans (fa.symm.append_right _)));refine Good.putsF k (λU hU=>(tv U (pI.mem_iff.1 hU)).1) ?_;exact (zq (pI.append_right _)).nodup_iff.2 t'.once
 ·exact t'.perm (pI.symm.append_right _)
 ·intro q;rw [xp,xV pI,c1,xV f2,xp];constructor
  ·rintro ((k | k) | k)
   ·exact .inl (.inl k)
   ·exact .inr k
   ·exact .inl (.inr k)
  ·rintro ((k | k) | k)
   ·exact .inl (.inl k)
   ·exact .inr k
   ·exact .inl (.inr k)
 ·have e1:L.length=F.length+(L.filter λx => !hasP x p).length:=by rw [f2.length_eq,Kp]
  rw [Kp,pI.length_eq];rcases c2 with ⟨k1,k2⟩ | ⟨k1,k2⟩
  ·exact .inl ⟨by omega,k2⟩
  ·exact .inr ⟨by omega,k2⟩
end
theorem put_ex {L:List Wl} (h:InOrder cmpW L) (X:Wl):∃ k,PutAt L X k:=by
 obtain ⟨h1,h2,_⟩:=xQ (L:=L) (q:=λx=>decide (cmpW x X<=0)) (h.imp λ{x y} hxy hy=>by
  simp only [Kn] at hy ⊢;exact tH hxy hy)
 refine ⟨_,h2,λj hj hk=>?_,λhk h0=>?_⟩
 ·have h3:=h1 j hj;simp only [Kn] at h3;by_cases hc:0 < cmpW L[j] X
  ·exact hc
  ·have:=h3.1 (by omega);omega
 ·have h3:=(h1 _ hk).2 (by omega);simp only [Kn] at h3;omega
theorem halve_eq {W H:Int} (hW0:0 < W) (hH0:0 < H) (hW:W < 16777216) (hH:H < 16777216) {E:Es} {L L1:List Tri3} {D:List Wl} {p:Pt} (g:Good E L) (t:Tiles W H L) (hI:WInv L D) (hp:inBox W H p) (hn:¬ someC L p) (g1:Good (addPE E p) L1) (t1:Tiles W H L1) {X:Wl} (hX:D.find? (onD p)=some X):addE (remL D (lo2 X.A X.B) (hi2 X.A X.B)) ⟨X.A,p,X.K⟩=0/\addE (addL (remL D (lo2 X.A X.B) (hi2 X.A X.B)) ⟨X.A,p,X.K⟩) ⟨p,X.B,X.K⟩=0/\∀ D',D'=addL (addL (remL D (lo2 X.A X.B) (hi2 X.A X.B)) ⟨X.A,p,X.K⟩) ⟨p,X.B,X.K⟩->Ris D'->WInv L1 D'/\AddD D p D'/\D'.length=D.length+1:=by
 have hm:=Jr hX;obtain ⟨i,hi,rfl⟩:=QU.1 hm;have hg:=hI.good _ hm;generalize hY:D[i]=X at *
 have hrem:RemAt D (rl X.A X.B) (rg X.A X.B) 0 (D.take i ++ D.drop (i+1)):=.inr ⟨rfl,i,hi,by rw [hY,(Xk X.A X.B).1,(Xk X.A X.B).2,(vP hg).1,(vP hg).2];exact xY.2 ⟨rfl,rfl⟩,rfl⟩;rw [<-(Kd hI.ris hI.apart hI.good hrem).2];have o1:InOrder cmpW (D.take i ++ D.drop (i+1)):=(Xy hI.ris uc).imp λ{a b} h=>by omega
 have hl:(D.take i ++ D.drop (i+1)).length+1=D.length:=by simp;omega
 generalize D.take i ++ D.drop (i+1)=D1 at *
 obtain ⟨k1,p1⟩:=put_ex o1 ⟨X.A,p,X.K⟩;obtain ⟨k2,p2⟩:=put_ex (put_order o1 p1) ⟨p,X.B,X.K⟩;have hA:AddD D p (insW (insW D1 ⟨X.A,p,X.K⟩ k1) ⟨p,X.B,X.K⟩ k2):=.inr ⟨X,0,D1,k1,k2,hX,hrem,p1,p2,rfl⟩;have w1:=tj hW0 hH0 hW hH g t hI hp hn hA g1 t1;have pm:(insW (insW D1 ⟨X.A,p,X.K⟩ k1) ⟨p,X.B,X.K⟩ k2).Perm (⟨p,X.B,X.K⟩ :: ⟨X.A,p,X.K⟩ :: D1):=(yk _ _ _).trans ((yk _ _ _).cons _);have ap:=qV pm w1.apart;have gd:∀ x∈(⟨p,X.B,X.K⟩ :: ⟨X.A,p,X.K⟩ :: D1:List Wl),GoodW x:=λx hx=>w1.good x (pm.mem_iff.2 hx);have a1:=Xa ap gd (i:=1) (by simp) (T:=D1) (UB _);have a2:=Xa ap gd (i:=0) (by simp) (T:=addL D1 ⟨X.A,p,X.K⟩) a1.2;refine ⟨a1.1,a2.1,λD' hD hr=>?_⟩;subst hD;have pq:=a2.2.trans pm.symm;have e:=qE wholeW hr w1.ris λx=>pq.mem_iff;have hlen:=a2.2.length_eq;refine ⟨e▸w1,e▸hA,?_⟩;rw [show (addL (addL D1 ⟨X.A,p,X.K⟩) ⟨p,X.B,X.K⟩).length=D1.length+2 by simpa using hlen];omega
theorem gcrn_0 (T:Tri3) (p:Pt) (h0:peqI T.A.x T.A.y p.x p.y=true) (w:World):Calls prog 41 #[T,p] w (Rt w (.bool true)):=by
 go_enter func41,ntmps41
 go_wp2
 go_ret
 exact ⟨rfl,by go_grown⟩
theorem gcrn_1 (T:Tri3) (p:Pt) (h0:peqI T.A.x T.A.y p.x p.y=false) (h1:peqI T.B.x T.B.y p.x p.y=true) (w:World):Calls prog 41 #[T,p] w (Rt w (.bool true)):=by
 go_enter func41,ntmps41
 go_wp2
 go_ret
 exact ⟨rfl,by go_grown⟩
theorem gcrn_2 (T:Tri3) (p:Pt) (h0:peqI T.A.x T.A.y p.x p.y=false) (h1:peqI T.B.x T.B.y p.x p.y=false) (h2:peqI T.C.x T.C.y p.x p.y=true) (w:World):Calls prog 41 #[T,p] w (Rt w (.bool true)):=by
 go_enter func41,ntmps41
 go_wp2
 go_ret
 exact ⟨rfl,by go_grown⟩
theorem gcrn_3 (T:Tri3) (p:Pt) (h0:peqI T.A.x T.A.y p.x p.y=false) (h1:peqI T.B.x T.B.y p.x p.y=false) (h2:peqI T.C.x T.C.y p.x p.y=false) (w:World):Calls prog 41 #[T,p] w (Rt w (.bool false)):=by
 go_enter func41,ntmps41
 go_wp2
 go_ret
 exact ⟨rfl,by go_grown⟩
theorem uT (T:Tri3) (p:Pt) (w:World):Calls prog 41 #[T,p] w (Rt w (.bool (isCb p T))):=by
 have e:isCb p T=(peqI T.A.x T.A.y p.x p.y || (peqI T.B.x T.B.y p.x p.y || peqI T.C.x T.C.y p.x p.y)):=by
  unfold isCb;rw [zo,zo,zo];have f:∀ q:Pt,decide (p=q)=decide (q=p):=λq=>by simp [eq_comm]
  rw [f,f,f]
 rw [e];cases h0:peqI T.A.x T.A.y p.x p.y with
 | true=>exact gcrn_0 T p h0 w
 | false=>
  cases h1:peqI T.B.x T.B.y p.x p.y with
  | true=>exact gcrn_1 T p h0 h1 w
  | false=>
   cases h2:peqI T.C.x T.C.y p.x p.y with
   | true=>exact gcrn_2 T p h0 h1 h2 w
   | false=>exact gcrn_3 T p h0 h1 h2 w
theorem XC (T:Tri3) (p:Pt) (h0:hasP T p=true) (h1:isCb p T=false) (hne:0 < (cutP p T).length) (w:World):Calls prog 15 #[T,p] w λe w'=>∃ g cap,e=.returned (.slice (some ⟨g,0,none⟩) (srt cmpT (cutP p T)).length cap)/\RowAt cT 6 w' (some ⟨g,0,none⟩) (srt cmpT (cutP p T))/\w.heap.size<=g/\Below w w w':=by
 have cH:=Zn T p;rw [Xq,h0] at cH;have cC:=uT T p;rw [h1] at cC;have HNE:=hdd hne;clear h0 h1 hne
 go_enter func15,ntmps15
 go_wp2_with fail;refine qE2 λW1 Bt Ba hw=>?_;refine (cH _).mono ?_;rintro e w2 ⟨rfl,hb⟩;obtain ⟨Bt,Ba,hw,-⟩:=qX2 Bt Ba hw hb;clear hb cH;have Gk:=J2 Bt.f Ba.f;go_wp2_with fail;refine (cC _).mono ?_;rintro e w3 ⟨rfl,hb⟩;clear Gk;obtain ⟨Bt,Ba,hw,-⟩:=qX2 Bt Ba hw hb;clear hb cC;go_wp2_with fail
 go_loopw [5,20] (λvl vi wr=>∃ k:Nat,vi=.int .i64 k/\k<=3/\wr.ownsRow (w.heap.size+2) 28 6 vl (cutK p T k).length ((cutK p T k).flatMap cT)/\Box wr w [T.A.x,T.A.y,T.B.x,T.B.y,T.C.x,T.C.y] 28/\Box wr (w+1) [p.x,p.y] 26/\Below w w wr) (λ_ vi _=>3 - (intOf vi).toNat)
 case atStart=>exact ⟨0,rfl,by omega,World.ownsRow_nil _ _ _ _,Bt,Ba,hw⟩
 case round=>
  clear Bt Ba hw;obtain ⟨k,rfl,hk,hown,Bt,Ba,hw⟩:=hrel;by_cases hlt:k < 3
  case neg=>
   obtain rfl:k=3:=by omega
   rw [cutK3] at hown;have hin:¬ ((3:Nat):Int) < 3:=by decide
   clear hlt hk;have h2:=hown.2;rcases h2 with ⟨_,h0⟩ | ⟨g,cap,cur,rfl,hB,hb9,k1,k2,k3,k4⟩
   ·have:=HNE.o;omega
   have cs:=vw (w.heap.size+2) _ (cutP p T) (by have:=km p T;omega) wr hown;clear hb9 k1 k2 k3 k4;go_wp2_with fail;refine cs.mono ?_;rintro e w5 ⟨rfl,hg,a,cap2,he,hr⟩;simp only [Value.slice.injEq] at he;obtain ⟨rfl,_,rfl⟩:=he;have hl9:(srt cmpT (cutP p T)).length=(cutP p T).length:=(zS _).length_eq;have hw5:=hw.grown hg hw.size (λq hq=>by simp [Value.ownBlock] at hq;omega);go_wp2
   go_ret
   exact ⟨g,cap,by rw [hl9];rfl,hr,by omega,hw5⟩
  case pos=>
   have HLT:=hdd hlt;have hq0:(k:Int) < 3:=by omega
   have cE:=ZB T (k:Int);have cM:=vf (crn T (k:Int)) (crn T ((k:Int)+1)) p;have HST:=hdd (show cutK p T (k+1)=cutK p T k ++ part p (crn T (k:Int)) (crn T ((k:Int)+1)) from rfl);have HLE:=hdd (ji p T k);obtain ⟨dd,hd⟩:∃ d,decide (ori (crn T (k:Int)) (crn T ((k:Int)+1)) p=0)=d:=⟨_,rfl⟩;rw [hd] at cM;have HDD:=hdd hd;clear hd;generalize crn T (k:Int)=u at *
   generalize crn T ((k:Int)+1)=v at *
   obtain ⟨L1,hL1⟩:∃ L1,cutK p T (k+1)=L1:=⟨_,rfl⟩;have HL1:=hdd hL1;rw [hL1] at HST;clear hL1;generalize cutK p T k=L0 at *
   have Gk:=J2 Bt.f Ba.f;go_wp2_with fail;refine (cE _).mono ?_;rintro e w4 ⟨rfl,hb⟩;clear Gk;replace Bt:=Bt.ee hb;replace Ba:=Ba.ee hb;replace hown:=yo hown hb;replace hw:=upB hw hb;clear hb cE;have Gk:=J2 Bt.f Ba.f;go_wp2_with fail;refine zI λW5 hW=>?_;have hl0:=hw.size;have lt:=Bt.lt;have la:=Ba.lt;replace Bt:Box W5 w [T.A.x,T.A.y,T.B.x,T.B.y,T.C.x,T.C.y] 28:=by rw [hW];exact (Bt.old _).old _
   replace Ba:Box W5 (w+1) [p.x,p.y] 26:=by rw [hW];exact (Ba.old _).old _
   have hb:Below w4 w4 W5:=by rw [hW];go_grown
   replace hown:=yo hown hb;replace hw:=upB hw hb;clear hW hb Gk;refine (cM _).mono ?_;rintro e w6 ⟨rfl,hb⟩;replace Bt:=Bt.ee hb;replace Ba:=Ba.ee hb;replace hown:=yo hown hb;replace hw:=upB hw hb;clear hb cM;generalize eM:mk u v p=X at *
   have HX:=hdd eM;clear eM;have Gk:=J2 Bt.f Ba.f
   go_upto_region 9 with (fail)
   refine zG λW7 hW=>?_;obtain ⟨bz,hbz⟩:∃ b,w6.heap.size=b:=⟨_,rfl⟩;rw [hbz];have lt6:=Bt.lt;rw [hbz] at lt6;have la6:=Ba.lt;rw [hbz] at la6;have hl6:=hw.size;rw [hbz] at hl6;have Bz:Box W7 bz [X.A.x,X.A.y,X.B.x,X.B.y,X.C.x,X.C.y] 28:=by rw [hW];exact Box.new hbz.symm
   replace Bt:Box W7 w [T.A.x,T.A.y,T.B.x,T.B.y,T.C.x,T.C.y] 28:=by rw [hW];exact Bt.old _
   replace Ba:Box W7 (w+1) [p.x,p.y] 26:=by rw [hW];exact Ba.old _
   have hb:Below w6 w6 W7:=by rw [hW];go_grown
   replace hown:=yo hown hb;replace hw:=upB hw hb;clear hW hb Gk hbz;have Gk:=J2 Bt.f Ba.f;cases dd with
   | true=>
    have HL:=hdd (show L1=L0 by rw [HST.o];unfold part;rw [J1 (Vn HDD.o)];simp);clear HST;go_wp2
    go_roundw
    case rel=>exact ⟨k+1,by go_num,HLT.o,by rw [HL1.o,HL.o];exact hown,Bt,Ba,hw⟩
    case measure=>have h9:=HLT.o;simp [intOf];omega
   | false=>
    have HL:=hdd (show L1=L0 ++ [X] by rw [HST.o];unfold part;rw [Kl (of_decide_eq_false HDD.o),HX.o]);clear HST;have Fz:=Bz.f;have HB:=hdd hw.size;have HA:=hdd Ba.lt;go_wp2_with (at_builtin;refine yI rfl _ _ rfl (w.heap.size+2) _ L0 rfl (hown.alloc _) (W7.heap.size) X rfl (Box.new (by simp)) (by have:=HLE.o;omega) (by have:=HB.o;have:=HA.o;simp;omega) ?_;intro w8 v8 hown8 hg8)
    have hlt:=λq hq=>((hown.alloc (.cells (cT X).toArray 28)).lt q hq).1;have Bt4:=(Bt.old (.cells (cT X).toArray 28)).grown2 hg8 (λq hq=>by have:=hlt q hq;omega);have Ba4:=(Ba.old (.cells (cT X).toArray 28)).grown2 hg8 (λq hq=>by have:=hlt q hq;omega);have hw4:=(hw.alloc hw.size (.cells (cT X).toArray 28)).grown hg8 (by have:=hw.size;simp;omega) (λq hq=>by have:=hlt q hq;omega)
    go_roundw
    case rel=>exact ⟨k+1,by go_num,HLT.o,by rw [HL1.o,HL.o];exact hown8,Bt4,Ba4,hw4⟩
    case measure=>have h9:=HLT.o;simp [intOf];omega
theorem remL_le (L:List Wl) (p q:Pt):(remL L p q).length<=L.length:=by
 unfold remL;split
 ·simp;omega
 ·exact JA _
theorem addL_le (L:List Wl) (X:Wl):(addL L X).length<=L.length+1:=by
 unfold addL;split
 ·simp;omega
 ·omega
def halfL (D:List Wl) (p:Pt):List Wl:=match D.find? (onD p) with
 | some X=>addL (addL (remL D (lo2 X.A X.B) (hi2 X.A X.B)) ⟨X.A,p,X.K⟩) ⟨p,X.B,X.K⟩
 | none=>D
theorem KM {w:World} {sb:Nat} {v:Value} {L:List Wl} (S:SetAt w sb v L) {k:Nat} (hk:w.heap.size<=k):¬ Foot sb v k:=λh=>by
 rcases h with h | h
 ·have:=S.box.lt;omega
 ·have:=(S.row.lt k h).2;omega
theorem uX {w:World} {sb:Nat} {v v':Value} {n:Nat} (hf:Fresh v v' n) (hn:w.heap.size<=n):∀ k,Foot sb v' k->k < w.heap.size->Foot sb v k:=λk h hk=>by
 rcases h with h | h
 ·exact .inl h
 ·rcases hf k h with h2 | h2
  ·exact .inr h2
  ·omega
theorem ghalve_none (sb:Nat) (v:Value) (D:List Wl) (p:Pt) (hX:D.find? (onD p)=none) (w:World) (S:SetAt w sb v D):Calls prog 43 #[pt0 sb,p] w (Rt w (.tuple #[])):=by
 obtain ⟨a0,c0,_,R⟩:=S.rd;have cO:=λW S=>tC sb a0 c0 D.length D p W S;rw [<-K4 R.ris R.good p,hX] at cO;unfold onV at cO;dsimp only at cO;have HR:=hdd R;clear R S hX
 go_enter func43,ntmps43
 go_wp2_with fail;refine zI λW1 hW=>?_;have hw:Below w w W1:=by rw [hW];go_grown
 clear hW;refine (cO _ (HR.o.ee hw)).mono ?_;rintro e w2 ⟨rfl,hb⟩;replace hw:=upB hw hb;clear hb cO;have hl:=hw.size;go_wp2;refine bodyPost_ret (v:=.tuple #[]) (by simp [results,results43,go_sem]) rfl ?_;exact ⟨rfl,by go_grown⟩
theorem ghalve_some (sb:Nat) (v:Value) (D:List Wl) (p:Pt) (X:Wl) (hX:D.find? (onD p)=some X) (hD:D.length<=900000) (e1:addE (remL D (lo2 X.A X.B) (hi2 X.A X.B)) ⟨X.A,p,X.K⟩=0) (e2:addE (addL (remL D (lo2 X.A X.B) (hi2 X.A X.B)) ⟨X.A,p,X.K⟩) ⟨p,X.B,X.K⟩=0) (w:World) (S:SetAt w sb v D):Calls prog 43 #[pt0 sb,p] w λe w'=>∃ v',e=.returned (.tuple #[])/\SetAt w' sb v' (halfL D p)/\Frm w w' (Foot sb v)/\Fresh v v' w.heap.size:=by
 obtain ⟨a0,c0,_,R⟩:=S.rd;have cO:=λW S=>tC sb a0 c0 D.length D p W S;rw [<-K4 R.ris R.good p,hX] at cO;unfold onV at cO;dsimp only at cO;have HE:=hdd (show halfL D p=addL (addL (remL D (lo2 X.A X.B) (hi2 X.A X.B)) ⟨X.A,p,X.K⟩) ⟨p,X.B,X.K⟩ by unfold halfL;rw [hX]);have cR:=λv W S=>rem_any sb v D X.A X.B W S;have hl1:(remL D (lo2 X.A X.B) (hi2 X.A X.B)).length<=900000:=JQ (remL_le D _ _) hD;generalize remL D (lo2 X.A X.B) (hi2 X.A X.B)=D1 at *
 generalize remE D (lo2 X.A X.B) (hi2 X.A X.B)=r0 at *
 have cA:=λv W S=>Xh sb v D1 ⟨X.A,p,X.K⟩ (by omega) W S;rw [e1] at cA;have hl2:(addL D1 ⟨X.A,p,X.K⟩).length<=900001:=JQ (addL_le D1 _) (by omega);generalize addL D1 ⟨X.A,p,X.K⟩=D2 at *
 have cB:=λv W S=>Xh sb v D2 ⟨p,X.B,X.K⟩ (by omega) W S;rw [e2] at cB;generalize addL D2 ⟨p,X.B,X.K⟩=D3 at *
 dsimp only at cA cB;have HR:=hdd R;have HS:=hdd S;clear R S hX e1 e2 hD hl1 hl2
 go_enter func43,ntmps43
 go_wp2_with fail;refine qE1 λW1 Ba hw=>?_;refine (cO _ (HR.o.ee hw)).mono ?_;rintro e w2 ⟨rfl,hb⟩;obtain ⟨Ba,hw,-⟩:=qX1 Ba hw hb;clear hb cO;have Fa:=Ba.f;have la:=Ba.lt;go_wp2_with fail;refine zI λW3 hW=>?_;obtain ⟨bw,hbw⟩:∃ b,w2.heap.size=b:=⟨_,rfl⟩;rw [hbw] at la ⊢;have Bw:Box W3 bw [X.A.x,X.A.y,X.B.x,X.B.y,X.K] 57:=by rw [hW];exact Box.new hbw.symm
 replace Ba:Box W3 w [p.x,p.y] 26:=by rw [hW];exact Ba.old _
 have hb:Below w2 w2 W3:=by rw [hW];go_grown
 replace hw:=upB hw hb;clear hW hb Fa;have S3:=HS.o.ee hw;have lw:=Bw.lt;have la3:=Ba.lt;refine (cR _ _ S3).mono ?_;rintro e w4 ⟨v4,rfl,S4,F4,f4⟩;have hz:=hw.size;have n1:∀ k,w.heap.size<=k->¬ Foot sb v k:=λk hk=>KM HS.o hk;replace Ba:=F4.box Ba (n1 _ (JA _));replace Bw:=F4.box Bw (n1 _ (by omega));have FF:Frm w w4 (Foot sb v):=(Frm.of_below hw).trans F4;have s4:=F4.size;clear cR F4;have Fa:=Ba.f;have Fw:=Bw.f;go_wp2_with fail;refine (cA _ _ S4).mono ?_;rintro e w5 ⟨v5,rfl,S5,F5,f5⟩;have n2:∀ k,w.heap.size<=k->k < W3.heap.size->¬ Foot sb v4 k:=λk h1 h2 h=>by
  rcases h with h | h
  ·exact n1 k h1 (.inl h)
  ·rcases f4 k h with h3 | h3
   ·exact n1 k h1 (.inr h3)
   ·omega
 clear Fa Fw;replace Ba:=F5.box Ba (n2 _ (JA _) (by omega));replace Bw:=F5.box Bw (n2 _ (by omega) (by omega));replace FF:=FF.trans2 F5 (uX f4 hz);have f5':Fresh v v5 W3.heap.size:=λg hg=>by
  rcases f5 g hg with h | h
  ·exact f4 g h
  ·exact .inr (by omega)
 have s5:=F5.size;clear cA F5 S4 f5;have Fa:=Ba.f;have Fw:=Bw.f;go_wp2_with fail;refine (cB _ _ S5).mono ?_;rintro e w6 ⟨v6,rfl,S6,F6,f6⟩;replace FF:=FF.trans2 F6 (uX f5' hz);have f6':Fresh v v6 w.heap.size:=λg hg=>by
  rcases f6 g hg with h | h
  ·rcases f5' g h with h2 | h2
   ·exact .inl h2
   ·exact .inr (by omega)
  ·exact .inr (by omega)
 clear Fa Fw cB F6 S5 Ba Bw;go_wp2;exact bodyPost_end (results_none rfl _ _ _) rfl ⟨v6,rfl,by rw [HE.o];exact S6,FF,f6'⟩
theorem atCl (T:Tri3) (p:Pt) (pb:Nat) (w:World) (Bp:Box w pb [p.x,p.y] 26):Calls prog 81 #[T,pt0 pb] w (Rt w (.bool (hasP T p))):=by
 have ch:=Zn T p;simp only [Xq] at ch;generalize hasP T p=z at *
 have Fp:=Bp.f
 go_enter func81,ntmps81
 go_wp2_with fail;refine zI λW1 hW=>?_;have hw:Below w w W1:=by rw [hW];go_grown
 clear hW;refine (ch _).mono ?_;rintro e w2 ⟨rfl,hb⟩;have hw2:=(upB hw hb);clear hb hw ch Fp;go_wp2
 go_ret
 exact ⟨rfl,hw2⟩
theorem atEnter:∀ args w,(callFunc 81 args).run prog w=.ok (.enter 81 args) w:=enters_of func81 (by kernel_rfl) rfl
theorem YN (mb b:Nat) (E:Es) (p:Pt) (hE:E.length<=1000000) (w:World) (Bm:Box w mb [.map (some b)] 102) (Hm:Hs w b E):Calls prog 40 #[pt0 mb,p] w λe w'=>∃ a cap,e=.returned (.slice a (srt cmpT (heads (λT=>hasP T p) E)).length cap)/\RowAt cT 6 w' a (srt cmpT (heads (λT=>hasP T p) E))/\Below w w w':=by
 obtain ⟨f,ef⟩:∃ f:Tri3->Bool,f=(λT=>hasP T p):=⟨_,rfl⟩;rw [<-ef];have cc:∀ (T:Tri3) (pb:Nat) (W:World),Box W pb [p.x,p.y] 26->Calls prog 81 #[T,pt0 pb] W λe w'=>e=.returned (.bool (f T))/\Below W W w':=λT pb W B=>by rw [ef];exact atCl T p pb W B
 clear ef
 go_enter func40,ntmps40
 go_wp2_with fail;refine zI λW1 hW=>?_;have Bp:Box W1 w [p.x,p.y] 26:=by rw [hW];exact Box.new rfl
 have hw:Below w w W1:=by rw [hW];go_grown
 clear hW;refine (ZK mb b E 81 #[pt0 w.heap.size] f hE W1 (Bm.ee hw) (Hm.ee hw) atEnter (λT W hW=>cc T _ W (Bp.ee hW))).mono ?_;rintro e w2 ⟨a,cap,rfl,hr,hb⟩;have hw2:=(upB hw hb);go_wp2
 go_ret
 exact ⟨a,cap,rfl,hr,hw2⟩
section
open Go.Lib Go.Shelf
def cE (e:Pt×Pt):List Value:=[.int .i64 e.1.x,.int .i64 e.1.y,.int .i64 e.2.x,.int .i64 e.2.y]
theorem Xr (e:Pt×Pt):(cE e).length=4:=rfl
theorem cE_one (e:Pt×Pt):∀ u∈cE e,u.oneCell'=true:=by
 intro u hu;unfold cE at hu;simp only [Km,JB,Jj] at hu;rcases hu with rfl | rfl | rfl | rfl <;> rfl
theorem info_edge:(prog.info? 132).map (λi=>(i.zero,i.size,i.bytes))=some (some (.agg #[(),(),(),()]),4,32):=by kernel_rfl
def ERow (w:World) (B:Nat) (v:Value) (K:List (Pt×Pt)):Prop:=w.ownsRow B 132 4 v K.length (K.flatMap cE)
theorem ERow.nil0 (w:World) (B:Nat):ERow w B (.slice none 0 0) []:=World.ownsRow_nil _ _ _ _
theorem ERow.row {w:World} {B:Nat} {v:Value} {K:List (Pt×Pt)} (h:ERow w B v K):∃ a cap,v=.slice a K.length cap/\RowAt cE 4 w a K:=xO Xr h
theorem ERow.kept {w w':World} {B:Nat} {v:Value} {K:List (Pt×Pt)} {row:Option Nat} (h:ERow w B v K) (hg:w.grownBy w' row) (hne:v.ownBlock=none\/v.ownBlock≠row):ERow w' B v K:=World.ownsRow.kept h hg hne
theorem ERow.lt {w:World} {B:Nat} {v:Value} {K:List (Pt×Pt)} (h:ERow w B v K):∀ k,v.ownBlock=some k->B<=k/\k < w.heap.size:=World.ownsRow.lt h
theorem ERow.alloc {w:World} {B:Nat} {v:Value} {K:List (Pt×Pt)} (h:ERow w B v K) (o:Obj):ERow (w.alloc o) B v K:=World.ownsRow.alloc h o
theorem ERow.ext {w w':World} {B n:Nat} {v:Value} {K:List (Pt×Pt)} (h:ERow w B v K) (hb:Below n w w') (hn:n=w.heap.size):ERow w' B v K:=by
 refine ⟨h.1,?_⟩;rcases h.2 with h | ⟨g,cap,cur,h0,h1,h2,h3⟩
 ·exact .inl h
 ·refine .inr ⟨g,cap,cur,h0,h1,?_,h3⟩;have hl:g < w.heap.size:=(Ju.1 h2).1;rw [hb.block g (by omega)];exact h2
theorem ERow.ee {w w':World} {B:Nat} {v:Value} {K:List (Pt×Pt)} (h:ERow w B v K) (hb:Below w w w'):ERow w' B v K:=h.ext hb rfl
theorem ERow.pop {w:World} {B n:Nat} {v:Value} {K:List (Pt×Pt)} {e:Pt×Pt} (h:ERow w B v (K ++ [e])) (hn:K.length=n):∃ g cap,v=.slice (some ⟨g,0,none⟩) (n+1) cap/\n+1<=cap/\ERow w B (.slice (some ⟨g,0,none⟩) n cap) K:=by
 rcases h.2 with ⟨_,h0⟩ | ⟨g,cap,cur,h0,h1,h2,h3,h4,h5,h6⟩
 ·simp at h0
 ·have hl:(K ++ [e]).length=n+1:=by simp [hn]
  rw [hl] at h0 h3 h6;refine ⟨g,cap,h0,h3,zR Xr K,.inr ⟨g,cap,cur,by rw [hn],h1,h2,by omega,h4,h5,?_⟩⟩;have k:(cur.toList.take ((n+1) * 4)).take (n * 4)=((K ++ [e]).flatMap cE).take (n * 4):=by rw [h6]
  have lk:=zR Xr K;rw [hn] at lk;rw [List.take_take,JW,List.take_append_of_le_length (by omega),show min (n * 4) ((n+1) * 4)=n * 4 by omega,JM (l:=K.flatMap cE) (by omega)] at k;rw [hn];exact k
theorem ERow.pop2 {w:World} {B n:Nat} {v:Value} {K:List (Pt×Pt)} {e:Pt×Pt} (h:ERow w B v (K ++ [e])) (hn:K.length=n):∃ (ad:Addr) (cap:Nat),v=.slice (some ad) (n+1) cap/\n+1<=cap/\ERow w B (.slice (some ad) n cap) K/\RowAt cE 4 w (some ad) (K ++ [e]):=by
 obtain ⟨g,cap,rfl,h1,h2⟩:=h.pop hn;obtain ⟨a,c,e1,e2⟩:=h.row;simp only [Value.slice.injEq] at e1;obtain ⟨rfl,_,_⟩:=e1;exact ⟨_,cap,rfl,h1,h2,e2⟩
def Four (w:World) (A:Addr) (e:Pt×Pt):Prop:=A.block < w.heap.size/\w.cell? A=some (.int .i64 e.1.x)/\w.cell? ⟨A.block,A.off+1,none⟩=some (.int .i64 e.1.y)/\w.cell? ⟨A.block,A.off+2,none⟩=some (.int .i64 e.2.x)/\w.cell? ⟨A.block,A.off+3,none⟩=some (.int .i64 e.2.y)
theorem RowAt.edg {w:World} {a:Option Addr} {K:List (Pt×Pt)} (h:RowAt cE 4 w a K) {j:Nat} {e:Pt×Pt} (hj:K[j]? = some e):∃ ad A,a=some ad/\ad.add (j * 4)=A/\Four w A e:=by
 obtain ⟨ad,h1,h2,h3⟩:=h j e hj;have hb:(ad.add (j * 4)).block=ad.block:=zi _ _;have e0:=h3 0 _ rfl;have e1:=h3 1 _ rfl;have e2:=h3 2 _ rfl;have e3:=h3 3 _ rfl;simp only [Addr.add_zero',Addr.add_succ'] at e0 e1 e2 e3;exact ⟨ad,_,h1,rfl,by rw [hb];exact h2,e0,e1,e2,e3⟩
theorem Four.f {w:World} {A:Addr} {e:Pt×Pt} (h:Four w A e):(A.block=w.heap.size)=False/\w.cell? A=some (.int .i64 e.1.x)/\w.cell? ⟨A.block,A.off+1,none⟩=some (.int .i64 e.1.y)/\w.cell? ⟨A.block,A.off+2,none⟩=some (.int .i64 e.2.x)/\w.cell? ⟨A.block,A.off+3,none⟩=some (.int .i64 e.2.y):=⟨by simp;have:=h.1;omega,h.2⟩
theorem run_upto_edg (a:Option Addr) (n cap hi:Nat) (h1:hi<=cap) (w:World):(Instr.slice 129 (.slice a n cap) none (some (.int .i64 hi)) none).run prog w=.ok (.slice a hi cap) w:=by
 cases a <;> simp [Instr.slice,Instr.sliceBounds,Instr.sliceBound,asIntOf,run_underlying underlying129,go_sem,h1,Addr.add]
theorem YG {w:World} {ops:Array Oper} {rest:List Oper} {o:Oper} {a:Act} {Q:Exit->Act->World->Prop} (hgd:o.guard=none) (s x:Operand) (ho:o.op=.call { callee:=.builtin .append,args:=#[s,x],argTypes:=#[129,129] }) (B:Nat) (v:Value) (K:List (Pt×Pt)) (hs:a.eval s=v) (hown:ERow w B v K) (bx m:Nat) (U:List (Pt×Pt)) (hx:a.eval x=.slice (some ⟨bx,0,none⟩) m m) (hm:U.length=m) (hU:Box w bx (U.flatMap cE) 132) (hu0:m<=1000) (hn:K.length<=2000000) (hbase:B<=w.heap.size) (h:∀ w' v',ERow w' B v' (K ++ U)->w.grownBy w' v.ownBlock->wpList prog ops Q rest (a.put o.dst v') w'):wpList prog ops Q (o :: rest) a w:=by
 obtain ⟨i0,hi,hz0,hz1,hz2⟩:=info_parts info_edge;refine wpList_append_own w hgd s x 129 ho B 132 i0 _ 4 32 underlying129 hi hz0 hz1 hz2 rfl (by decide) v K.length _ hs hown ⟨bx,0,none⟩ m m (U.flatMap cE) hx (by rw [zR Xr,hm]) ?_ ?_ ?_ ?_ hbase ?_
 ·intro j u hj;rw [Addr.add_lit,Q9];have:=hU.f.1 j;rw [hj] at this;exact this
 ·intro u hu;obtain ⟨X,_,hX⟩:=JH.1 hu;exact cE_one X u hX
 ·unfold maxLen;omega
 ·omega
 ·intro v' w' hown' hg _;refine h w' v' ?_ hg;unfold ERow;rw [Kp,JW,hm];exact hown'
theorem SetRd.turn {w w':World} {sb c n b:Nat} {a0:Option Addr} {L:List Wl} {E:Es} (S:SetRd w sb a0 c n L) (H:Hs w b E) (hg:w.grownBy w' (some b)):SetRd w' sb a0 c n L:=
 ⟨S.box.turn H hg,S.row.turn cW_ne H hg,S.len,S.le,S.nc,S.flat,S.nil0,S.ris,S.good⟩
end
attribute [local go_sem ↓ 10000] run_upto_edg
section
open Go.Lib Go.Shelf
def mPot (h:Pt->Int) (L:List Tri3) (K:List (Pt×Pt)):Nat:=4 * (volS h L).toNat+K.length
theorem pot_pop {h:Pt->Int} {L:List Tri3} {K:List (Pt×Pt)} {e:Pt×Pt}:mPot h L K < mPot h L (K ++ [e]):=by unfold mPot;simp
theorem pot_flip {h:Pt->Int} {L L':List Tri3} {K:List (Pt×Pt)} {e p q c d:_} (h0:0<=volS h L') (hv:volS h L' < volS h L):mPot h L' (K ++ four p q c d) < mPot h L (K ++ [e]):=by unfold mPot four;simp;omega
theorem mend_w {n:Nat} (h:n<=2000000):wrap64 (n:Int)=n:=by rw [w64];omega
theorem fmend_any (mb b:Nat) (E0 E:Es) (L0 L:List Tri3) (sb:Nat) (a0:Option Addr) (c n:Nat) (Lw:List Wl) (W H:Int) (hW:W < 16777216) (hH:H < 16777216) (h:Pt->Int) (hh:Hts h) (v:Value) (K:List (Pt×Pt)) (n0:Nat) (w0:World) (Bm:Box w0 mb [.map (some b)] 102) (Hm0:Hs w0 b E0) (S:SetRd w0 sb a0 c n Lw) (w:World) (hg:w0.grownBy w (some b)) (Hm:Hs w b E) (hM:MSt W H h Lw L0 n0 E L K) (hn:n0+27 * (L0.length * L0.length)<=1000000) (hown:ERow w w0.heap.size v K):Calls prog 87 #[pt0 mb,pt0 sb,v] w λe w'=>e=.returned (.tuple #[])/\∃ E1 L1,w0.grownBy w' (some b)/\Hs w' b E1/\MSt W H h Lw L0 n0 E1 L1 []:=by
 have HN:=hdd hn;have HM:=hdd hM;have HW:=hdd hW;have HH:=hdd hH;have HHS:=hdd hh;clear hn hM hW hH hh
 go_enter func87,ntmps87
 go_wp2
 go_loopg [2,6,10] (mPot h L K+1) (λk v2 _ _ wr=>∃ (E1:Es) (L1:List Tri3) (K1:List (Pt×Pt)),ERow wr w0.heap.size v2 K1/\Hs wr b E1/\Hi (MSt W H h Lw L0 n0 E1 L1 K1)/\Hi (mPot h L1 K1 < k)/\w0.grownBy wr (some b))
 case atStart=>exact ⟨E,L,K,hown,Hm,HM,hdd (Nat.lt_succ_self _),hg⟩
 case round=>
  clear hown Hm HM hg;obtain ⟨E1,L1,K1,hown,Hm,HM,HP,hg⟩:=hrel;rcases List.eq_nil_or_concat K1 with rfl | ⟨K0,e,rfl⟩
  ·obtain ⟨a,cap,rfl,_⟩:=hown.row;go_wp2;exact bodyPost_end (results_none rfl _ _ _) rfl ⟨rfl,E1,L1,hg,Hm,HM.o⟩
  ·rw [List.concat_eq_append] at *;have HP2:=hdd (pot_pop (h:=h) (L:=L1) (K:=K0) (e:=e));have hlen:(K0 ++ [e]).length<=1000000:=JQ HM.o.len HN.o;obtain ⟨nk,hn⟩:∃ z,K0.length=z:=⟨_,rfl⟩;have hn1:nk<=2000000:=by rw [<-hn];simp at hlen;omega
   obtain ⟨ad,cap,rfl,hcap,hpop,hrow⟩:=hown.pop2 hn;obtain ⟨ad2,A,ea,eA,hA⟩:=hrow.edg (j:=nk) (e:=e) (by rw [<-hn];simp);obtain rfl:ad=ad2:=JL ea;clear ea hown hrow hlen;have HNN:=hdd hn;clear hn;have hq:=mend_w hn1;have hq2:(nk:Int) < (nk:Int)+1:=by omega
   have hq3:(0:Int) < (nk:Int)+1:=by omega
   have hcap2:nk<=cap:=by omega
   obtain ⟨t4,t0,t1,t2,t3⟩:=hA.f;have hokE:=HM.o.ok e (by simp);have Bm1:=Bm.turn Hm0 hg;have S1:=S.turn Hm0 hg;have cb:=λW B H D=>XI mb b E1 sb a0 c n Lw e.1 e.2 hokE W B H D;have HBV:=hdd (show badP E1 Lw e.1 e.2=badP E1 Lw e.1 e.2 from rfl);have hw:=Below.refl wr.heap.size wr;go_wp2_with fail;clear t4 t0 t1 t2 t3 hA eA hq hq2 hq3;refine zI λW21 hW=>?_;obtain ⟨bkE,hbE⟩:∃ b,wr.heap.size=b:=⟨_,rfl⟩;rw [hbE];obtain ⟨fE,BE,hw⟩:=qM0 hW hbE hw;clear hW hbE;refine qK1 (cb _ (Bm1.ee hw) (Hm.ee hw) (S1.ee hw)) BE hw λw22 BE hw=>?_;clear cb;cases hb:badP E1 Lw e.1 e.2
   case false=>
    have HB:=hdd hb;clear hb;have HM2:=hdd (HM.o.pop HW.o HH.o S1.good HB.o);generalize badC E1 Lw e.1 e.2=bc at *
    obtain ⟨xE,yE,zE,vE⟩:=BE.f;go_wp2;clear xE yE zE vE
    go_roundg (mPot h L1 (K0 ++ [e]))
    case rel=>exact ⟨E1,L1,K0,((hpop.ee hw).alloc _).alloc _,((Hm.ee hw).alloc _).alloc _,HM2,HP2,zO (zO hg hw) (by go_grown)⟩
    case measure=>exact HP.o
   case true=>
    have HB:=hdd hb;clear hb;have HFL:=λE' L' r (g':Good E' L') (hf:FlipC E1 L1 e.1 e.2 r L')=>MSt.flip (p:=e.1) (q:=e.2) HHS.o HW.o HH.o S1.good HM.o HB.o g' hf;generalize badC E1 Lw e.1 e.2=bc at *
    have sE:(bkE=w22.heap.size+1)=False:=by have:=BE.lt;simp;omega
    obtain ⟨xE,yE,zE,vE⟩:=BE.f;go_wp2_with fail;clear xE yE zE vE;clear sE;refine zI λW23 hW=>?_;obtain ⟨bkC,hbC⟩:∃ b,w22.heap.size=b:=⟨_,rfl⟩;rw [hbC];have lEC:=BE.lt;rw [hbC] at lEC;have fC:=hw.size;rw [hbC] at fC;have BC:Box W23 (bkC) [.int .i64 bc.1.x,.int .i64 bc.1.y] 26:=by rw [hW,<-hbC];exact (Box.new rfl).old _
    have BD:Box W23 (bkC+1) [.int .i64 bc.2.x,.int .i64 bc.2.y] 26:=by rw [hW,<-hbC];exact Box.new (by simp)
    replace BE:Box W23 (bkE) [.int .i64 e.1.x,.int .i64 e.1.y,.int .i64 e.2.x,.int .i64 e.2.y] 132:=by rw [hW];exact ((BE).old _).old _
    replace hw:Below wr wr W23:=by have hl:=hw.size;rw [hW];go_grown
    clear hW hbC;have Hm1:=Hm.ee hw;have hp1:=hpop.ee hw;have hg1:=zO hg hw;refine (mflip_any mb b E1 L1 HM.o.good e.1 e.2 hokE _ (Bm1.ee hw) Hm1).mono ?_;rintro e9 w9 ⟨r,E2,L2,rfl,hg9,Hm9,G2,FC⟩;obtain ⟨rfl,hvol,HM2⟩:=HFL E2 L2 r G2 FC;replace BE:=BE.turn Hm1 hg9;replace BC:=BC.turn Hm1 hg9;replace BD:=BD.turn Hm1 hg9;have hp9:=hp1.kept hg9 (.inr (yF hp1 Hm1).symm);replace hg1:=zQ hg1 hg9;have HM3:=hdd HM2;have HP3:=hdd (pot_flip (K:=K0) (e:=e) (p:=e.1) (q:=e.2) (c:=bc.1) (d:=bc.2) (HM2.tiles.vols HW.o HH.o HHS.o) hvol);have HMe:=hdd (show K0.length<=2000000 from by rw [HNN.o];exact hn1);clear HFL G2 FC HM2 hvol hg9 Hm1 hp1 hw Hm;have hlt0:=λq hq=>(hp9.lt q hq).1;have hs9:=hg1.size;obtain ⟨xE,yE,zE,vE⟩:=BE.f;obtain ⟨xC,yC,zC,vC⟩:=BC.f;obtain ⟨xD,yD,zD,vD⟩:=BD.f;go_wp2_with (at_builtin;refine YG rfl _ _ rfl w0.heap.size _ K0 rfl (hp9.alloc _) w9.heap.size 4 (four e.1 e.2 bc.1 bc.2) rfl rfl (Box.new rfl) (by decide) HMe.o (by simp;omega) ?_;intro w10 v10 hown10 hg10)
    clear xE yE zE vE xC yC zC vC xD yD zD vD;have HA:Hs (w9.alloc (.cells #[.int .i64 e.1.x,.int .i64 e.1.y,.int .i64 bc.1.x,.int .i64 bc.1.y,.int .i64 bc.1.x,.int .i64 bc.1.y,.int .i64 e.2.x,.int .i64 e.2.y,.int .i64 e.2.x,.int .i64 e.2.y,.int .i64 bc.2.x,.int .i64 bc.2.y,.int .i64 bc.2.x,.int .i64 bc.2.y,.int .i64 e.1.x,.int .i64 e.1.y] 132)) b E2:=Hm9.alloc _;have Hm10:=HA.kept hg10 (yF (hp9.alloc _) HA);have hg2:=uR (zO hg1 (show Below w9 w9 (w9.alloc (.cells #[.int .i64 e.1.x,.int .i64 e.1.y,.int .i64 bc.1.x,.int .i64 bc.1.y,.int .i64 bc.1.x,.int .i64 bc.1.y,.int .i64 e.2.x,.int .i64 e.2.y,.int .i64 e.2.x,.int .i64 e.2.y,.int .i64 bc.2.x,.int .i64 bc.2.y,.int .i64 bc.2.x,.int .i64 bc.2.y,.int .i64 e.1.x,.int .i64 e.1.y] 132)) by go_grown)) hg10 hlt0;clear hg10 HA;go_wp2
    go_roundg (mPot h L1 (K0 ++ [e]))
    case rel=>exact ⟨E2,L2,_,hown10,Hm10,HM3,HP3,hg2⟩
    case measure=>exact HP.o
end
section
open Go.Lib Go.Shelf
theorem ERow.base {w:World} {B B':Nat} {v:Value} {K:List (Pt×Pt)} (h:ERow w B v K) (hb:B'<=B):ERow w B' v K:=by
 refine ⟨h.1,?_⟩;rcases h.2 with h | ⟨g,cap,cur,h0,h1,h2⟩
 ·exact .inl h
 ·exact .inr ⟨g,cap,cur,h0,JQ hb h1,h2⟩
def wEdg (x:Wl):Pt×Pt:=(x.A,x.B)
def FRep (W H:Int) (b:Nat) (Lw:List Wl) (L:List Tri3) (w:World) (e:Ending) (w':World):Prop:=
 e=.returned (.int .i64 0)/\∃ E1 L1,w.grownBy w' (some b)/\Hs w' b E1/\RSt W H Lw L E1 L1/\Fixed W H (wll Lw) L1
theorem fRepair_any (mb b:Nat) (E:Es) (L:List Tri3) (sb:Nat) (a0:Option Addr) (c n:Nat) (Lw:List Wl) (W H:Int) (hW:W < 16777216) (hH:H < 16777216) (hL:L.length<=94) (gE:Good E L) (ti:Tiles W H L) (w:World) (Bm:Box w mb [.map (some b)] 102) (Hm:Hs w b E) (S:SetRd w sb a0 c n Lw):Calls prog 44 #[pt0 mb,pt0 sb] w (FRep W H b Lw L w):=by
 obtain ⟨h,hh⟩:=Ki;have hE:E.length<=300:=by rw [gE.len];omega
 have hl0:=FB_le E Lw;have hLL:L.length * L.length<=94 * 94:=UE hL hL;have HMS:=hdd (show MSt W H h Lw L ((FB E Lw).map wEdg).length E L ((FB E Lw).map wEdg) from ⟨gE,ti,Kept.refl _ _,FB_okW hW hH gE ti S.good,λx y hb=>FB_cov hW hH gE ti S.good hb,[],List.nodup_nil,λe (he:e∈[])=>(by cases he),by simp⟩);have HNN:=hdd (show ((FB E Lw).map wEdg).length+27 * (L.length * L.length)<=1000000 by rw [Qq];omega);have HG:=hdd S.good;have HH:=hdd (show (Hts h/\W < 16777216/\H < 16777216) from ⟨hh,hW,hH⟩);have hok:∀ e∈E,okT e.2:=λe he=>by
  obtain ⟨ww,T⟩:=e;exact ye (gE.val T (ku.1 (gE.perm.mem_iff.1 he)).1)
 have cb:=fBad_any mb b E sb a0 c n Lw (by omega) hok w Bm Hm S;have hFl:(FB E Lw).length<=1000:=by omega
 clear hok hE hl0 hLL hL hh hW hH gE ti;generalize FB E Lw=F at *
 go_enter func44,ntmps44
 go_wp2_with fail;refine cb.mono ?_;rintro e w2 ⟨v,rfl,hr,hw⟩;obtain ⟨a,cap,rfl,hrow,_⟩:=hr.row;obtain ⟨m,hm⟩:∃ m,F.length=m:=⟨_,rfl⟩;rw [hm] at hFl ⊢;have HF:=hdd hm;clear cb hr hm;go_wp2_with fail
 go_loopw [5,18] (λv5 vi wr=>∃ k:Nat,k<=m/\vi=.int .i64 k/\ERow wr w2.heap.size v5 ((F.take k).map wEdg)/\Below w2 w2 wr) (λ_ vi _=>m - (intOf vi).toNat)
 case atStart=>exact ⟨0,JZ _,rfl,by simpa using ERow.nil0 _ _,Below.refl _ _⟩
 case round=>
  obtain ⟨k,hk,rfl,hown,hwr⟩:=hrel;by_cases hlt:k < m
  ·have hkF:k < F.length:=by rw [HF.o];exact hlt
   obtain ⟨ad,A,ea,eA,hA⟩:=(hrow.ee hwr).five (j:=k) hkF;have HT:=hdd (show (F.take (k+1)).map wEdg=(F.take k).map wEdg ++ [wEdg F[k]] by rw [JD hkF,QA];rfl);have hle:((F.take k).map wEdg).length<=2000000:=by rw [Qq,JV];omega
   generalize F[k]=X at *
   obtain ⟨t5,t0,t1,t2,t3,t4⟩:=hA.f;have hlt0:=λq hq=>(hown.lt q hq).1;have hs2:=hwr.size;subst ea;go_wp2_with (at_builtin;refine YG rfl _ _ rfl w2.heap.size _ _ rfl ((hown.alloc _).alloc _) (wr.heap.size+1) 1 [wEdg X] rfl rfl (Box.new (by simp)) (by decide) hle (by simp;omega) ?_;intro w4 v4 hown4 hg4)
   have hw4:=((hwr.alloc hwr.size (.cells #[X.A.x,X.A.y,X.B.x,X.B.y,X.K] 57)).alloc (by simp;omega) (.cells #[X.A.x,X.A.y,X.B.x,X.B.y] 132)).grown hg4 (by simp;omega) (λq hq=>by have:=hlt0 q hq;omega);clear hg4 hlt0 t5 t0 t1 t2 t3 t4 hA hown;go_wp2
   go_roundw
   case rel=>exact ⟨k+1,hlt,by go_num,by rw [HT.o];exact hown4,hw4⟩
   case measure=>simp [intOf];omega
  ·obtain rfl:k=m:=by omega
   rw [JM (by rw [HF.o];omega)] at hown;have hw3:=(upB hw hwr);have cm:=fmend_any mb b E E L L sb a0 c n Lw W H HH.o.2.1 HH.o.2.2 h HH.o.1 _ _ _ w Bm Hm S wr (zM hw3 _) (Hm.ee hw3) HMS.o HNN.o (hown.base hw.size);go_wp2_with fail;refine cm.mono ?_;rintro e w5 ⟨rfl,E1,L1,hg5,H5,M5⟩;have HM5:=hdd M5;clear cm M5;go_wp2
   go_ret
   exact ⟨rfl,E1,L1,hg5,H5,⟨HM5.o.good,HM5.o.tiles,HM5.o.kept⟩,HM5.o.fixed HG.o⟩
end
theorem KU {D D':List Wl} {p:Pt} (h:AddD D p D'):∀ x∈D',x∈D\/∃ X∈D,x.K=X.K/\onD p X=true/\((x.A=X.A/\x.B=p)\/(x.A=p/\x.B=X.B)):=by
 rcases h with ⟨_,rfl⟩ | ⟨X,r,D1,k1,k2,hf,hR,_,_,rfl⟩
 ·exact λx hx=>.inl hx
 ·have hXm:=Jr hf;have ho:=VC hf;have hD1:∀ y∈D1,y∈D:=by
   rcases hR with ⟨_,e,_⟩ | ⟨_,k,hk,_,e⟩
   ·rw [e];exact λy hy=>hy
   ·rw [e];exact λy hy=>uc.mem hy
  intro x hx;rcases Km.1 ((yk _ _ _).mem_iff.1 hx) with rfl | hx
  ·exact .inr ⟨X,hXm,rfl,ho,.inr ⟨rfl,rfl⟩⟩
  ·rcases Km.1 ((yk _ _ _).mem_iff.1 hx) with rfl | hx
   ·exact .inr ⟨X,hXm,rfl,ho,.inl ⟨rfl,rfl⟩⟩
   ·exact .inl (hD1 x hx)
theorem KT {W H:Int} {D D':List Wl} {p:Pt} (h:AddD D p D') (hr:∀ x∈D,x.K=2->onRim W H x.A x.B):∀ x∈D',x.K=2->onRim W H x.A x.B:=by
 intro x hx hk;rcases KU h x hx with h | ⟨X,hX,e,ho,hh⟩
 ·exact hr x h hk
 ·have k:=hr X hX (by rw [<-e];exact hk);unfold onD onR btw at ho;simp only [Ko,Kn] at ho;obtain ⟨_,_,_,_,_,_,b1,b2⟩:=ho;unfold onRim at *;rcases hh with ⟨e1,e2⟩ | ⟨e1,e2⟩ <;> rw [e1,e2] <;> omega
theorem Xg {D D':List Wl} {p:Pt} (h:AddD D p D'):∀ x∈D',∃ y∈D,x.K=y.K:=λx hx=>by
 rcases KU h x hx with h | ⟨X,hX,e,_⟩
 ·exact ⟨x,h,rfl⟩
 ·exact ⟨X,hX,e⟩
structure CInvW (W H:Int) (E:Es) (L:List Tri3) (D:List Wl):Prop where
 good:Good E L
 fix:Fixed W H (wll D) L
 kinds:∀ x∈D,0<=x.K/\x.K<=2
 wal:WInv L D
 rim:∀ x∈D,x.K=2->onRim W H x.A x.B
def CAddPostW (cb mb b db:Nat) (W H:Int) (L:List Tri3) (D:List Wl) (p:Pt) (w:World) (e:Ending) (w':World):Prop:=
 ∃ r v' E' L' D',e=.returned (.int .i64 r)/\CdtAt w' cb mb b db v' W H E' D'/\CInvW W H E' L' D'/\AddRes W H L p r/\(∀ q,someC L' q↔someC L q\/(q=p/\inBox W H p))/\L'.length<=L.length+2/\D'.length<=D.length+2/\(∀ x∈D',∃ y∈D,x.K=y.K)/\Frm w w' (λk=>k=b\/k=db)
def CAddPostA (cb mb b db:Nat) (v:Value) (W H:Int) (L:List Tri3) (D:List Wl) (p:Pt) (w:World) (e:Ending) (w':World):Prop:=
 ∃ r v' E' L' D',e=.returned (.int .i64 r)/\CdtAt w' cb mb b db v' W H E' D'/\CInvW W H E' L' D'/\AddRes W H L p r/\(∀ q,someC L' q↔someC L q\/(q=p/\inBox W H p))/\L'.length<=L.length+2/\D'.length<=D.length+2/\(∀ x∈D',∃ y∈D,x.K=y.K)/\(r=0->AddD D p D')/\(r≠0->D'=D)/\Frm w w' (λk=>k=b\/k=db)/\(∀ g,v'.ownBlock=some g->v.ownBlock=some g\/w.heap.size<=g)
theorem uy (cb mb b db:Nat) (v:Value) (W H:Int) (hW0:0 < W) (hH0:0 < H) (hW:W < 16777216) (hH:H < 16777216) (E:Es) (L:List Tri3) (D:List Wl) (hI:CInvW W H E L D) (hL:L.length<=20000) (hD:D.length<=20000) (p:Pt) (w:World) (S:CdtAt w cb mb b db v W H E D):Calls prog 13 #[pt0 cb,p] w (CAddPostA cb mb b db v W H L D p w):=by
 have hE:E.length<=1000000:=by rw [hI.good.len];omega
 by_cases hb0:inBox W H p
 ·by_cases hc0:someC L p
  ·have ca:=λw0 B1 H1=>raddP_have mb b db E p hE w0 B1 H1 (Xb hW hH hI.good hI.fix.tiles hW0 hH0 hb0) (λe=>(hI.good.star_nil p).1 e hc0);have HR:=hdd (show AddRes W H L p 5 from .inr (.inl ⟨rfl,hb0,hc0⟩));have HS:=hdd (show ∀ q,someC L q↔someC L q\/(q=p/\inBox W H p) from λq=>⟨.inl,λk=>by rcases k with k | ⟨rfl,_⟩;exact k;exact hc0⟩);clear hb0 hc0 hE
   go_enter func13,ntmps13
   go_wp2_with fail;refine zG λw1 hW=>?_;have Bp:Box w1 w [p.x,p.y] 26:=by rw [hW];exact Box.new rfl
   have hw:Below w w w1:=by rw [hW];go_grown
   clear hW;have S1:=S.ee hw;have g1:=Bp.cells;have g2:=S1.box.cells;refine rgn 9 (λw2 hb=>?_);clear g1 g2;have hw2:=(upB hw hb);clear hb Bp S1 hw;go_wp2_with fail;refine (ca _ (S.mesh.ee hw2) (S.map.ee hw2)).mono ?_;rintro e w3 ⟨rfl,hb⟩;have hw3:=(upB hw2 hb);clear hb ca hw2;go_wp2
   go_ret
   exact ⟨5,v,E,L,D,rfl,S.ee hw3,hI,HR.o,HS.o,by omega,by omega,λx hx=>⟨x,hx,rfl⟩,λe=>by omega,λ_=>rfl,Frm.of_below hw3,λg h=>.inl h⟩
  ·obtain ⟨hv,hu,hlen,L1,g1',t1',s1',n1'⟩:=add_good hW hH hI.good hI.fix.tiles hW0 hH0 hb0 hc0;have ca:=λw0 B1 H1 D1=>raddP_ok mb b db E p v D hE (by omega) (λT hT=>ye (hv T hT)) (λT hT U hU=>ye (hu T hT U hU)) (Xb hW hH hI.good hI.fix.tiles hW0 hH0 hb0) ((hI.good.star_nil p).2 hc0) w0 B1 H1 D1 (by omega) hI.kinds;have HR:=hdd (show AddRes W H L p 0 from .inr (.inr ⟨rfl,hb0,hc0⟩));have HS:=hdd (show ∀ q,someC L1 q↔someC L q\/(q=p/\inBox W H p) from λq=>by rw [s1' q];simp [hb0]);have HL1:=hdd (show L1.length<=L.length+2 by rcases n1' with ⟨k,_⟩ | ⟨k,_⟩ <;> omega);have HWA:=hdd (show ∀ D1,AddD D p D1->WInv L1 D1 from λD1 hA=>tj hW0 hH0 hW hH hI.good hI.fix.tiles hI.wal hb0 hc0 hA g1' t1');have cr:=λa0 c n D1 w0 B1 H1 R1=>ka mb b db a0 c n (addPE E p) L1 D1 W H hW hH (by have:=HL1.o;omega) g1' t1' w0 B1 H1 R1
   change ∀ (w0:World) B1 H1 D1,Calls _ _ _ _ (AddPost b db E p v D w0) at ca
   clear hb0 hc0 hE hv hu hlen g1' t1' s1' n1'
   go_enter func13,ntmps13
   go_wp2_with fail;refine zG λw1 hW'=>?_;have Bp:Box w1 w [p.x,p.y] 26:=by rw [hW'];exact Box.new rfl
   have hw:Below w w w1:=by rw [hW'];go_grown
   clear hW';have S1:=S.ee hw;have g1:=Bp.cells;have g2:=S1.box.cells;refine rgn 9 (λw2 hb=>?_);clear g1 g2;have hw2:=(upB hw hb);clear hb Bp S1 hw;go_wp2_with fail;have S2:=S.ee hw2;refine (ca _ S2.mesh S2.map S2.doc).mono ?_;rintro e w3 ⟨v1,D1,rfl,H3,D3,hA,f3,hg3⟩;have HG3:=hdd (show ∀ g,v1.ownBlock=some g->v.ownBlock=some g\/w.heap.size<=g from λg e=>(hg3 g e).imp id (JQ hw2.size));clear hg3;have nb:∀ {x:Nat} {cs:List Value} {T:TypeId},Box w2 x cs T->x≠b:=λh=>h.ne_map S2.map;have S3:CdtAt w3 cb mb b db v1 W H (addPE E p) D1:=⟨f3.box S2.box (λk=>by rcases k with k | k;exact nb S2.box k;exact S.cdb k),f3.box S2.mesh (λk=>by rcases k with k | k;exact nb S2.mesh k;exact S.mdb k),H3,D3,S.cdb,S.mdb⟩;have F3:Frm w w3 (λk=>k=b\/k=db):=(Frm.of_below hw2).trans f3;have hk:=YI hA hI.kinds;have HK:=hdd hk;have HWD:=hdd (HWA.o D1 hA);have HRD:=hdd (show (∀ x∈D1,x.K=2->onRim W H x.A x.B)/\(∀ x∈D1,∃ y∈D,x.K=y.K)/\AddD D p D1 from ⟨KT hA hI.rim,Xg hA,hA⟩);clear HWA;clear nb ca H3 D3 hA f3 S2 hw2 hk;generalize addPE E p=E1 at *
   have g2:=S3.box.cells;go_wp2_with fail;refine rgn 8 (λw4 hb=>?_);clear g2;have S4:=S3.ee hb;have F4:=F3.trans (Frm.of_below hb);clear hb S3 F3;obtain ⟨a9,c9,hv9,Dr,_⟩:=S4.doc.rd;have cr4:=cr a9 c9 D1.length D1 w4 S4.mesh S4.map Dr;clear cr hv9 Dr;go_wp2_with fail;refine cr4.mono ?_;rintro e w5 ⟨rfl,E2,L2,g5,H5,r5,f5⟩;have S5:CdtAt w5 cb mb b db v1 W H E2 D1:=⟨S4.box.turn S4.map g5,S4.mesh.turn S4.map g5,H5,S4.doc.turn S4.map g5,S.cdb,S.mdb⟩;have F5:=F4.trans2 (Frm.of_grown g5 (p:=λk=>k=b) (λg e=>by cases e;rfl)) (λk hk _=>.inl hk);have HI5:=hdd (show CInvW W H E2 L2 D1 from ⟨r5.good,f5,HK.o.1,HWD.o.kept r5.kept,HRD.o.1⟩);have HS5:=hdd (show ∀ q,someC L2 q↔someC L q\/(q=p/\inBox W H p) from λq=>(r5.kept.cnr q).trans (HS.o q));have HL5:=hdd (show L2.length<=L.length+2 by rw [r5.kept.len];exact HL1.o);clear cr4 g5 H5 r5 f5 S4 F4;go_wp2
   go_ret
   exact ⟨0,v1,E2,L2,D1,rfl,S5,HI5.o,HR.o,HS5.o,HL5.o,HK.o.2,HRD.o.2.1,λ_=>HRD.o.2.2,λk=>absurd rfl k,F5,HG3.o⟩
 ·have ca:=λw0 B1 H1=>raddP_none mb b db E p hE w0 B1 H1 (KR hI.good hI.fix.tiles hb0);have HR:=hdd (show AddRes W H L p 1 from .inl ⟨rfl,hb0⟩);have HS:=hdd (show ∀ q,someC L q↔someC L q\/(q=p/\inBox W H p) from λq=>⟨.inl,λk=>by rcases k with k | ⟨_,k⟩;exact k;exact absurd k hb0⟩);clear hb0 hE
  go_enter func13,ntmps13
  go_wp2_with fail;refine zG λw1 hW=>?_;have Bp:Box w1 w [p.x,p.y] 26:=by rw [hW];exact Box.new rfl
  have hw:Below w w w1:=by rw [hW];go_grown
  clear hW;have S1:=S.ee hw;have g1:=Bp.cells;have g2:=S1.box.cells;refine rgn 9 (λw2 hb=>?_);clear g1 g2;have hw2:=(upB hw hb);clear hb Bp S1 hw;go_wp2_with fail;refine (ca _ (S.mesh.ee hw2) (S.map.ee hw2)).mono ?_;rintro e w3 ⟨rfl,hb⟩;have hw3:=(upB hw2 hb);clear hb ca hw2;go_wp2
  go_ret
  exact ⟨1,v,E,L,D,rfl,S.ee hw3,hI,HR.o,HS.o,by omega,by omega,λx hx=>⟨x,hx,rfl⟩,λe=>by omega,λ_=>rfl,Frm.of_below hw3,λg h=>.inl h⟩
theorem rcaddX_any (cb mb b db:Nat) (v:Value) (W H:Int) (hW0:0 < W) (hH0:0 < H) (hW:W < 16777216) (hH:H < 16777216) (E:Es) (L:List Tri3) (D:List Wl) (hI:CInvW W H E L D) (hL:L.length<=20000) (hD:D.length<=20000) (p:Pt) (w:World) (S:CdtAt w cb mb b db v W H E D):Calls prog 13 #[pt0 cb,p] w (CAddPostW cb mb b db W H L D p w):=
 (uy cb mb b db v W H hW0 hH0 hW hH E L D hI hL hD p w S).mono λ_ _ ⟨r,v',E',L',D',h1,h2,h3,h4,h5,h6,h7,h8,_,_,h9,_⟩=>⟨r,v',E',L',D',h1,h2,h3,h4,h5,h6,h7,h8,h9⟩
theorem row_flatT {w:World} {b off:Nat} {L:List Tri3} (h:RowAt cT 6 w (some ⟨b,off,none⟩) L):∀ {t:Nat} {u:Value},(L.flatMap cT)[t]? = some u->w.cell? ⟨b,off+t,none⟩=some u:=λ{t u} hu=>by
 have ht:t < L.length * 6:=by have:=(JF.1 hu).1;rwa [zR kr] at this
 have hj:t / 6 < L.length:=by omega
 have e:=yL kr L (t / 6) (t % 6) L[t / 6] (JC hj) (by omega);rw [show t / 6 * 6+t % 6=t by omega,hu] at e;obtain ⟨ad,h1,h2,h3⟩:=h (t / 6) _ (JC hj);have h4:=h3 (t % 6) u e.symm;obtain rfl:=JL h1;rw [Addr.add_lit,Addr.add_lit] at h4;rw [show off+t / 6 * 6+t % 6=off+t by omega] at h4;exact h4
theorem append_trow {w:World} {ops:Array Oper} {rest:List Oper} {o:Oper} {a:Act} {Q:Exit->Act->World->Prop} (hgd:o.guard=none) (s x:Operand) (ho:o.op=.call { callee:=.builtin .append,args:=#[s,x],argTypes:=#[40,40] }) (B:Nat) (v:Value) (L:List Tri3) (hs:a.eval s=v) (hown:w.ownsRow B 28 6 v L.length (L.flatMap cT)) (bx cap:Nat) (U:List Tri3) (hx:a.eval x=.slice (some ⟨bx,0,none⟩) U.length cap) (hU:RowAt cT 6 w (some ⟨bx,0,none⟩) U) (hu0:U.length<=1000) (hn:L.length<=1000000) (hbase:B<=w.heap.size) (h:∀ w' v',w'.ownsRow B 28 6 v' (L ++ U).length ((L ++ U).flatMap cT)->w.grownBy w' v.ownBlock->wpList prog ops Q rest (a.put o.dst v') w'):wpList prog ops Q (o :: rest) a w:=by
 obtain ⟨i0,hi,hz0,hz1,hz2⟩:=info_parts Yz;refine wpList_append_own w hgd s x 40 ho B 28 i0 _ 6 48 underlying40 hi hz0 hz1 hz2 rfl (by decide) v L.length _ hs hown ⟨bx,0,none⟩ U.length cap (U.flatMap cT) hx (zR kr U) ?_ ?_ ?_ ?_ hbase ?_
 ·intro j u hj;rw [Addr.add_lit,Q9];have h9:=row_flatT hU hj
  rwa [Q9] at h9
 ·intro u hu;obtain ⟨X,_,hX⟩:=JH.1 hu;exact Kj X u hX
 ·unfold maxLen;omega
 ·omega
 ·intro v' w' hown' hg _;refine h w' v' ?_ hg;rw [Kp,JW];exact hown'
theorem gpoint_none (mb b sb:Nat) (E:Es) (p:Pt) (hE:E.length<=1000000) (hat:atE E p=[]) (w:World) (Bm:Box w mb [.map (some b)] 102) (Hm:Hs w b E):Calls prog 12 #[pt0 mb,pt0 sb,p] w (Rt w (.int .i64 1)):=by
 have cA:=λW B H=>YN mb b E p hE W B H
 change ∀ (W:World) B H,Calls _ _ _ _ λe w'=>∃ a cap,e=.returned (.slice a (atE E p).length cap)/\RowAt cT 6 w' a (atE E p)/\Below W W w' at cA
 rw [hat] at cA;clear hat
 go_enter func12,ntmps12
 go_wp2_with fail;refine zI λW1 hW=>?_;have hw:Below w w W1:=by rw [hW];go_grown
 clear hW;refine (cA _ (Bm.ee hw) (Hm.ee hw)).mono ?_;rintro e w2 ⟨a2,c2,rfl,hr,hb⟩;rw [Ql];replace hw:=upB hw hb;clear hb cA hr;go_wp2
 go_ret
 exact ⟨rfl,hw⟩
theorem gpoint_have (mb b sb:Nat) (E:Es) (p:Pt) (hE:E.length<=1000000) (hat:atE E p≠[]) (hall:∀ T∈atE E p,isCb p T=true) (w:World) (Bm:Box w mb [.map (some b)] 102) (Hm:Hs w b E):Calls prog 12 #[pt0 mb,pt0 sb,p] w (Rt w (.int .i64 5)):=by
 have cA:=λW B H=>YN mb b E p hE W B H
 change ∀ (W:World) B H,Calls _ _ _ _ λe w'=>∃ a cap,e=.returned (.slice a (atE E p).length cap)/\RowAt cT 6 w' a (atE E p)/\Below W W w' at cA
 generalize atE E p=L at *
 obtain ⟨n,hn⟩:∃ n,L.length=n:=⟨_,rfl⟩;have hn0:0 < n:=by rw [<-hn];exact VB.2 hat
 have hnz:¬ (n:Int)=0:=by omega
 have hnp:(0:Int) < (n:Int):=by omega
 have h0L:0 < L.length:=by omega
 have hcb:=hall _ (JP h0L);rw [hn] at cA;have HN:=hdd hn;clear hat hall hn
 go_enter func12,ntmps12
 go_wp2_with fail;refine qE1 λW1 Ba hw=>?_;refine (cA _ (Bm.ee hw) (Hm.ee hw)).mono ?_;rintro e w2 ⟨a2,c2,rfl,hr,hb⟩;obtain ⟨Ba,hw,-⟩:=qX1 Ba hw hb;clear hb cA;obtain ⟨ad,A,ea,eA,hA⟩:=hr.six (j:=0) h0L;have cC:=uT L[0] p;rw [hcb] at cC;generalize L[0]=T at *
 rw [show ad.add (0 * 6)=ad from by simp [Addr.add]] at eA;subst eA ea;have Fa:=Ba.f;have FA:=hA.f;have la:=Ba.lt;go_wp2_with fail;refine wp_loop_rounds 2 ?_;try rw [rounds_succ]
 go_wp2_with fail;refine zI λW3 hW=>?_;have hb:Below w2 w2 W3:=by rw [hW];go_grown
 replace hw:=upB hw hb;clear hW hb Fa FA;refine (cC _).mono ?_;rintro e w4 ⟨rfl,hb⟩;replace hw:=upB hw hb;clear hb cC;go_wp2
 go_ret
 exact ⟨rfl,hw⟩
theorem tP {p:Pt} {L:List Tri3} (hl:L.length<=2) {k:Nat}:((L.take k).flatMap (cutS p)).length<=1000000:=by
 have main:∀ M:List Tri3,(M.flatMap (cutS p)).length<=3 * M.length:=λM=>by
  induction M with
  | nil=>simp
  | cons T M ih=>
   have h1:(cutS p T).length<=3:=by
    unfold cutS cutR;rw [(zS _).length_eq];split
    ·exact km p T
    ·simp
   rw [Ks,Kp,JO];omega
 have h2:=main (L.take k);rw [JV] at h2;omega
theorem gp_n {k n:Nat} (h:k < n) (hn:n<=1000000):Value.int .i64 (wrap64 ((k:Int)+1))=.int .i64 ((k+1:Nat):Int):=by rw [show wrap64 ((k:Int)+1)=(k:Int)+1 by rw [w64];omega];rfl
theorem gp_meas {k n:Nat} (h:k < n) (hn:n<=1000000):n - (intOf (.int .i64 (wrap64 ((k:Int)+1)))).toNat < n - (intOf (.int .i64 (k:Int))).toNat:=by rw [show wrap64 ((k:Int)+1)=(k:Int)+1 by rw [w64];omega];simp [intOf];omega
def GPost (W H:Int) (b sb:Nat) (v:Value) (D:List Wl) (L1:List Tri3) (p:Pt) (w:World) (e:Ending) (w':World):Prop:=
 e=.returned (.int .i64 0)/\∃ E' L' v',Hs w' b E'/\SetAt w' sb v' (halfL D p)/\RSt W H (halfL D p) L1 E' L'/\Fixed W H (wll (halfL D p)) L'/\Frm w w' (λk=>k=b\/Foot sb v k)/\Fresh v v' w.heap.size
theorem gpoint_ok (mb b sb:Nat) (E:Es) (p:Pt) (W H:Int) (hW:W < 16777216) (hH:H < 16777216) (v:Value) (D:List Wl) (hE:E.length<=1000000) (hat:atE E p≠[]) (hlen:(atE E p).length<=2) (hA:∀ T∈atE E p,okT T/\hasP T p=true/\isCb p T=false/\0 < (cutP p T).length/\cutS p T=srt cmpT (cutP p T)/\∀ U∈cutS p T,okT U) (h1:(takeRun E (atE E p)).1=(atE E p).length) (h2:(putRun (takeRun E (atE E p)).2 ((atE E p).flatMap (cutS p))).1=((atE E p).flatMap (cutS p)).length) (L1:List Tri3) (g1:Good (putRun (takeRun E (atE E p)).2 ((atE E p).flatMap (cutS p))).2 L1) (t1:Tiles W H L1) (hL1:L1.length<=94) (hD:D.length<=900000) (hhalf:∀ X,D.find? (onD p)=some X->addE (remL D (lo2 X.A X.B) (hi2 X.A X.B)) ⟨X.A,p,X.K⟩=0/\addE (addL (remL D (lo2 X.A X.B) (hi2 X.A X.B)) ⟨X.A,p,X.K⟩) ⟨p,X.B,X.K⟩=0) (w:World) (Bm:Box w mb [.map (some b)] 102) (Hm:Hs w b E) (S:SetAt w sb v D) (hms:¬ Foot sb v mb):Calls prog 12 #[pt0 mb,pt0 sb,p] w (GPost W H b sb v D L1 p w):=by
 have cA:=λW B H=>YN mb b E p hE W B H
 change ∀ (W:World) B H,Calls _ _ _ _ λe w'=>∃ a cap,e=.returned (.slice a (atE E p).length cap)/\RowAt cT 6 w' a (atE E p)/\Below W W w' at cA
 generalize atE E p=L at *
 obtain ⟨n,hn⟩:∃ n,L.length=n:=⟨_,rfl⟩;have hn0:0 < n:=by rw [<-hn];exact VB.2 hat
 have hnz:((n:Int) == 0)=false:=by rw [beq_eq_false_iff_ne];omega
 have HL:=hdd (show n<=2 by omega);rw [hn] at cA;have HN:=hdd hn;have HA:=hdd hA;have HT:=hdd (show (takeRun E L).1=L.length/\(putRun (takeRun E L).2 (L.flatMap (cutS p))).1=(L.flatMap (cutS p)).length from ⟨h1,h2⟩);have HG:=hdd g1;have HQ:=hdd (show W < 16777216/\H < 16777216/\L1.length<=94/\D.length<=900000 from ⟨hW,hH,hL1,hD⟩);have HTI:=hdd t1;have HHF:=hdd hhalf;have HMS:=hdd hms;have HS:=hdd S;clear hat hA h1 h2 g1 t1 hhalf hms S hW hH hL1 hD hn hlen
 go_enter func12,ntmps12
 go_wp2_with fail;refine qE1 λW1 Ba hw=>?_;refine (cA _ (Bm.ee hw) (Hm.ee hw)).mono ?_;rintro e w2 ⟨a2,c2,rfl,hr,hb⟩;obtain ⟨Ba,hw,-⟩:=qX1 Ba hw hb;clear hb cA;have Fa:=Ba.f;go_wp2_with fail
 go_loopw [8,26] (λvl vi wr=>∃ k:Nat,vi=.int .i64 k/\k<=n/\wr.ownsRow w2.heap.size 28 6 vl ((L.take k).flatMap (cutS p)).length (((L.take k).flatMap (cutS p)).flatMap cT)/\Below w2 w2 wr) (λ_ vi _=>n - (intOf vi).toNat)
 case atStart=>exact ⟨0,rfl,JZ _,World.ownsRow_nil _ _ _ _,Below.refl _ _⟩
 case round=>
  clear Fa;obtain ⟨k,rfl,hk,hown,hwr⟩:=hrel;replace Ba:=Ba.ee hwr;by_cases hlt:k < n
  case pos=>
   have HLT:=hdd hlt;have hq0:(k:Int) < (n:Int):=by omega
   have hkL:k < L.length:=by rw [HN.o];exact hlt
   obtain ⟨ad,A,ea,eA,hSix⟩:=(hr.ee hwr).six (j:=k) hkL;have HST:=hdd (show (L.take (k+1)).flatMap (cutS p)=(L.take k).flatMap (cutS p) ++ cutS p L[k] by rw [JD hkL,JW];simp);obtain ⟨_,hh,hcb,hne,hcut,_⟩:=HA.o _ (JP hkL);have HLE:=hdd (show ((L.take k).flatMap (cutS p)).length<=1000000 from tP (by have:=HL.o;have:=HN.o;omega));have HCL:=hdd (km p L[k]);have cC:=uT L[k] p;rw [hcb] at cC;have cK:=λW=>XC L[k] p hh hcb hne W;rw [hcut] at HST;generalize L[k]=T at *
   have HSL:=hdd (show (srt cmpT (cutP p T)).length<=3 by rw [(zS _).length_eq];exact HCL.o);generalize srt cmpT (cutP p T)=U at *
   generalize (L.take k).flatMap (cutS p)=P0 at *
   clear hh hcb hne hcut HCL;subst ea;have Fa:=Ba.f;have FS:=hSix.f;go_wp2_with fail;refine zI λW3 hW=>?_;obtain ⟨bt,hbt⟩:∃ b,wr.heap.size=b:=⟨_,rfl⟩;rw [hbt];have lt:=Ba.lt;rw [hbt] at lt;have lr:=hwr.size;rw [hbt] at lr;have Bt:Box W3 bt [T.A.x,T.A.y,T.B.x,T.B.y,T.C.x,T.C.y] 28:=by rw [hW];exact Box.new hbt.symm
   have Ba3:Box W3 w [p.x,p.y] 26:=by rw [hW];exact Ba.old _
   have hb:Below wr wr W3:=by rw [hW];go_grown
   replace hown:=yo hown hb;replace hwr:=upB hwr hb;clear hW hb Fa FS hSix;refine (cC _).mono ?_;rintro e w4 ⟨rfl,hb⟩;replace Bt:=Bt.ee hb;replace Ba3:=Ba3.ee hb;replace hown:=yo hown hb;replace hwr:=upB hwr hb;clear hb cC;have Ft:=Bt.f;have Fa:=Ba3.f;go_wp2_with fail;refine (cK _).mono ?_;rintro e w5 ⟨g,cg,rfl,hrU,hg,hb⟩;clear Ft Fa;replace Bt:=Bt.ee hb;replace Ba3:=Ba3.ee hb;replace hown:=yo hown hb;replace hwr:=upB hwr hb;clear hb cK;have HBS:=hdd hwr.size;go_wp2_with (at_builtin;refine append_trow rfl _ _ rfl w2.heap.size _ P0 rfl hown g cg U rfl hrU (by have:=HSL.o;omega) HLE.o HBS.o ?_;intro w6 v6 hown6 hg6)
   have hw6:=hwr.grown hg6 hwr.size (λq hq=>(hown.lt q hq).1)
   go_roundw
   case rel=>exact ⟨k+1,gp_n HLT.o (by have:=HL.o;omega),HLT.o,by rw [HST.o];exact hown6,hw6⟩
   case measure=>exact gp_meas HLT.o (by have:=HL.o;omega)
  case neg=>
   have hkn:k=n:=by omega
   subst hkn;have hin:¬ (k:Int) < (k:Int):=by omega
   rw [JM (by rw [HN.o];exact JA _)] at hown;obtain ⟨a4,c4,rfl,hrP⟩:=xO kr hown;have hrL:=hr.ee hwr;have hwB:=(upB hw hwr);obtain ⟨m,hm⟩:∃ m,(L.flatMap (cutS p)).length=m:=⟨_,rfl⟩;have hm3:m<=1000000:=by
    have h9:=tP (p:=p) (L:=L) (by have:=HL.o;have:=HN.o;omega) (k:=L.length);rw [List.take_length] at h9;omega
   have hok2:∀ U∈L.flatMap (cutS p),okT U:=λU hU=>by
    obtain ⟨T,hT,hU2⟩:=JH.1 hU;exact (HA.o T hT).2.2.2.2.2 U hU2
   have cR:=λW B H r1 r2=>ux mb b E a2 a4 c2 c4 k m L (L.flatMap (cutS p)) HN (by have:=HL.o;omega) (λT hT=>(HA.o T hT).1) (hdd hm) hm3 hok2 (HT.o.1.trans HN.o) (HT.o.2.trans hm) W B H r1 r2;rw [hm];clear hm3 hok2 hm hown;generalize (putRun (takeRun E L).2 (L.flatMap (cutS p))).2=E6 at *
   have Fa:=Ba.f;go_wp2_with fail;refine (cR _ (Bm.ee hwB) (Hm.ee hwB) hrL hrP).mono ?_;rintro e w6 ⟨rfl,hg6,H6⟩;have H0:=Hm.ee hwB;have S0:=HS.o.ee hwB;have ns:sb≠b:=S0.box.ne_map H0;have no:some b≠v.ownBlock:=yF S0.row H0;have B6:=(Bm.ee hwB).turn H0 hg6;have Ba6:=Ba.turn H0 hg6;have S6:=S0.keep (Frm.of_grown hg6 (p:=λq=>q=b) (λg e=>(JL e).symm)) ns (λg hg e=>no (by rw [hg,e]));have FF:Frm w w6 (λq=>q=b\/Foot sb v q):=(Frm.of_below hwB).trans (Frm.of_grown hg6 (λg e=>.inl (JL e).symm));have nb:¬ Foot sb v b:=λh=>by
    rcases h with h | h
    ·exact ns h.symm
    ·exact no h.symm
   clear Fa cR hrL hrP H0 S0 hg6 hwr Ba hr;have Fa:=Ba6.f;go_wp2_with fail;cases hX:D.find? (onD p)
   case' none=>
    refine (ghalve_none sb v D p hX w6 S6).mono ?_;rintro e w7 ⟨rfl,hb⟩;have S7:SetAt w7 sb v (halfL D p):=by unfold halfL;rw [hX];exact S6.ee hb
    have H7:=H6.ee hb;have B7:=B6.ee hb;replace FF:=FF.trans (Frm.of_below hb);obtain ⟨v7,hv7⟩:∃ x,x=v:=⟨v,rfl⟩;rw [<-hv7] at S7;have f7:Fresh v v7 w.heap.size:=λg hg=>.inl (by rw [<-hv7];exact hg);clear hb hv7
   case' some X=>
    refine (ghalve_some sb v D p X hX HQ.o.2.2.2 (HHF.o X hX).1 (HHF.o X hX).2 w6 S6).mono ?_;rintro e w7 ⟨v7,rfl,S7,F7,f6⟩;have H7:Hs w7 b E6:=by
     have hl:=H6.lt;obtain ⟨es,clk,h1,r⟩:=H6;exact ⟨es,clk,by rw [F7.block b hl nb];exact h1,r⟩
    have B7:=F7.box B6 HMS.o;have s6:=FF.size;replace FF:=FF.trans2 F7 (λq h _=>.inr h);have f7:Fresh v v7 w.heap.size:=λg hg=>by
     rcases f6 g hg with h | h
     ·exact .inl h
     ·exact .inr (by omega)
    clear F7 f6 s6
   all_goals
    clear Fa S6 H6 B6 Ba6 nb no;obtain ⟨aS,cS,hvS,R7⟩:=S7.rd;have cr:=fRepair_any mb b E6 L1 sb aS cS _ (halfL D p) W H HQ.o.1 HQ.o.2.1 HQ.o.2.2.1 HG.o HTI.o w7 B7 H7 R7;clear R7 hvS;go_wp2_with fail;refine cr.mono ?_;rintro e w8 ⟨rfl,E8,L8,hg8,H8,R8,X8⟩;have no7:some b≠v7.ownBlock:=yF S7.row H7;have S8:=S7.keep (Frm.of_grown hg8 (p:=λq=>q=b) (λg e=>(JL e).symm)) ns (λg hg e=>no7 (by rw [hg,e]));have F8:=FF.trans2 (Frm.of_grown hg8 (p:=λq=>q=b) (λg e=>(JL e).symm)) (λq h _=>.inl h);have HR8:=hdd R8;have HX8:=hdd X8;clear cr hg8 R8 X8 S7 H7 B7;go_wp2
    go_ret
    exact ⟨rfl,E8,L8,v7,H8,S8,HR8.o,HX8.o,F8,f7⟩
theorem XM {T:Tri3} {p:Pt} (hv:valT T=true) (vp:vld p=true) (hh:hasT T p):0 < (cutP p T).length:=by
 obtain ⟨va,vb,vc,hD⟩:=qW hv;obtain ⟨h1,h2,h3⟩:=hh;have hs:=qn T.A T.B T.C p;unfold cutP;simp only [Kp];by_cases k1:0 < det T.A T.B p
 ·rw [zx va vb vp k1];simp only [Jy];omega
 ·by_cases k2:0 < det T.B T.C p
  ·rw [zx vb vc vp k2];simp only [Jy];omega
  ·have k3:0 < det T.C T.A p:=by omega
   rw [zx vc va vp k3];simp only [Jy];omega
theorem XL {T:Tri3} {p:Pt} (hh:hasP T p=true) (hc:isCb p T=false):cutS p T=srt cmpT (cutP p T):=by
 have:cutOk T p=true:=by
  have hc':¬ isCnr T p:=λk=>by rw [kj.2 k] at hc;cases hc
  unfold cutOk isCnr at *;simp only [U8] at hc';rw [hh,yM.2 hc'.1,yM.2 hc'.2.1,yM.2 hc'.2.2];rfl
 unfold cutS cutR;rw [J1 this]
def GAddPost (W H:Int) (b sb:Nat) (v:Value) (E:Es) (L:List Tri3) (D:List Wl) (p:Pt) (w:World) (e:Ending) (w':World):Prop:=
 ∃ r E' L' D' v',e=.returned (.int .i64 r)/\Hs w' b E'/\SetAt w' sb v' D'/\CInvW W H E' L' D'/\AddRes W H L p r/\(∀ q,someC L' q↔someC L q\/(q=p/\inBox W H p))/\L'.length<=L.length+2/\D'.length<=D.length+2/\(r=0->AddD D p D'/\(L'.length=L.length+2/\¬ atRim W H p\/L'.length=L.length+1/\atRim W H p)/\D'.length=D.length+(if (D.find? (onD p)).isSome then 1 else 0))/\(r≠0->E'=E/\L'=L/\D'=D)/\Frm w w' (λk=>k=b\/Foot sb v k)/\Fresh v v' w.heap.size
theorem gpoint_any (mb b sb:Nat) (v:Value) (W H:Int) (hW0:0 < W) (hH0:0 < H) (hW:W < 16777216) (hH:H < 16777216) (E:Es) (L:List Tri3) (D:List Wl) (hI:CInvW W H E L D) (hL:L.length<=92) (hD:D.length<=20000) (p:Pt) (w:World) (Bm:Box w mb [.map (some b)] 102) (Hm:Hs w b E) (S:SetAt w sb v D) (hms:¬ Foot sb v mb):Calls prog 12 #[pt0 mb,pt0 sb,p] w (GAddPost W H b sb v E L D p w):=by
 have hE:E.length<=1000000:=by rw [hI.good.len];omega
 have g:=hI.good;have t:=hI.fix.tiles;by_cases hb0:inBox W H p
 ·obtain ⟨q1,q2⟩:=tc hW hH g hb0;have q3:=Xb hW hH g t hW0 hH0 hb0;have vp:vld p=true:=by rw [zj];unfold inBox at hb0;omega
  have hin:∀ T∈atE E p,T∈L/\hasP T p=true:=λT hT=>JS.1 (q1.mem_iff.1 hT);by_cases hc0:someC L p
  ·obtain ⟨T0,hT0,c0⟩:=hc0;refine (gpoint_have mb b sb E p hE q3 (λT hT=>kj.2 (t.cnr_all hT0 (hin T hT).1 c0 ((q2 T (hin T hT).1).1 (hin T hT).2))) w Bm Hm).mono ?_;rintro e w' ⟨rfl,hb⟩;exact ⟨5,E,L,D,v,rfl,Hm.ee hb,S.ee hb,hI,.inr (.inl ⟨rfl,hb0,T0,hT0,c0⟩),λq=>⟨.inl,λk=>by rcases k with k | ⟨rfl,_⟩;exact k;exact ⟨T0,hT0,c0⟩⟩,by omega,by omega,λk=>by omega,λ_=>⟨rfl,rfl,rfl⟩,Frm.of_below hb,λg hg=>.inl hg⟩
  ·obtain ⟨k1,k2,k3,k4,k5,L1,g1,g2,t1,s1,n1⟩:=grow_good hW hH g t hW0 hH0 hb0 hc0;have hL1:L1.length<=L.length+2:=by rcases n1 with ⟨k,_⟩ | ⟨k,_⟩ <;> omega
   have hA:∀ T∈atE E p,okT T/\hasP T p=true/\isCb p T=false/\0 < (cutP p T).length/\cutS p T=srt cmpT (cutP p T)/\∀ U∈cutS p T,okT U:=λT hT=>by
    obtain ⟨m1,m2⟩:=hin T hT;have m3:isCb p T=false:=by
     cases h:isCb p T with
     | false=>rfl
     | true=>exact absurd ⟨T,m1,kj.1 h⟩ hc0
    exact ⟨ye (k1 T hT),m2,m3,XM (k1 T hT) vp ((q2 T m1).1 m2),XL m2 m3,λU hU=>ye (k2 T hT U hU)⟩
   have hh:=λX hX=>halve_eq hW0 hH0 hW hH g t hI.wal hb0 hc0 g1 t1 (X:=X) hX;refine (gpoint_ok mb b sb E p W H hW hH v D hE q3 k3 hA k4 k5 L1 g2 t1 (by omega) (by omega) (λX hX=>⟨(hh X hX).1,(hh X hX).2.1⟩) w Bm Hm S hms).mono ?_;rintro e w' ⟨rfl,E',L',v',H',S',R',F',f1,f2⟩;have hDD:WInv L1 (halfL D p)/\AddD D p (halfL D p)/\(halfL D p).length=D.length+(if (D.find? (onD p)).isSome then 1 else 0):=by
    cases hX:D.find? (onD p) with
    | none=>
     have e0:halfL D p=D:=by unfold halfL;rw [hX]
     have hA:AddD D p D:=.inl ⟨hX,rfl⟩;rw [e0];exact ⟨tj hW0 hH0 hW hH g t hI.wal hb0 hc0 hA g1 t1,hA,rfl⟩
    | some X=>
     have e0:halfL D p=addL (addL (remL D (lo2 X.A X.B) (hi2 X.A X.B)) ⟨X.A,p,X.K⟩) ⟨p,X.B,X.K⟩:=by unfold halfL;rw [hX]
     have:=(hh X hX).2.2 _ e0 S'.ris;exact ⟨this.1,this.2.1,this.2.2⟩
   have hk:=YI hDD.2.1 hI.kinds;exact ⟨0,E',L',halfL D p,v',rfl,H',S',⟨R'.good,F',hk.1,hDD.1.kept R'.kept,KT hDD.2.1 hI.rim⟩,.inr (.inr ⟨rfl,hb0,hc0⟩),λq=>by rw [R'.kept.cnr q,s1 q];simp [hb0],by rw [R'.kept.len];exact hL1,hk.2,λ_=>⟨hDD.2.1,by rw [R'.kept.len];exact n1,hDD.2.2⟩,λk=>absurd rfl k,f1,f2⟩
 ·refine (gpoint_none mb b sb E p hE (KR g t hb0) w Bm Hm).mono ?_;rintro e w' ⟨rfl,hb⟩;exact ⟨1,E,L,D,v,rfl,Hm.ee hb,S.ee hb,hI,.inl ⟨rfl,hb0⟩,λq=>⟨.inl,λk=>by rcases k with k | ⟨rfl,h⟩;exact k;exact absurd h hb0⟩,by omega,by omega,λk=>by omega,λ_=>⟨rfl,rfl,rfl⟩,Frm.of_below hb,λg hg=>.inl hg⟩
structure GSt (s:Int) (w:World) (m b sb:Nat) (v:Value) (E:Es) (L:List Tri3) (D:List Wl):Prop where
 box:Box w m [.map (some b)] 102
 map:Hs w b E
 set:SetAt w sb v D
 inv:CInvW s s E L D
 ms:¬ Foot sb v m
theorem GSt.ext {s:Int} {w w':World} {m b sb n:Nat} {v:Value} {E:Es} {L:List Tri3} {D:List Wl} (S:GSt s w m b sb v E L D) (hb:Below n w w') (hn:n=w.heap.size):GSt s w' m b sb v E L D:=
 ⟨S.box.ext hb hn,S.map.ext hb hn,S.set.ext hb hn,S.inv,S.ms⟩
theorem GSt.ee {s:Int} {w w':World} {m b sb:Nat} {v:Value} {E:Es} {L:List Tri3} {D:List Wl} (S:GSt s w m b sb v E L D) (hb:Below w w w'):GSt s w' m b sb v E L D:=S.ext hb rfl
def Apt (b sb:Nat) (v:Value) (k:Nat):Prop:=k≠b/\¬ Foot sb v k
theorem GSt.apt {s:Int} {w:World} {m b sb:Nat} {v:Value} {E:Es} {L:List Tri3} {D:List Wl} (S:GSt s w m b sb v E L D) {k:Nat} (hk:w.heap.size<=k):Apt b sb v k:=⟨by have:=S.map.lt;omega,KM S.set hk⟩
theorem Apt.step {w:World} {b sb:Nat} {v v':Value} {k:Nat} (h:Apt b sb v k) (f:Fresh v v' w.heap.size) (hk:k < w.heap.size):Apt b sb v' k:=⟨h.1,λe=>h.2 (uX f (JA _) k e hk)⟩
theorem Apt.box {w w':World} {b sb:Nat} {v:Value} {k:Nat} {cs:List Value} {T:TypeId} (h:Apt b sb v k) (B:Box w k cs T) (F:Frm w w' (λk=>k=b\/Foot sb v k)):Box w' k cs T:=F.box B λe=>by
 rcases e with e | e
 ·exact h.1 e
 ·exact h.2 e
def GTold (s:Int) (L:List Tri3) (D:List Wl) (p:Pt) (r:Int) (L':List Tri3) (D':List Wl):Prop:=
 AddRes s s L p r/\(∀ q,someC L' q↔someC L q\/(q=p/\inBox s s p))/\L'.length<=L.length+2/\D'.length<=D.length+2/\(r=0->AddD D p D'/\(L'.length=L.length+2/\¬ atRim s s p\/L'.length=L.length+1/\atRim s s p)/\D'.length=D.length+(if (D.find? (onD p)).isSome then 1 else 0))/\(r≠0->L'=L/\D'=D)
theorem gstep (s:Int) (hs:0 < s) (hs2:s<=60) {w:World} {m b sb:Nat} {v:Value} {E:Es} {L:List Tri3} {D:List Wl} (S:GSt s w m b sb v E L D) (hL:L.length<=92) (hD:D.length<=20000) (p:Pt):Calls prog 12 #[pt0 m,pt0 sb,p] w λe w'=>∃ r E' L' D' v',e=.returned (.int .i64 r)/\GSt s w' m b sb v' E' L' D'/\GTold s L D p r L' D'/\Frm w w' (λk=>k=b\/Foot sb v k)/\Fresh v v' w.heap.size:=by
 refine (gpoint_any m b sb v s s hs hs (by omega) (by omega) E L D S.inv hL hD p w S.box S.map S.set S.ms).mono ?_;rintro e w' ⟨r,E',L',D',v',rfl,h1,h2,h3,h4,h5,h6,h7,h8,h9,h10,h11⟩;have ha:Apt b sb v m:=⟨S.box.ne_map S.map,S.ms⟩;exact ⟨r,E',L',D',v',rfl,⟨ha.box S.box h10,h1,h2,h3,(ha.step h11 S.box.lt).2⟩,⟨h4,h5,h6,h7,h8,λk=>(h9 k).2⟩,h10,h11⟩
theorem Yt {w w':World} {p:Nat->Prop} {b:Nat} {E:Es} (H:Hs w b E) (h:Frm w w' p) (h1:¬ p b):Hs w' b E:=by
 have hlt:=H.lt;obtain ⟨es,clock,hb,r⟩:=H;exact ⟨es,clock,(h.block b hlt h1).trans hb,r⟩
theorem CdtAt.keep {w w':World} {cb mb b db:Nat} {v:Value} {W H:Int} {E:Es} {D:List Wl} {p:Nat->Prop} (S:CdtAt w cb mb b db v W H E D) (h:Frm w w' p) (h1:¬ p cb) (h2:¬ p mb) (h3:¬ p b) (h4:¬ p db) (h5:∀ g,v.ownBlock=some g->¬ p g):CdtAt w' cb mb b db v W H E D:=
 ⟨h.box S.box h1,h.box S.mesh h2,Yt S.map h h3,⟨h.box S.doc.box h4,h.row S.doc.row h5,S.doc.ne,S.doc.le⟩,S.cdb,S.mdb⟩
structure Apd (n1 m b2 sb:Nat) (v:Value) (cb mb b db:Nat) (vd:Value):Prop where
 ac:Apt b2 sb v cb
 am:Apt b2 sb v mb
 ab:Apt b2 sb v b
 ad:Apt b2 sb v db
 ao:∀ g,vd.ownBlock=some g->Apt b2 sb v g
 nb:m≠b
 nd:m≠db
 lo:n1<=b2/\(∀ k,Foot sb v k->n1<=k)/\n1<=b/\n1<=db
structure Two9 (s:Int) (n1:Nat) (w:World) (m b2 sb:Nat) (v:Value) (E:Es) (L:List Tri3) (D:List Wl) (cb mb b db:Nat) (vd:Value) (E1:Es) (L1:List Tri3) (D1:List Wl):Prop where
 S:GSt s w m b2 sb v E L D
 C:CdtAt w cb mb b db vd s s E1 D1
 I:CInvW s s E1 L1 D1
 A:Apd n1 m b2 sb v cb mb b db vd
section
variable {s:Int} {n1:Nat} {w w':World} {m b2 sb:Nat} {v v':Value} {E E':Es} {L L':List Tri3} {D D':List Wl} {cb mb b db:Nat} {vd vd':Value} {E1 E1':Es} {L1 L1':List Tri3} {D1 D1':List Wl}
theorem Two9.ext {n:Nat} (B:Two9 s n1 w m b2 sb v E L D cb mb b db vd E1 L1 D1) (hb:Below n w w') (hn:n=w.heap.size):Two9 s n1 w' m b2 sb v E L D cb mb b db vd E1 L1 D1:=
 ⟨B.S.ext hb hn,B.C.ext hb hn,B.I,B.A⟩
theorem Two9.ee {s:Int} {n1:Nat} {w w':World} {m b2 sb:Nat} {v:Value} {E:Es} {L:List Tri3} {D:List Wl} {cb mb b db:Nat} {vd:Value} {E1:Es} {L1:List Tri3} {D1:List Wl} (B:Two9 s n1 w m b2 sb v E L D cb mb b db vd E1 L1 D1) (hb:Below w w w'):Two9 s n1 w' m b2 sb v E L D cb mb b db vd E1 L1 D1:=B.ext hb rfl
theorem Two9.prog (B:Two9 s n1 w m b2 sb v E L D cb mb b db vd E1 L1 D1) (hn:n1<=w.heap.size) (S':GSt s w' m b2 sb v' E' L' D') (F:Frm w w' (λk=>k=b2\/Foot sb v k)) (f:Fresh v v' w.heap.size):Two9 s n1 w' m b2 sb v' E' L' D' cb mb b db vd E1 L1 D1:=by
 have n {k:Nat} (h:Apt b2 sb v k):¬ (k=b2\/Foot sb v k):=λe=>by
  rcases e with e | e
  ·exact h.1 e
  ·exact h.2 e
 refine ⟨S',B.C.keep F (n B.A.ac) (n B.A.am) (n B.A.ab) (n B.A.ad) (λg hg=>n (B.A.ao g hg)),B.I,?_⟩;refine ⟨B.A.ac.step f B.C.box.lt,B.A.am.step f B.C.mesh.lt,B.A.ab.step f B.C.map.lt,B.A.ad.step f B.C.doc.box.lt,λg hg=>(B.A.ao g hg).step f (B.C.doc.row.lt g hg).2,B.A.nb,B.A.nd,B.A.lo.1,λk h=>?_,B.A.lo.2.2⟩;rcases h with h | h
 ·exact B.A.lo.2.1 k (.inl h)
 ·rcases f k h with h | h
  ·exact B.A.lo.2.1 k (.inr h)
  ·exact JQ hn h
end
theorem KJ {k:Nat} (h:k<=100000):wrap64 ((k:Int)+1)=((k+1:Nat):Int):=by rw [w64];omega
theorem KK {k m:Nat} (h:k < m) (e:wrap64 ((k:Int)+1)=((k+1:Nat):Int)):m - (intOf (.int .i64 (wrap64 ((k:Int)+1)))).toNat < m - (intOf (.int .i64 (k:Int))).toNat:=by
 rw [e];simp [intOf];omega
def addsW (k:Int):List Pt->Es->List Wl->Es->List Wl->Prop
 | x :: y :: M,E,D,E2,D2=>∃ Q0 j,Q0.Perm (crossD x y E)/\PutAt D (mkW x y k) j/\addsW k (y :: M) (forceR x y capN E Q0).1 (insW D (mkW x y k) j) E2 D2
 | _,E,D,E2,D2=>E2=E/\D2=D
def calm (D:List Wl) (M:List Pt):Prop:=∀ (i:Nat) (h:i+1 < M.length),clashD D M[i] M[i+1]=0
def AddWR (E:Es) (D:List Wl) (p q:Pt) (k r:Int) (E2:Es) (D2:List Wl):Prop:=
 (r≠0/\E2=E/\D2=D)\/(r=0/\(k=1\/k=2)/\p≠q/\vld p=true/\vld q=true/\starE p E≠[]/\starE q E≠[]/\∃ M,PartsL E p q M/\calm D M/\addsW k M E D E2 D2)
def AddWPost (b db:Nat) (E:Es) (D:List Wl) (p q:Pt) (k:Int) (w:World) (e:Ending) (w':World):Prop:=
 ∃ r E2 D2 v2,e=.returned (.int .i64 r)/\AddWR E D p q k r E2 D2/\Hs w' b E2/\DocAt w' db v2 D2/\Frm w w' (λx=>x=b\/x=db)
theorem raddw_b0_1 (mb b db:Nat) (E:Es) (p q:Pt) (k:Int) (h1:(k != 1)=false) (e0:peqI p.x p.y q.x q.y=true) (w:World) (Bm:Box w mb [.map (some b)] 93) (Hm:Hs w b E):Calls prog 73 #[pt0 mb,pt0 db,p,q,k] w (Rt w (.int .i64 2)):=by
 have cp:=λw0 B1 H1=>rparts_b0 mb b E p q e0 w0 B1 H1;clear e0
 go_enter func73,ntmps73
 go_wp2_with fail;refine qE2 λW1 Bp Bq hw=>?_;refine qC2 (cp _ (Bm.ee hw) (Hm.ee hw)) Bp Bq hw λw2 Bp Bq hw FK=>?_;go_wp2
 go_ret
 exact ⟨rfl,by have hl:=hw.size;go_grown⟩
theorem raddw_b1_1 (mb b db:Nat) (E:Es) (p q:Pt) (k:Int) (h1:(k != 1)=false) (e0:peqI p.x p.y q.x q.y=false) (e1:vld p=false) (w:World) (Bm:Box w mb [.map (some b)] 93) (Hm:Hs w b E):Calls prog 73 #[pt0 mb,pt0 db,p,q,k] w (Rt w (.int .i64 2)):=by
 have cp:=λw0 B1 H1=>rparts_b1 mb b E p q e0 e1 w0 B1 H1;clear e0
 go_enter func73,ntmps73
 go_wp2_with fail;refine qE2 λW1 Bp Bq hw=>?_;refine qC2 (cp _ (Bm.ee hw) (Hm.ee hw)) Bp Bq hw λw2 Bp Bq hw FK=>?_;go_wp2
 go_ret
 exact ⟨rfl,by have hl:=hw.size;go_grown⟩
theorem raddw_b2_1 (mb b db:Nat) (E:Es) (p q:Pt) (k:Int) (h1:(k != 1)=false) (e0:peqI p.x p.y q.x q.y=false) (e1:vld p=true) (e2:vld q=false) (w:World) (Bm:Box w mb [.map (some b)] 93) (Hm:Hs w b E):Calls prog 73 #[pt0 mb,pt0 db,p,q,k] w (Rt w (.int .i64 2)):=by
 have cp:=λw0 B1 H1=>rparts_b2 mb b E p q e0 e1 e2 w0 B1 H1;clear e0
 go_enter func73,ntmps73
 go_wp2_with fail;refine qE2 λW1 Bp Bq hw=>?_;refine qC2 (cp _ (Bm.ee hw) (Hm.ee hw)) Bp Bq hw λw2 Bp Bq hw FK=>?_;go_wp2
 go_ret
 exact ⟨rfl,by have hl:=hw.size;go_grown⟩
theorem raddw_n1_1 (mb b db:Nat) (E:Es) (p q:Pt) (k:Int) (h1:(k != 1)=false) (hE:E.length<=500000) (e0:peqI p.x p.y q.x q.y=false) (e1:vld p=true) (e2:vld q=true) (s1:starE p E=[]) (w:World) (Bm:Box w mb [.map (some b)] 93) (Hm:Hs w b E):Calls prog 73 #[pt0 mb,pt0 db,p,q,k] w (Rt w (.int .i64 16)):=by
 have cp:=λw0 B1 H1=>rparts_n1 mb b E p q hE e0 e1 e2 s1 w0 B1 H1;clear e0
 go_enter func73,ntmps73
 go_wp2_with fail;refine qE2 λW1 Bp Bq hw=>?_;refine qC2 (cp _ (Bm.ee hw) (Hm.ee hw)) Bp Bq hw λw2 Bp Bq hw FK=>?_;go_wp2
 go_ret
 exact ⟨rfl,by have hl:=hw.size;go_grown⟩
theorem raddw_n2_1 (mb b db:Nat) (E:Es) (p q:Pt) (k:Int) (h1:(k != 1)=false) (hE:E.length<=500000) (e0:peqI p.x p.y q.x q.y=false) (e1:vld p=true) (e2:vld q=true) (s1:starE p E≠[]) (s2:starE q E=[]) (w:World) (Bm:Box w mb [.map (some b)] 93) (Hm:Hs w b E):Calls prog 73 #[pt0 mb,pt0 db,p,q,k] w (Rt w (.int .i64 16)):=by
 have cp:=λw0 B1 H1=>rparts_n2 mb b E p q hE e0 e1 e2 s1 s2 w0 B1 H1;clear e0
 go_enter func73,ntmps73
 go_wp2_with fail;refine qE2 λW1 Bp Bq hw=>?_;refine qC2 (cp _ (Bm.ee hw) (Hm.ee hw)) Bp Bq hw λw2 Bp Bq hw FK=>?_;go_wp2
 go_ret
 exact ⟨rfl,by have hl:=hw.size;go_grown⟩
theorem RowAt.ne_slice {w:World} {ad:Addr} {M:List Pt} {db:Nat} {x:Option Addr} {n c:Nat} {T:TypeId} (h:RowAt cP 2 w (some ad) M) (hM:0 < M.length) (hB:Box w db [.slice x n c] T):ad.block≠db:=by
 intro e;obtain ⟨ad2,A,e2,e3,hA⟩:=h.two hM;obtain rfl:ad=ad2:=JL e2;have hb:A.block=db:=by rw [<-e3,zi];exact e
 have h1:=hA.2.1;unfold Box at hB;unfold World.cell? at h1;rw [hb,hB] at h1;simp only at h1;split at h1
 ·cases h1
 ·cases ho:A.off with
  | zero=>rw [ho] at h1;simp at h1
  | succ m=>rw [ho] at h1;simp at h1
theorem Zh (x y:Pt) {k:Int} (hk:k=1\/k=2):0<=(mkW x y k).K/\(mkW x y k).K<=2:=by
 unfold mkW;split <;> simp;omega
theorem Zc {E:Es} {p q:Pt} {M:List Pt} (h:PartsL E p q M) (hp:p∈onE E p q):0 < M.length/\M.length<=E.length:=by
 refine ⟨VZ ((h.1 p).2 hp),?_⟩;have nd:∀ {L:List Pt},Rising cmpP L->L.Nodup:=λh=>h.imp λ{x y} h e=>by subst e;have:=(zY (p:=x) (q:=x)).2 rfl;omega
 have hn:M.Nodup:=by
  rcases h.2 with h | h
  ·exact nd h.1
  ·exact (List.reverse_perm M).nodup_iff.1 (nd h.1)
 exact JQ (qM M (onE E p q) hn (λx hx=>(h.1 x).1 hx)) (Yj E p q)
theorem raddw_ok_1 (mb b db:Nat) (E:Es) (L:List Tri3) (hE:E.length<=90000) (g:Good E L) (v:Value) (D:List Wl) (hD:D.length<=100000) (hgk:∀ x∈D,0<=x.K/\x.K<=2) (p q:Pt) (k:Int) (h1:(k != 1)=false) (e0:peqI p.x p.y q.x q.y=false) (e1:vld p=true) (e2:vld q=true) (s1:starE p E≠[]) (s2:starE q E≠[]) (w:World) (Bm:Box w mb [.map (some b)] 93) (Hm:Hs w b E) (Dw:DocAt w db v D) (hmd:mb≠db):Calls prog 73 #[pt0 mb,pt0 db,p,q,k] w (AddWPost b db E D p q k w):=by
 have HPE:∀ {M:List Pt},PartsL E p q M->p∈onE E p q:=λ{M} _=>by
  obtain ⟨T,hT⟩:=VR _ s1;unfold starE at hT;obtain ⟨e,he,_⟩:=JN.1 hT;obtain ⟨he,hp⟩:=JS.1 he;have hp:e.1.1=p:=by simpa using hp
  unfold onE froms;refine JS.2 ⟨JN.2 ⟨e,he,hp⟩,?_⟩;unfold onR btw;have z:det p q p=0:=by unfold det;grind
  have k1:min p.x q.x<=p.x/\p.x<=max p.x q.x:=by omega
  have k2:min p.y q.y<=p.y/\p.y<=max p.y q.y:=by omega
  rw [e1,e2,z,Qi k1,Qi k2];rfl
 have cp:=λw0 B1 H1=>rparts_ok mb b E p q (by omega) e0 e1 e2 s1 s2 w0 B1 H1
 change ∀ (w0:World) B1 H1,Calls _ _ _ _ (PartsPost E p q w0) at cp
 have HG:=hdd (And.intro e0 (And.intro s1 s2));clear e0 s1 s2
 go_enter func73,ntmps73
 go_wp2_with fail;refine qE2 λW1 Bp Bq hw=>?_;refine (cp _ (Bm.ee hw) (Hm.ee hw)).mono ?_;rintro e w2 ⟨M,aM,cM,rfl,hrM,hPM,hb⟩;obtain ⟨Bp,Bq,hw,-⟩:=qX2 Bp Bq hw hb;clear hb;have HPM:=hdd hPM;have hMl:=Zc hPM (HPE hPM);have hM0:=hdd hMl.1;have hM1:=hdd (show M.length<=90000 from JQ hMl.2 hE);have S2:=Dw.ee hw;clear hMl hPM;obtain ⟨n,hn⟩:∃ n,M.length=n:=⟨_,rfl⟩;have HN:=hdd hn;rw [hn] at hM0 hM1;rw [hn];clear hn;have HC0:=hdd (show ∀ (j:Nat) (h:j+1 < M.length),j < 0->clashD D M[j] M[j+1]=0 from λj h h0=>by omega);clear cp Bp Bq;go_wp2
 go_loopw [13] (λv13 wr=>∃ i:Nat,v13=.int .i64 i/\i<=n/\Hi (∀ (j:Nat) (h:j+1 < M.length),j < i->clashD D M[j] M[j+1]=0)/\RowAt cP 2 wr aM M/\DocAt wr db v D/\Below w w wr) (λv13 _=>n - (intOf v13).toNat)
 case atStart=>exact ⟨0,rfl,JZ _,HC0,hrM,S2,hw⟩
 case round=>
  clear HC0 hrM S2 hw;obtain ⟨i,rfl,hi,HC,hrM,S2,hw⟩:=hrel;have hn9:n<=90000:=hM1.o;by_cases hlt:i+1 < n
  case neg=>
   have HCL:=hdd (show calm D M from λj h=>HC.o j h (by rw [HN.o] at h;omega));have q0:decide ((i:Int)+1 < (n:Int))=false:=by simp;omega
   have hiw:i<=90000:=by omega
   have Hb:=Hm.ee hw;have F0:Frm w wr (λx=>x=b\/x=db):=Frm.of_below hw;have HG0:=hdd (show ∃ Li,Good E Li/\Li.length=L.length from ⟨L,g,rfl⟩);have HK0:=hdd hgk;have HL0:=hdd (show D.length<=D.length+0 from JA _);have HS0:=hdd (show ∀ E2 D2,addsW k (M.drop 0) E D E2 D2->addsW k M E D E2 D2 from λE2 D2 h=>by rw [QC] at h;exact h);have HDL:=hdd hD;have HEL:=hdd (show 3 * L.length<=90000 by rw [<-g.len];exact hE);clear HC hw g hgk hD hlt;go_wp2
   go_loopw [15] (λv15 wr=>∃ (i:Nat) (Ei:Es) (Di:List Wl) (vi:Value),v15=.int .i64 i/\i<=n/\Hs wr b Ei/\Hi (∃ Li,Good Ei Li/\Li.length=L.length)/\DocAt wr db vi Di/\Hi (∀ x∈Di,0<=x.K/\x.K<=2)/\Hi (Di.length<=D.length+i)/\Hi (∀ E2 D2,addsW k (M.drop i) Ei Di E2 D2->addsW k M E D E2 D2)/\RowAt cP 2 wr aM M/\Frm w wr (λx=>x=b\/x=db)) (λv15 _=>n - (intOf v15).toNat)
   case atStart=>exact ⟨0,E,D,_,rfl,JZ _,Hb,HG0,S2,HK0,HL0,HS0,hrM,F0⟩
   case round=>
    clear Hb HG0 S2 HK0 HL0 HS0 hrM F0 q0;obtain ⟨i,Ei,Di,vi,rfl,hi,Hb,HGi,Si,HKi,HLi,HSi,hrM,Fi⟩:=hrel;by_cases hlt:i+1 < n
    case neg=>
     have HR:=hdd (show AddWR E D p q k 0 Ei Di from by
      have hlast:addsW k (M.drop i) Ei Di Ei Di:=by
       have hl:(M.drop i).length<=1:=by rw [JR,HN.o];omega
       match hm:M.drop i,hl with
       | [],_=>exact ⟨rfl,rfl⟩
       | [_],_=>exact ⟨rfl,rfl⟩
       | _ :: _ :: _,hl=>simp at hl
      obtain ⟨f0,f1,f2⟩:=HG.o;exact .inr ⟨rfl,.inl (by simpa using h1),(λe=>by rw [e,yw.2 rfl] at f0;cases f0),e1,e2,f1,f2,M,HPM.o,HCL.o,HSi.o _ _ hlast⟩)
     have q0:decide ((i:Int)+1 < (n:Int))=false:=by simp;omega
     have hiw:i<=90000:=by omega
     clear hlt;go_wp2;refine bodyPost_ret (v:=.int .i64 0) (by simp [results,results73,go_sem]) rfl ?_;exact ⟨0,Ei,Di,vi,rfl,HR.o,Hb,Si,Fi⟩
    case pos=>
     have q0:(i:Int)+1 < (n:Int):=by omega
     have q1:(i:Int) < (n:Int):=by omega
     have hi1:i < M.length:=by rw [HN.o];omega
     have hi2:i+1 < M.length:=by rw [HN.o];omega
     obtain ⟨ad,A,ea,eA,hA⟩:=hrM.two hi1;obtain ⟨ad2,A2,ea2,eA2,hA2⟩:=hrM.two hi2;have HDR:=hdd (show M.drop i=M[i] :: M[i+1] :: M.drop (i+2)/\M.drop (i+1)=M[i+1] :: M.drop (i+2) from ⟨by rw [Jv hi1,Jv hi2],Jv hi2⟩);obtain ⟨x,hx⟩:∃ x,M[i]=x:=⟨_,rfl⟩;obtain ⟨y,hy⟩:∃ y,M[i+1]=y:=⟨_,rfl⟩;rw [hx] at hA HDR;rw [hy] at hA2 HDR;have HX1:=hdd hx;have HY1:=hdd hy;clear hx hy;rw [ea] at ea2;obtain rfl:ad=ad2:=JL ea2;subst ea;obtain ⟨i1,hj1⟩:∃ i1,i1=i+1:=⟨_,rfl⟩;rw [<-hj1] at eA2;have q2:(i1:Int) < (n:Int):=by omega
     have HLT:=hdd hlt;have hq1:IntKind.i64.wrap ((i:Int)+1)=(i1:Int):=by rw [IntKind.wrap_i64];omega
     replace hj1:=hdd hj1;obtain ⟨s0,s1⟩:=hA.cells;obtain ⟨s2,s3⟩:=hA2.cells;have hn9:n<=90000:=hM1.o;clear ea2;go_wp2_with fail;refine rgn 10 (λw4 hb=>?_);clear s0 s1 s2 s3;have hmb:mb≠b:=Bm.ne_map Hm;have Bm4:=(Fi.box Bm (λk=>by rcases k with k | k;exact hmb k;exact hmd k)).ee hb;have Hb4:=Hb.ee hb;have Si4:=Si.ee hb;have r4:=hrM.ee hb;have F4:Frm w w4 (λx=>x=b\/x=db):=Fi.trans (Frm.of_below hb);obtain ⟨Li,gi,hli⟩:=HGi.o;have cf:=rforce_any mb b Ei Li (by rw [gi.len,hli];have:=HEL.o;omega) gi x y w4 Bm4 Hb4;have HGN:=hdd (λQ0=>show ∃ L',Good (forceR x y capN Ei Q0).1 L'/\L'.length=L.length from by
      obtain ⟨L2,g2,h2⟩:=tN capN (a:=x) (b:=y) (Q:=Q0) gi;exact ⟨L2,g2,h2.trans hli⟩)
     clear gi hli HGi Hb Si hrM Fi Bm4 hA hA2 hb hmb;go_wp2_with fail;refine cf.mono ?_;rintro e w5 ⟨rfl,Q0,hQ0,hg5,H5⟩;have S5:=Si4.turn Hb4 hg5;have r5:=r4.turn cP_ne Hb4 hg5;have F5:Frm w w5 (λx=>x=b\/x=db):=F4.trans (Frm.of_grown hg5 (λg e=>.inl (JL e).symm));have HGN:=hdd (HGN.o Q0);have HQ:=hdd hQ0;have cw:=kv x y k;have HW:=hdd (Zh x y (.inl (by simpa using h1)));have HST:=hdd (λj (hj:PutAt Di (mkW x y k) j)=>show ∀ E2 D2,addsW k (M.drop (i+1)) (forceR x y capN Ei Q0).1 (insW Di (mkW x y k) j) E2 D2->addsW k M E D E2 D2 from λE2 D2 h=>HSi.o E2 D2 (by
      obtain ⟨d1,d2⟩:=HDR.o;rw [d2] at h;rw [d1];exact ⟨Q0,j,HQ.o,hj,h⟩))
     clear cf hQ0 Hb4 Si4 r4 F4 hg5 HSi;generalize (forceR x y capN Ei Q0).1=E5 at *
     generalize mkW x y k=Z at *
     generalize mkOk x y k=zk at *
     obtain ⟨ad3,A3,ea3,eA3,hA3⟩:=r5.two hi1;obtain ⟨ad4,A4,ea4,eA4,hA4⟩:=r5.two hi2;rw [HX1.o] at hA3;rw [HY1.o] at hA4;obtain rfl:ad=ad3:=JL ea3;obtain rfl:ad=ad4:=JL ea4;obtain rfl:A3=A:=by rw [<-eA3,eA]
     obtain rfl:A4=A2:=by rw [<-eA4,<-eA2,hj1.o]
     clear ea3 ea4 eA3 eA4 HX1 HY1 hi1 hi2 HDR;obtain ⟨s0,s1⟩:=hA3.cells;obtain ⟨s2,s3⟩:=hA4.cells;have hw:Below w5 w5 w5:=Below.refl _ _;have hn9:n<=90000:=hM1.o;go_wp2_with fail;refine rgl5 14 16 85 (λw41 bkz hb h1b h2b Bz=>?_);have hw0z:=hw.size;replace hw:=upB hw hb;have fz:=h1b;have hwz:w5.heap.size<=w5.heap.size:=hw0z;have S6:=S5.ee hb;have H6:=H5.ee hb;have r6:=r5.ee hb;have F6:Frm w w41 (λx=>x=b\/x=db):=F5.trans (Frm.of_below hb);clear s0 s1 s2 s3 S5 H5 r5 F5 hA3 hA4 cw;clear hb h1b h2b hw0z;simp only [Act.put];have Fz:=Bz.f;have cp:=xq db vi Di Z (by have:=HLi.o;have:=HDL.o;omega) HKi.o HW.o w41 S6;go_wp2_with fail;refine cp.mono ?_;rintro e w60 ⟨j,v6,rfl,hj,S7,f7,_⟩;have hw6:=hw.size;have hdb:db < w41.heap.size:=S6.box.lt;have H7:Hs w60 b E5:=H6.kept f7.grown (λe=>S6.box.ne_map H6 (JL e).symm);obtain ⟨a6,c6,e6,_,_⟩:=S6.rd;have hMp:0 < M.length:=by have:=HN.o;have:=hM0.o;omega
     have hbd:ad.block≠db:=r6.ne_slice (x:=a6) (n:=Di.length) (c:=c6) (T:=51) hMp (by have:=S6.box;rw [e6] at this;exact this);have r7:RowAt cP 2 w60 (some ad) M:=r6.kept f7.grown (λad' e k=>hbd (by cases e;exact JL k));have F7:Frm w w60 (λx=>x=b\/x=db):=F6.trans2 f7 (λk hk _=>.inr hk);have HK7:=hdd (show ∀ x∈Di.take j ++ Z :: Di.drop j,0<=x.K/\x.K<=2 from λx hx=>by
      rcases JG.1 hx with hx | hx
      ·exact HKi.o x (QT hx)
      ·rcases Km.1 hx with rfl | hx
       ·exact HW.o
       ·exact HKi.o x (Qc hx))
     have HL7:=hdd (show (Di.take j ++ Z :: Di.drop j).length<=D.length+(i+1) by
      have e:=(xT (L:=Di) (X:=Z) j).length_eq;rw [JO] at e;have:=HLi.o;omega)
     have HS7:=hdd (HST.o j hj);clear cp f7 S6 H6 r6 F6 hbd hMp hj HST e6 hw hw6 hdb;go_wp2
     go_roundw
     case rel=>exact ⟨i+1,E5,_,v6,by have hjj:=hj1.o;go_num,by have:=HLT.o;omega,H7,HGN,S7,HK7,HL7,HS7,r7,F7⟩
     case measure=>have:=HLT.o;have hjj:=hj1.o;simp [intOf];omega
  case pos=>
   have q0:(i:Int)+1 < (n:Int):=by omega
   have q1:(i:Int) < (n:Int):=by omega
   have hi1:i < M.length:=by rw [HN.o];omega
   have hi2:i+1 < M.length:=by rw [HN.o];omega
   obtain ⟨ad,A,ea,eA,hA⟩:=hrM.two hi1;obtain ⟨ad2,A2,ea2,eA2,hA2⟩:=hrM.two hi2;have HX:=hdd (λ(k0:clashD D M[i] M[i+1]=0)=>show ∀ (j:Nat) (h:j+1 < M.length),j < i+1->clashD D M[j] M[j+1]=0 from λj h h0=>by
    rcases Nat.lt_or_eq_of_le (Nat.le_of_lt_succ h0) with h1 | h1
    ·exact HC.o j h h1
    ·subst h1;exact k0)
   generalize M[i]=x at *
   generalize M[i+1]=y at *
   rw [ea] at ea2;obtain rfl:ad=ad2:=JL ea2;subst ea;obtain ⟨a1,c1,rfl,Dr,_⟩:=S2.rd;have cc:∀ d os,Calls prog 115 #[pt0 db,x,y] (grow (redrawn wr d) os) λe w'=>e=.returned (.int .i64 (clashD D x y))/\Below (grow (redrawn wr d) os).heap.size (grow (redrawn wr d) os) w':=λd os=>rclash_any db a1 c1 D.length D x y _ (Dr.ext (below_regrown wr d os) rfl);obtain ⟨i1,hj1⟩:∃ i1,i1=i+1:=⟨_,rfl⟩;rw [<-hj1] at eA2;have q2:(i1:Int) < (n:Int):=by omega
   have hq1:IntKind.i64.wrap ((i:Int)+1)=(i1:Int):=by rw [IntKind.wrap_i64];omega
   replace hj1:=hdd hj1;obtain ⟨s0,s1⟩:=hA.cells;obtain ⟨s2,s3⟩:=hA2.cells;clear ea2 hA hA2;go_wp2_with fail;refine wrt 11 (by kernel_rfl) (by kernel_rfl) ?_;simp only [tK1,tK0,dP1,dP0];refine wkx ?_;intro w4 hb;clear s0 s1 s2 s3 cc Dr;have r4:=hrM.ee hb;have S4:=S2.ee hb;have hw4:=(upB hw hb);clear hb hrM S2 hw;by_cases hc:clashD D x y=0
   ·have HX:=hdd (HX.o hc);rw [hc];go_wp2
    go_roundw
    case rel=>exact ⟨i+1,by have hjj:=hj1.o;go_num,by omega,HX,r4,S4,hw4⟩
    case measure=>have hjj:=hj1.o;simp [intOf];omega
   ·have hc1:(clashD D x y != 0)=true:=by simp;exact hc
    have HC0:=hdd hc;generalize clashD D x y=r at *
    clear hc HX;go_wp2;refine bodyPost_ret (v:=.int .i64 r) (by simp [results,results73,go_sem]) rfl ?_;exact ⟨r,E,D,_,rfl,.inl ⟨HC0.o,rfl,rfl⟩,Hm.ee hw4,S4,Frm.of_below hw4⟩
theorem te {W H:Int} (hW:W < 16777216) (hH:H < 16777216) {k:Int} (hk:k=1\/k=2):∀ (M:List Pt) {E E2:Es} {D D2:List Wl} {L:List Tri3},Good E L->Tiles W H L->(∀ x∈D,0<=x.K/\x.K<=2)->addsW k M E D E2 D2->∃ L2,Good E2 L2/\Tiles W H L2/\L2.length=L.length/\(∀ q,someC L2 q↔someC L q)/\(∀ x∈D2,0<=x.K/\x.K<=2)/\D2.length<=D.length+M.length
 | [],E,E2,D,D2,L,g,t,hD,h=>by obtain ⟨rfl,rfl⟩:=h;exact ⟨L,g,t,rfl,λ_=>UC,hD,by simp⟩
 | [_],E,E2,D,D2,L,g,t,hD,h=>by obtain ⟨rfl,rfl⟩:=h;exact ⟨L,g,t,rfl,λ_=>UC,hD,by simp⟩
 | x :: y :: M,E,E2,D,D2,L,g,t,hD,h=>by
  obtain ⟨Q0,j,hQ,hj,h⟩:=h;obtain ⟨L1,g1,t1,k1⟩:=yq hW hH capN (a:=x) (b:=y) (Q:=Q0) g t (λz hz=>(qS (hQ.mem_iff.1 hz)).2.2.1);have hD1:∀ z∈insW D (mkW x y k) j,0<=z.K/\z.K<=2:=λz hz=>by
   unfold insW at hz;rcases JG.1 hz with hz | hz
   ·exact hD z (QT hz)
   ·rcases Km.1 hz with rfl | hz
    ·exact Zh x y hk
    ·exact hD z (Qc hz)
  obtain ⟨L2,g2,t2,l2,c2,d2,n2⟩:=te hW hH hk (y :: M) g1 t1 hD1 h;have e:(insW D (mkW x y k) j).length=D.length+1:=by unfold insW;rw [(xT (L:=D) (X:=mkW x y k) j).length_eq,JO]
  exact ⟨L2,g2,t2,l2.trans k1.len,λq=>(c2 q).trans (k1.cnr q),d2,by rw [e] at n2;simp at n2 ⊢;omega⟩
theorem raddw_any (mb b db:Nat) (E:Es) (L:List Tri3) (hE:E.length<=90000) (g:Good E L) (v:Value) (D:List Wl) (hD:D.length<=100000) (hgk:∀ x∈D,0<=x.K/\x.K<=2) (p q:Pt) (w:World) (Bm:Box w mb [.map (some b)] 93) (Hm:Hs w b E) (Dw:DocAt w db v D) (hmd:mb≠db):Calls prog 73 #[pt0 mb,pt0 db,p,q,.int .i64 1] w (AddWPost b db E D p q 1 w):=by
 have no:∀ {r:Int} {e:Ending} {w':World},r≠0->e=.returned (.int .i64 r)/\Below w w w'->AddWPost b db E D p q 1 w e w':=λhr ⟨k1,k2⟩=>⟨_,E,D,v,k1,.inl ⟨hr,rfl,rfl⟩,Hm.ee k2,Dw.ee k2,Frm.of_below k2⟩;have h1:((1:Int) != 1)=false:=rfl;cases e0:peqI p.x p.y q.x q.y with
 | true=>exact (raddw_b0_1 mb b db E p q 1 h1 e0 w Bm Hm).mono λe w' h=>no (by decide) h
 | false=>
  cases e1:vld p with
  | false=>exact (raddw_b1_1 mb b db E p q 1 h1 e0 e1 w Bm Hm).mono λe w' h=>no (by decide) h
  | true=>
   cases e2:vld q with
   | false=>exact (raddw_b2_1 mb b db E p q 1 h1 e0 e1 e2 w Bm Hm).mono λe w' h=>no (by decide) h
   | true=>
    by_cases s1:starE p E=[]
    ·exact (raddw_n1_1 mb b db E p q 1 h1 (by omega) e0 e1 e2 s1 w Bm Hm).mono λe w' h=>no (by decide) h
    ·by_cases s2:starE q E=[]
     ·exact (raddw_n2_1 mb b db E p q 1 h1 (by omega) e0 e1 e2 s1 s2 w Bm Hm).mono λe w' h=>no (by decide) h
     ·exact raddw_ok_1 mb b db E L hE g v D hD hgk p q 1 h1 e0 e1 e2 s1 s2 w Bm Hm Dw hmd
theorem onE_first {E:Es} {p q:Pt} (s1:starE p E≠[]) (e1:vld p=true) (e2:vld q=true):p∈onE E p q:=by
 obtain ⟨T,hT⟩:=VR _ s1;unfold starE at hT;obtain ⟨e,he,_⟩:=JN.1 hT;obtain ⟨he,hp⟩:=JS.1 he;have hp:e.1.1=p:=by simpa using hp
 unfold onE froms;refine JS.2 ⟨JN.2 ⟨e,he,hp⟩,?_⟩;unfold onR btw;have z:det p q p=0:=by unfold det;grind
 have k1:min p.x q.x<=p.x/\p.x<=max p.x q.x:=by omega
 have k2:min p.y q.y<=p.y/\p.y<=max p.y q.y:=by omega
 rw [e1,e2,z,Qi k1,Qi k2];rfl
theorem calm_no {D:List Wl} {a b:Pt} (h:clashD D a b=0):∀ z∈D,meetS a b z.A z.B=0:=by
 unfold clashD at h;split at h
 ·split at h
  ·split at h
   ·cases h
   ·rename_i hn
    intro z hz;have:=List.any_eq_false.1 (by simpa using hn:D.any (hitD a b)=false) z hz;unfold hitD at this;rw [vN]
    simpa using this
  ·cases h
 ·cases h
theorem K9 (x y a b:Pt):meetS (lo2 x y) (hi2 x y) a b=meetS x y a b:=by rw [jW,meet_lo]
theorem mkOk_of {x y:Pt} {k:Int} (hk:k=1\/k=2) (h:x≠y) (vx:vld x=true) (vy:vld y=true):mkOk x y k=true:=by
 unfold mkOk mkK;rcases hk with rfl | rfl <;> simp [h,vx,vy]
theorem Xe {W H : Int} (hW0 : 0 < W) (hH0 : 0 < H) (hW : W < 16777216) (hH : H < 16777216) {k : Int} (hk : k = 1 \/ k = 2) : ∀ (M : List Pt) {E E2 : Es} {D D2 : List Wl} {L : List Tri3}, Good E L -> Tiles W H L -> L.length <= 94 -> WInv L D -> (∀ x ∈ M, someC L x) -> (M.Pairwise (λx y => cmpP x y < 0) \/ M.Pairwise (λx y => cmpP y x < 0)) -> (∀ (i : Nat) (h : i + 1 < M.length), Bare L M[i] M[i + 1]) -> (∀ (i : Nat) (h : i + 1 < M.length), ∀ z ∈ D, meetS M[i] M[i + 1] z.A z.B = 0) -> addsW k M E D E2 D2 ->
    ∃ L2,Good E2 L2/\Tiles W H L2/\WInv L2 D2/\L2.length=L.length/\∀ q,someC L2 q↔someC L q
 | [],E,E2,D,D2,L,g,t,_,hI,_,_,_,_,h=>by obtain ⟨rfl,rfl⟩:=h;exact ⟨L,g,t,hI,rfl,λ_=>UC⟩
 | [_],E,E2,D,D2,L,g,t,_,hI,_,_,_,_,h=>by obtain ⟨rfl,rfl⟩:=h;exact ⟨L,g,t,hI,rfl,λ_=>UC⟩
 | x :: y :: M,E,E2,D,D2,L,g,t,hn,hI,hc,hm,hb,hno,h=>by
  have vb:∀ q,inBox W H q->vld q=true:=λq hq=>by rw [zj];unfold inBox at hq;omega
  have vc:∀ q,someC L q->vld q=true:=λq ⟨T,hT,hcn⟩=>by
   obtain ⟨b,c,hk⟩:=qo hcn;exact vb _ (t.cyc_box hT hk)
  obtain ⟨Q0,j,hQ,hj,h⟩:=h;have vx:=vc x (hc x (by simp));have vy:=vc y (hc y (by simp));have hxy:x≠y:=by
   rintro rfl;rcases hm with hm | hm
   ·have:=(Jt.1 hm).1 x (by simp);rw [zY.2 rfl] at this;omega
   ·have:=(Jt.1 hm).1 x (by simp);rw [zY.2 rfl] at this;omega
  have hB:Bare L x y:=hb 0 (by simp);have h0:∀ z∈D,meetS x y z.A z.B=0:=hno 0 (by simp);obtain ⟨L',g',_,he⟩:=force_edge hW0 hH0 hW hH hxy g t hn hB (hc x (by simp)) (hc y (by simp)) hQ;obtain ⟨L1,g1,t1,k1⟩:=yq hW hH capN (a:=x) (b:=y) (Q:=Q0) g t (λz hz=>(qS (hQ.mem_iff.1 hz)).2.2.1);have he1:edgeL L1 x y:=edgeL.perm he (jH g' g1);have hmk:=mkOk_of hk hxy vx vy;have eZ:mkW x y k=⟨lo2 x y,hi2 x y,k⟩:=by unfold mkW;rw [J1 hmk]
  have gZ:=X6 hmk;have hlh:(lo2 x y=x/\hi2 x y=y)\/(lo2 x y=y/\hi2 x y=x):=by
   unfold lo2 hi2;split
   ·exact .inr ⟨rfl,rfl⟩
   ·exact .inl ⟨rfl,rfl⟩
  have hZe:edgeL L1 (lo2 x y) (hi2 x y):=by
   rcases hlh with ⟨e1,e2⟩ | ⟨e1,e2⟩ <;> rw [e1,e2]
   ·exact he1
   ·exact he1.turn
  have q:=yk D (mkW x y k) j;have hI1:WInv L1 (insW D (mkW x y k) j):=by
   refine ⟨λz hz=>?_,jS hI.ris hj (λz hz e=>?_),?_,λz hz=>?_⟩
   ·rcases Km.1 (q.mem_iff.1 hz) with e | hz
    ·rw [e,eZ];exact gZ
    ·exact hI.good z hz
   ·have k2:=h0 z hz;rw [e,eZ,<-K9] at k2;exact xX gZ k2
   ·refine qV q.symm (Jt.2 ⟨λz hz=>?_,hI.apart⟩);rw [eZ];show meetS (lo2 x y) (hi2 x y) z.A z.B=0;rw [K9];exact h0 z hz
   ·rcases Km.1 (q.mem_iff.1 hz) with e | hz
    ·rw [e,eZ];exact hZe
    ·rcases hI.edge z hz with e | e
     ·exact .inl (k1.wall _ _ (by show ¬ meetR x y z.A z.B=1;rw [<-vN,h0 z hz];decide) e)
     ·exact .inr (k1.wall _ _ (by show ¬ meetR x y z.B z.A=1;rw [<-vN,Yp,h0 z hz];decide) e)
  have hm2:(y :: M).Pairwise (λx y=>cmpP x y < 0)\/(y :: M).Pairwise (λx y=>cmpP y x < 0):=hm.imp (λh=>(Jt.1 h).2) (λh=>(Jt.1 h).2);have hno2:∀ (i:Nat) (h:i+1 < (y :: M).length),∀ z∈insW D (mkW x y k) j,meetS (y :: M)[i] (y :: M)[i+1] z.A z.B=0:=by
   intro i hi z hz;rcases Km.1 (q.mem_iff.1 hz) with e | hz
   ·rw [e,eZ];have m1:(y :: M)[i]∈y :: M:=JP _;have m2:(y :: M)[i+1]∈y :: M:=JP _;have va:=vc _ (hc _ (JK _ m1));have vb2:=vc _ (hc _ (JK _ m2));rcases hm with hm | hm
    ·obtain ⟨n1,n2⟩:=Jt.1 hm;have lt:=(JY.1 n2) i (i+1) (by omega) hi (by omega);have le:cmpP y (y :: M)[i]<=0:=by
      rcases Vb i with e | e
      ·subst e;show cmpP y y<=0;rw [zY.2 rfl];omega
      ·have:=(JY.1 n2) 0 i (by simp) (by omega) e;exact JT this
     have hl:¬ cmpP y x < 0:=by have:=n1 y (by simp);have:=zu x y;omega
     have e1:hi2 x y=y:=by unfold hi2;rw [Kl hl]
     have:=Zo (y:=⟨lo2 x y,hi2 x y,k⟩) (z:=⟨(y :: M)[i],(y :: M)[i+1],1⟩) gZ ⟨va,vb2,lt,.inl rfl⟩ (by show cmpP (hi2 x y) _<=0;rw [e1];exact le);rw [jW];exact this
    ·obtain ⟨n1,n2⟩:=Jt.1 hm;have lt:=(JY.1 n2) i (i+1) (by omega) hi (by omega);have le:cmpP (y :: M)[i] y<=0:=by
      rcases Vb i with e | e
      ·subst e;show cmpP y y<=0;rw [zY.2 rfl];omega
      ·have:=(JY.1 n2) 0 i (by simp) (by omega) e;exact JT this
     have hl:cmpP y x < 0:=n1 y (by simp);have e1:lo2 x y=y:=by unfold lo2;rw [J1 hl]
     have:=Zo (y:=⟨(y :: M)[i+1],(y :: M)[i],1⟩) (z:=⟨lo2 x y,hi2 x y,k⟩) ⟨vb2,va,lt,.inl rfl⟩ gZ (by show cmpP _ (lo2 x y)<=0;rw [e1];exact le);rw [<-Yq];exact this
   ·exact hno (i+1) (by simpa using hi) z hz
  obtain ⟨L2,g2,t2,i2,l2,c2⟩:=Xe hW0 hH0 hW hH hk (y :: M) g1 t1 (by rw [k1.len];exact hn) hI1 (λz hz=>(k1.cnr z).2 (hc z (JK _ hz))) hm2 (λi hi z hz=>hb (i+1) (by simpa using hi) z ((k1.cnr z).1 hz)) hno2 h;exact ⟨L2,g2,t2,i2,l2.trans k1.len,λz=>(c2 z).trans (k1.cnr z)⟩
theorem onE_mem {E:Es} {L:List Tri3} (g:Good E L) {p q z:Pt}:z∈onE E p q↔someC L z/\onR z p q=true:=by
 unfold onE froms;rw [JS,JN];refine and_congr_left λ_=>⟨?_,?_⟩
 ·rintro ⟨⟨w,T⟩,he,rfl⟩;obtain ⟨hT,hw⟩:=ku.1 (g.perm.mem_iff.1 he);obtain ⟨c,hc⟩:=yZ (a:=w.1) (b:=w.2) hw;exact ⟨T,hT,hc.cnr⟩
 ·rintro ⟨T,hT,hcn⟩;obtain ⟨b,c,hc⟩:=qo hcn;exact ⟨((z,b),T),g.perm.mem_iff.2 (ku.2 ⟨hT,hc.way⟩),rfl⟩
theorem addw_inv {W H:Int} (hW0:0 < W) (hH0:0 < H) (hW:W < 16777216) (hH:H < 16777216) {E E2:Es} {D D2:List Wl} {L:List Tri3} {p q:Pt} {k:Int} (g:Good E L) (t:Tiles W H L) (hn:L.length<=94) (hI:WInv L D) (hA:AddWR E D p q k 0 E2 D2):∃ L2,Good E2 L2/\Tiles W H L2/\WInv L2 D2/\L2.length=L.length/\∀ q,someC L2 q↔someC L q:=by
 have vb:∀ q,inBox W H q->vld q=true:=λq hq=>by rw [zj];unfold inBox at hq;omega
 have vc:∀ q,someC L q->vld q=true:=λq ⟨T,hT,hcn⟩=>by
  obtain ⟨b,c,hk⟩:=qo hcn;exact vb _ (t.cyc_box hT hk)
 rcases hA with ⟨h,_⟩ | ⟨_,hk,hpq,vp,vq,s1,s2,M,⟨hM,hord⟩,hcalm,ha⟩
 ·exact absurd rfl h
 have mono:M.Pairwise (λx y=>cmpP x y < 0)\/M.Pairwise (λx y=>cmpP y x < 0):=by
  rcases hord with ⟨h,_⟩ | ⟨h,_⟩
  ·exact .inl h
  ·exact .inr (List.pairwise_reverse.1 h)
 have inM:∀ z,z∈M↔someC L z/\onR z p q=true:=λz=>(hM z).trans (onE_mem g);refine Xe hW0 hH0 hW hH hk M g t hn hI (λx hx=>((inM x).1 hx).1) mono ?_ (λi hi=>calm_no (hcalm i hi)) ha;intro i hi z hz hd hx hy;have ma:M[i]∈M:=JP _;have mb:M[i+1]∈M:=JP _;obtain ⟨ca,oa⟩:=(inM _).1 ma;obtain ⟨cb,ob⟩:=(inM _).1 mb;have lt2:cmpP M[i] M[i+1] < 0\/cmpP M[i+1] M[i] < 0:=mono.imp (λh=>(JY.1 h) i (i+1) (by omega) hi (by omega)) (λh=>(JY.1 h) i (i+1) (by omega) hi (by omega));have hzab:onR z M[i] M[i+1]=true:=by
  unfold onR btw;simp only [Ko,Kn];exact ⟨vc z hz,vc _ ca,vc _ cb,hd,by omega,by omega⟩
 have hzS:onS z M[i] M[i+1]=true:=by rw [on_eq];exact hzab
 have hne:M[i]≠M[i+1]:=λe=>by rw [e,zY.2 rfl] at lt2;omega
 have hzM:z∈M:=by
  refine (inM z).2 ⟨hz,?_⟩;have oa':=oa;have ob':=ob;unfold onR btw at oa' ob' ⊢;simp only [Ko,Kn] at oa' ob' ⊢;obtain ⟨_,_,_,a1,a2,a3⟩:=oa';obtain ⟨_,_,_,b1,b2,b3⟩:=ob';have f1:=ud p q M[i];have f2:=ud p q M[i+1];have f3:=ud p q z;have on:=λm=>on_ff (-(q.y - p.y)) (q.x - p.x) hne hzS (m:=m);have u1:=(on (ff (-(q.y - p.y)) (q.x - p.x) p+1)).1 (by omega) (by omega);have u2:=(on (ff (-(q.y - p.y)) (q.x - p.x) p)).2 (by omega) (by omega);exact ⟨vc z hz,vp,vq,by omega,by omega,by omega⟩
 obtain ⟨j,hj,ej⟩:=QU.1 hzM;refine QD λhno=>?_;have n1:z≠M[i]:=λe=>hno (.inl e);have n2:z≠M[i+1]:=λe=>hno (.inr e);have nj:j≠i/\j≠i+1:=⟨λe=>by subst e;exact n1 ej.symm,λe=>by subst e;exact n2 ej.symm⟩;rcases mono with h | h
 ·have hp:=JY.1 h;have lt:=hp i (i+1) (by omega) hi (by omega);obtain ⟨c1,c2⟩:=jU (X:=⟨M[i],M[i+1],1⟩) ⟨vc _ ca,vc _ cb,lt,.inl rfl⟩ hzab n1 n2;simp only at c1 c2;rcases QS j i with k | k
  ·have:=hp j i hj (by omega) k;rw [ej] at this;have:=zu z M[i];omega
  ·have:=hp (i+1) j hi hj (by omega);rw [ej] at this;have:=zu z M[i+1];omega
 ·have hp:=JY.1 h;have lt:=hp i (i+1) (by omega) hi (by omega);have hzba:onR z M[i+1] M[i]=true:=by rw [<-on_eq,vL,on_eq];exact hzab
  obtain ⟨c1,c2⟩:=jU (X:=⟨M[i+1],M[i],1⟩) ⟨vc _ cb,vc _ ca,lt,.inl rfl⟩ hzba n2 n1;simp only at c1 c2;rcases QS j i with k | k
  ·have:=hp j i hj (by omega) k;rw [ej] at this;have:=zu z M[i];omega
  ·have:=hp (i+1) j hi hj (by omega);rw [ej] at this;have:=zu z M[i+1];omega
theorem Xd {W H:Int} {k:Int} (hk:k=1):∀ (M:List Pt) {E E2:Es} {D D2:List Wl},(∀ x∈D,x.K=2->onRim W H x.A x.B)->addsW k M E D E2 D2->∀ x∈D2,x.K=2->onRim W H x.A x.B
 | [],E,E2,D,D2,hD,h=>by obtain ⟨rfl,rfl⟩:=h;exact hD
 | [_],E,E2,D,D2,hD,h=>by obtain ⟨rfl,rfl⟩:=h;exact hD
 | x :: y :: M,E,E2,D,D2,hD,h=>by
  obtain ⟨Q0,j,_,_,h⟩:=h;refine Xd hk (y :: M) (λz hz hz2=>?_) h;rcases Km.1 ((yk _ _ _).mem_iff.1 hz) with rfl | hz
  ·exfalso
   unfold mkW at hz2;split at hz2
   ·rw [hk] at hz2;cases hz2
   ·cases hz2
  ·exact hD z hz hz2
theorem addw_rim {W H:Int} {E E2:Es} {D D2:List Wl} {p q:Pt} {r:Int} (hD:∀ x∈D,x.K=2->onRim W H x.A x.B) (h:AddWR E D p q 1 r E2 D2):∀ x∈D2,x.K=2->onRim W H x.A x.B:=by
 rcases h with ⟨_,_,rfl⟩ | ⟨_,_,_,_,_,_,_,M,_,_,h⟩
 ·exact hD
 ·exact Xd rfl M hD h
def CAddWPostW (cb mb b db:Nat) (W H:Int) (E:Es) (L:List Tri3) (D:List Wl) (p q:Pt) (w:World) (e:Ending) (w':World):Prop:=
 ∃ r v' E1 E' L' D',e=.returned (.int .i64 r)/\CdtAt w' cb mb b db v' W H E' D'/\CInvW W H E' L' D'/\AddWR E D p q 1 r E1 D'/\(r≠0->E'=E)/\(r=0->∃ L1,Good E1 L1/\Tiles W H L1/\Kept (wll D') L1 L')/\(∀ x,someC L' x↔someC L x)/\L'.length=L.length/\D'.length<=D.length+3 * L.length/\Frm w w' (λk=>k=b\/k=db)
theorem rcaddwX_any (cb mb b db:Nat) (v:Value) (W H:Int) (hW0:0 < W) (hH0:0 < H) (hW:W < 16777216) (hH:H < 16777216) (E:Es) (L:List Tri3) (D:List Wl) (hI:CInvW W H E L D) (hL:L.length<=94) (hD:D.length<=20000) (p q:Pt) (w:World) (S:CdtAt w cb mb b db v W H E D):Calls prog 37 #[pt0 cb,p,q,.int .i64 1] w (CAddWPostW cb mb b db W H E L D p q w):=by
 have hE:E.length<=90000:=by rw [hI.good.len];omega
 have ca:=λw0 B1 H1 D1=>raddw_any mb b db E L hE hI.good v D (by omega) hI.kinds p q w0 B1 H1 D1 S.mdb
 change ∀ (w0:World) B1 H1 D1,Calls _ _ _ _ (AddWPost b db E D p q 1 w0) at ca
 have HI:=hdd hI;have HL:=hdd hL;clear hI hE hL hD
 go_enter func37,ntmps37
 go_wp2_with fail;refine zG λw1 hW'=>?_;have Bp:Box w1 w [p.x,p.y] 26:=by rw [hW'];exact (Box.new rfl).old _
 have Bq:Box w1 (w+1) [q.x,q.y] 26:=by rw [hW'];exact Box.new (by simp)
 have hw:Below w w w1:=by rw [hW'];go_grown
 clear hW';have S1:=S.ee hw;have g1:=Bp.cells;have g3:=Bq.cells;have g2:=S1.box.cells;refine rgn 11 (λw2 hb=>?_);clear g1 g2 g3;have hw2:=(upB hw hb);clear hb Bp Bq S1 hw;go_wp2_with fail;have S2:=S.ee hw2;refine (ca _ S2.mesh S2.map S2.doc).mono ?_;rintro e w3 ⟨r,E1,D1,v1,rfl,hR,H3,D3,f3⟩;have nb:∀ {x:Nat} {cs:List Value} {T:TypeId},Box w2 x cs T->x≠b:=λh=>h.ne_map S2.map;have S3:CdtAt w3 cb mb b db v1 W H E1 D1:=⟨f3.box S2.box (λk=>by rcases k with k | k;exact nb S2.box k;exact S.cdb k),f3.box S2.mesh (λk=>by rcases k with k | k;exact nb S2.mesh k;exact S.mdb k),H3,D3,S.cdb,S.mdb⟩;have F3:Frm w w3 (λk=>k=b\/k=db):=(Frm.of_below hw2).trans f3;have HR:=hdd hR;clear nb ca H3 D3 hR f3 S2 hw2;by_cases hr:r=0
 ·subst hr;have HWI:=hdd (addw_inv hW0 hH0 hW hH HI.o.good HI.o.fix.tiles HL.o HI.o.wal HR.o);obtain ⟨L1,g1',t1',l1,c1,d1,n1⟩:∃ L2,Good E1 L2/\Tiles W H L2/\L2.length=L.length/\(∀ q,someC L2 q↔someC L q)/\(∀ x∈D1,0<=x.K/\x.K<=2)/\D1.length<=D.length+3 * L.length:=by
   rcases HR.o with ⟨k,_⟩ | ⟨_,hk,_,vp,vq,s1,_,M,hM,_,ha⟩
   ·exact absurd rfl k
   ·obtain ⟨L2,x1,x2,x3,x4,x5,x6⟩:=te hW hH hk M HI.o.good HI.o.fix.tiles HI.o.kinds ha;have:=(Zc hM (onE_first s1 vp vq)).2;rw [HI.o.good.len] at this;exact ⟨L2,x1,x2,x3,x4,x5,by omega⟩
  have HK:=hdd (show Good E1 L1/\Tiles W H L1/\L1.length=L.length/\(∀ q,someC L1 q↔someC L q)/\(∀ x∈D1,0<=x.K/\x.K<=2)/\D1.length<=D.length+3 * L.length from ⟨g1',t1',l1,c1,d1,n1⟩);have HW1:=hdd (show WInv L1 D1 from by
   obtain ⟨L3,y1,_,y3,_⟩:=HWI.o;exact y3.perm (jH y1 g1'))
  clear HWI;have HRM:=hdd (addw_rim HI.o.rim HR.o);have cr:=λa0 c n w0 B1 H1 R1=>ka mb b db a0 c n E1 L1 D1 W H hW hH (by have:=HL.o;omega) g1' t1' w0 B1 H1 R1;clear g1' t1' l1 c1 d1 n1;have g2:=S3.box.cells;go_wp2_with fail;refine rgn 8 (λw4 hb=>?_);clear g2;have S4:=S3.ee hb;have F4:=F3.trans (Frm.of_below hb);clear hb S3 F3;obtain ⟨a4,c4,rfl,R4,_⟩:=S4.doc.rd;go_wp2_with fail;refine (cr a4 c4 D1.length _ S4.mesh S4.map R4).mono ?_;rintro e w5 ⟨rfl,E5,L5,hg5,H5,hS5,hF5⟩;have S5:CdtAt w5 cb mb b db (.slice a4 D1.length c4) W H E5 D1:=⟨S4.box.turn S4.map hg5,S4.mesh.turn S4.map hg5,H5,S4.doc.turn S4.map hg5,S4.cdb,S4.mdb⟩;have F5:Frm w w5 (λk=>k=b\/k=db):=F4.trans (Frm.of_grown hg5 (λg e=>.inl (JL e).symm));clear cr R4 hg5 H5 S4 F4;go_wp2
  go_ret
  obtain ⟨x1,x2,x3,x4,x5,x6⟩:=HK.o;exact ⟨0,_,E1,E5,L5,D1,rfl,S5,⟨hS5.good,hF5,x5,HW1.o.kept hS5.kept,HRM.o⟩,HR.o,λh=>absurd rfl h,λ_=>⟨L1,x1,x2,hS5.kept⟩,λy=>(hS5.kept.cnr y).trans (x4 y),hS5.kept.len.trans x3,x6,F5⟩
 ·have hr1:(r == 0)=false:=by simp;exact hr
  obtain ⟨rfl,rfl⟩:E1=E/\D1=D:=by
   rcases HR.o with ⟨_,k1,k2⟩ | ⟨k,_⟩
   ·exact ⟨k1,k2⟩
   ·exact absurd k hr
  have HR2:=hdd hr;clear hr;go_wp2;refine bodyPost_ret (v:=.int .i64 r) (by simp [results,results37,go_sem]) rfl ?_;exact ⟨r,v1,E1,E1,L,D1,rfl,S3,HI.o,HR.o,λ_=>rfl,λh=>absurd h HR2.o,λ_=>UC,rfl,by omega,F3⟩
end
end Go.Proofs.YtmpfadapbbjbkaaGreat
