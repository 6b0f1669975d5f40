/- Put together: MfA, FlpE, FlpF. -/
import Derived.Test.YtogffkimgmlilaaGreatPfb44
import Derived.Test.YtogffkimgmlilaaGreatPfb43
import Derived.Test.YtogffkimgmlilaaGreatPfb40
set_option maxRecDepth 100000
set_option maxHeartbeats 8000000
set_option linter.all false
namespace Go.Proofs.YtogffkimgmlilaaGreat
open _root_.Go.Proofs.Tryz
section
open Go.RowKit
theorem Good.same {D E:Es} {L:List Tri3} (g:Good E L) (p:D.Perm E):Good D L:=⟨p.trans g.perm,g.nodup.perm p.symm,g.val⟩
theorem flip_doc {E E' D:Es} {L L':List Tri3} {p q:Pt} {r:Int} (g:Good E L) (pD:D.Perm E) (g':Good E' L') (h:FlipC E L p q r L'):(flipD D p q).1=r∧Good (flipD D p q).2 L':=by
 have gD:=g.same pD;rcases h with ⟨h1,h2,h3⟩ | ⟨S,R,h0,h1,h⟩
 ·rw [zBq (by rw [zFt gD.nodup pD,zFt gD.nodup pD];exact h2)];exact ⟨h1.symm,gD.order h3.symm⟩
 ·have k0:getE D (p,q)=some S:=by rw [zFt gD.nodup pD];exact h0
  have k1:getE D (q,p)=some R:=by rw [zFt gD.nodup pD];exact h1
  rw [zCc k0 k1];obtain ⟨⟨mS,mR⟩,⟨cS,cR⟩,⟨p1,p2⟩,vp,vq,vc,vd⟩:=zDj gD k0 k1;obtain ⟨C,eC⟩:∃ C,apx S p q=C:=⟨_,rfl⟩;obtain ⟨F,eF⟩:∃ F,apx R p q=F:=⟨_,rfl⟩;rw [eC,eF] at h;rw [eC] at cS p1 vc;rw [eF] at cR p2 vd;rw [eC,eF];have s1:det p q F = -det q p F:=by unfold det;grind
  have s2:det C F p = -det p F C:=by unfold det;grind
  have s3:det C F q=det F q C:=by unfold det;grind
  have hcr:meetS p q C F=1↔0 < ori p F C∧0 < ori F q C:=by
   rw [zH9,zEq,zDf vp vd vc,zDf vd vq vc];constructor
   ·rintro ⟨_,_,h2⟩;have:det p F C+det F q C=det p q C+det q p F:=by unfold det;grind
    omega
   ·rintro ⟨o1,o2⟩;exact ⟨⟨vp,vq,vc,vd⟩,by omega,by omega⟩
  rcases h with ⟨hm,hr,hp⟩ | ⟨hm,hR⟩
  ·rw [jA0 (fun hc=>hm (hcr.2 ⟨hc.1,hc.2.1⟩))];exact ⟨hr.symm,gD.order hp.symm⟩
  ·obtain ⟨o1,o2⟩:=hcr.1 hm;rw [←zJq C p F] at hR;have hne:S≠R:=by
    rintro rfl;obtain ⟨n1,n2,n3⟩:=zAb p1;rcases (cR.cnr_iff C).1 cS.turn.turn.cnr with e | e | e
    ·exact n2 e.symm
    ·exact n3 e
    ·rw [←e] at s1 p2;omega
   obtain ⟨M,hM⟩:=zE7 mS mR hne;have hFC:F≠C:=by
    intro e;rw [e] at s1 p2;omega
   by_cases hfree:getE D (F,C)=none∧getE D (C,F)=none
   ·obtain ⟨_,M2,hM2,gF⟩:=zCm gD k0 k1 eC eF o1 o2 hfree.1 hfree.2;rw [jAc ⟨o1,o2,hfree.1,hfree.2⟩];have gE:=g.order (show L.Perm ([S,R] ++ M2) from hM2);obtain ⟨t1,t2⟩:=Good.takes gE;have hnod:(([mk p F C,mk F q C] ++ M2).flatMap ways).Nodup:=gF.once;have hval:∀ T∈[mk p F C,mk F q C],valT T=true:=fun T hT=>gF.val T (by
     simp only [jA1,jA6,jAw] at hT;rcases hT with rfl | rfl <;> simp)
    obtain ⟨t3,t4⟩:=Good.puts t2 hval hnod;rcases hR with ⟨_,h2,_⟩ | ⟨_,_,h3,_⟩ | ⟨h1',_,_,M3,p3,p4⟩
    ·exact absurd h2 (by rw [t1];omega)
    ·exact absurd h3 (by rw [t3];omega)
    ·refine ⟨h1'.symm,gF.order ?_⟩;have:M3.Perm M2:=(List.perm_append_left_iff [S,R]).1 (p3.symm.trans hM2);exact ((this.append_left [mk p F C,mk F q C]).symm).trans p4.symm
   ·rw [jA0 (fun hc=>hfree ⟨hc.2.2.1,hc.2.2.2⟩)];have hO:∃ O,O∈L∧((F,C)∈ways O∨(C,F)∈ways O):=by
     by_cases e:getE D (F,C)=none
     ·obtain ⟨O,hO⟩:=Option.ne_none_iff_exists'.1 (fun e2=>hfree ⟨e,e2⟩);obtain ⟨a,b⟩:=gD.get.1 hO;exact ⟨O,a,.inr b⟩
     ·obtain ⟨O,hO⟩:=Option.ne_none_iff_exists'.1 e;obtain ⟨a,b⟩:=gD.get.1 hO;exact ⟨O,a,.inl b⟩
    obtain ⟨O,mO,wO⟩:=hO;obtain ⟨x1,x2⟩:=zGi gD k0 k1 eC eF hFC wO;have gE:=g.order (show L.Perm ([S,R] ++ M) from hM);obtain ⟨t1,t2⟩:=Good.takes gE;rcases hR with ⟨_,h2,_⟩ | ⟨h1',_,_,h4⟩ | ⟨_,_,_,M3,p3,p4⟩
    ·exact absurd h2 (by rw [t1];omega)
    ·exact ⟨h1'.symm,gD.order h4.symm⟩
    ·exfalso
     have mO3:O∈M3:=by
      have:=p3.mem_iff.1 mO;simp only [jB9,jBd,jA1] at this;rcases this with rfl | rfl | h
      ·rw [zE8.2 rfl] at x1;cases x1
      ·rw [zE8.2 rfl] at x2;cases x2
      ·exact h
     have hnod:=(g'.order p4).once;simp only [jB9,jBd,jA5] at hnod;rw [←jAr,jAz] at hnod;have d1:0 < det p F C:=(zDf vp vd vc).1 o1;have d2:0 < det F q C:=(zDf vd vq vc).1 o2;have v1:=(g'.order p4).val (mk p F C) (by simp);have v2:=(g'.order p4).val (mk F q C) (by simp);have w1:(F,C)∈ways (mk p F C):=(zB2 vp vd vc d1).1.turn.way;have w2:(C,F)∈ways (mk F q C):=(zB2 vd vq vc d2).1.turn.turn.way;rcases wO with wO | wO
     ·exact hnod.2.2 (F,C) (jB4 _ w1) (F,C) (jAh.2 ⟨O,mO3,wO⟩) rfl
     ·exact hnod.2.2 (C,F) (jBa _ w2) (C,F) (jAh.2 ⟨O,mO3,wO⟩) rfl
theorem zLa {h:Pt→Int} {L M:List Tri3} (p:L.Perm M) {a b:Pt} (k:dead h L a b):dead h M a b:=by
 obtain ⟨s,r,hs,hr,T,hT,k2⟩:=k;exact ⟨s,r,hs,hr,T,p.mem_iff.1 hT,k2⟩
theorem badP_iff {W H:Int} {E:Es} {L:List Tri3} {Lw:List Wl} (g:Good E L) (t:Tiles W H L) (hg:∀ x∈Lw,GoodW x) {p q:Pt}:badP E Lw p q=true↔∃ S∈L,∃ R∈L,∃ c d,Cyc S p q c∧Cyc R q p d∧kindD Lw p q=0∧circ p q c d=1:=by
 unfold badP;rw [←kindD_eq hg];constructor
 ·intro hb;cases h1:getE E (p,q) with
  | none=>rw [lftE_none h1] at hb;simp at hb
  | some S=>
   cases h2:getE E (q,p) with
   | none=>rw [lftE_none h2] at hb;simp at hb
   | some R=>
    obtain ⟨⟨mS,mR⟩,⟨cS,cR⟩,_⟩:=zDj g h1 h2;rw [lftE_some h1,lftE_some h2] at hb;simp only [jCp,jA3,jA4] at hb;exact ⟨S,mS,R,mR,_,_,cS,cR,hb.1,hb.2⟩
 ·rintro ⟨S,mS,R,mR,c,d,cS,cR,hk,hc⟩;have h1:=g.get.2 ⟨mS,cS.way⟩;have h2:=g.get.2 ⟨mR,cR.way⟩;obtain ⟨n1,n2,n3⟩:=zAb (t.cyc_pos mS cS);obtain ⟨m1,m2,m3⟩:=zAb (t.cyc_pos mR cR);rw [lftE_some h1,lftE_some h2];simp only [jCp,jA3,jA4];exact ⟨hk,by rw [(zD6 cS n1 n2 n3).1,(zD6 cR m1 m2 m3).2];exact hc⟩
theorem zLi {W H:Int} (hW:W < 16777216) (hH:H < 16777216) {E:Es} {L:List Tri3} {Lw:List Wl} (g:Good E L) (t:Tiles W H L) (hg:∀ x∈Lw,GoodW x) {p q:Pt} (hb:badP E Lw p q=true):badP E Lw q p=true:=by
 have vb:∀ q,inBox W H q→vld q=true:=fun q hq=>by rw [zAm];unfold inBox at hq;omega
 obtain ⟨S,mS,R,mR,c,d,cS,cR,hk,hc⟩:=(badP_iff g t hg).1 hb;refine (badP_iff g t hg).2 ⟨R,mR,S,mS,d,c,cR,cS,by rw [zCw];exact hk,?_⟩;have p1:=t.cyc_pos mS cS;have p2:=t.cyc_pos mR cR;have va:=vb _ (t.cyc_box mS cS);have vb':=vb _ (t.cyc_box mS cS.turn);have vc:=vb _ (t.cyc_box mS cS.turn.turn);have vd:=vb _ (t.cyc_box mR cR.turn.turn);have o1:¬ ori p q d=0:=by
  rw [ori_v va vb' vd,zBk];rw [zAd] at p2;omega
 have o2:¬ ori p q c=0:=by rw [ori_v va vb' vc,zBk];omega
 have dc:c≠d:=by
  rintro rfl;rw [zAd] at p2;omega
 have k:=zLf o2 o1 dc.symm;rw [zIa,k,hc];rfl
theorem badC_of {W H:Int} {E:Es} {L:List Tri3} {Lw:List Wl} (g:Good E L) (t:Tiles W H L) (hg:∀ x∈Lw,GoodW x) {p q c d:Pt} {S R:Tri3} (mS:S∈L) (mR:R∈L) (cS:Cyc S p q c) (cR:Cyc R q p d) (hk:kindD Lw p q=0):badC E Lw p q=(c,d):=by
 have h1:=g.get.2 ⟨mS,cS.way⟩;have h2:=g.get.2 ⟨mR,cR.way⟩;obtain ⟨n1,n2,n3⟩:=zAb (t.cyc_pos mS cS);obtain ⟨m1,m2,m3⟩:=zAb (t.cyc_pos mR cR);unfold badC;rw [←kindD_eq hg,lftE_some h1,lftE_some h2,jAc ⟨rfl,rfl,hk⟩,(zD6 cS n1 n2 n3).1,(zD6 cR m1 m2 m3).2]
theorem zOn (h:Pt→Int) (p q c d:Pt):PH h d c p q = -PH h p q c d:=by
 unfold PH;generalize h p=x
 generalize h q=y
 generalize h c=z
 generalize h d=w
 unfold det;grind
def four (p q c d:Pt):List (Pt×Pt):=[(p,c),(c,q),(q,d),(d,p)]
theorem mend_step {W H:Int} (hW:W < 16777216) (hH:H < 16777216) {h:Pt→Int} (hh:Hts h) {E E':Es} {L L':List Tri3} {Lw:List Wl} (g:Good E L) (t:Tiles W H L) (hg:∀ x∈Lw,GoodW x) {p q:Pt} (hb:badP E Lw p q=true) {r:Int} (g':Good E' L') (hf:FlipC E L p q r L'):r=0∧Tiles W H L'∧Kept (wll Lw) L L'∧volS h L' < volS h L∧edgeL L p q∧dead h L' p q∧(∀ a b,dead h L a b→dead h L' a b)∧(∀ x y,badP E' Lw x y=true→(badP E Lw x y=true∧¬ (x=p∧y=q)∧¬ (x=q∧y=p))∨(x,y)∈four p q (badC E Lw p q).1 (badC E Lw p q).2∨(y,x)∈four p q (badC E Lw p q).1 (badC E Lw p q).2)∧(∀ e∈four p q (badC E Lw p q).1 (badC E Lw p q).2,okW e):=by
 have vb:∀ q,inBox W H q→vld q=true:=fun q hq=>by rw [zAm];unfold inBox at hq;omega
 obtain ⟨S,mS,R,mR,c,d,cS,cR,hk,hc⟩:=(badP_iff g t hg).1 hb;rw [badC_of g t hg mS mR cS cR hk];obtain ⟨hP,M,f⟩:=t.flip_bad (K:=wll Lw) hW hH hh mS mR cS cR ⟨fun k=>k hk,fun k=>k (by rw [zCw];exact hk)⟩ hc;obtain ⟨fl,g2⟩:=f.go hW hH g t;have hs:=zCc fl.h0 fl.h1;rw [fl.hC,fl.hD] at hs;have o1:0 < ori p d c:=by have:=fl.o1;simpa using this
 have o2:0 < ori d q c:=by have:=fl.o2;simpa using this
 rw [jAc ⟨o1,o2,fl.he,fl.hf⟩] at hs;obtain ⟨er,gd⟩:=flip_doc g (.refl _) g' hf;rw [hs] at er gd;have pm:=zFr gd g2;have t2:=f.tiles t hW hH;have t':=t2.perm pm.symm;obtain ⟨⟨cU,_⟩,cV,_⟩:=f.news t hW hH;have dS:=t.cyc_pos mS cS;have dR:=t.cyc_pos mR cR;have mM:∀ T,T∈L→T≠S→T≠R→T∈mk c p d :: mk d q c :: M:=fun T hT x y=>by
  have:=f.perm.mem_iff.1 hT;simp only [jA1] at this;rcases this with k | k | k
  ·exact absurd k x
  ·exact absurd k y
  ·simp [k]
 have hU:mk c p d∈mk c p d :: mk d q c :: M:=by simp
 have hV:mk d q c∈mk c p d :: mk d q c :: M:=by simp
 have noX:∀ {x y u v:Pt} {S' R':Tri3},(x=d∧y=c)∨(x=c∧y=d)→S'∈mk c p d :: mk d q c :: M→R'∈mk c p d :: mk d q c :: M→Cyc S' x y u→Cyc R' y x v→circ x y u v=1→kindD Lw x y=0→False:=by
  intro x y u v S' R' hxy hS' hR' cS' cR' hc' hk';obtain ⟨k1,_⟩:=t2.flip_bad (K:=wll Lw) hW hH hh hS' hR' cS' cR' ⟨fun k=>k hk',fun k=>k (by rw [zCw];exact hk')⟩ hc';rcases hxy with ⟨rfl,rfl⟩ | ⟨rfl,rfl⟩
  ·have e1:=zBu t2.once hS' hU cS'.way cU.turn.turn.way;have e2:=zBu t2.once hR' hV cR'.way cV.turn.turn.way;subst e1 e2;have e3:=cU.turn.turn.same2 cS' (t2.cyc_pos hU cU.turn.turn);have e4:=cV.turn.turn.same2 cR' (t2.cyc_pos hV cV.turn.turn);rw [e3,e4,zOn] at k1;omega
  ·have e1:=zBu t2.once hS' hV cS'.way cV.turn.turn.way;have e2:=zBu t2.once hR' hU cR'.way cU.turn.turn.way;subst e1 e2;have e3:=cV.turn.turn.same2 cS' (t2.cyc_pos hV cV.turn.turn);have e4:=cU.turn.turn.same2 cR' (t2.cyc_pos hU cU.turn.turn);rw [e3,e4,zOm,zOn] at k1;omega
 have nd:=(flat_perm f.perm).nodup_iff.1 t.once;rw [jA5,jA5,jAz] at nd;obtain ⟨_,nd2,nd1⟩:=nd;rw [jAz] at nd2;have notM:∀ {T:Tri3},T∈M→(p,q) ∉ ways T∧(q,p) ∉ ways T:=fun {T} hT=>by
  constructor
  ·intro k;exact nd1 (p,q) cS.way (p,q) (jBa _ (jAh.2 ⟨T,hT,k⟩)) rfl
  ·intro k;exact nd2.2.2 (q,p) cR.way (q,p) (jAh.2 ⟨T,hT,k⟩) rfl
 refine ⟨er.symm,t',(f.kept t hW hH).trans (Kept.perm pm.symm),?_,.inl (mem_flat mS cS.way),zLa pm.symm (dead_new hU cU dS dR f.left f.right hP),fun a b k=>zLa pm.symm (dead_flip mM hU hV cS cR cU cV dS dR f.left f.right hP k),?_,?_⟩
 ·rw [zK1 pm];exact f.less t hW hH hP
 ·intro x y hxy;obtain ⟨S',mS',R',mR',u,v,cS',cR',hk',hc'⟩:=(badP_iff g' t' hg).1 hxy;have mS2:=pm.mem_iff.1 mS';have mR2:=pm.mem_iff.1 mR';by_cases hin:(x,y)∈four p q c d∨(y,x)∈four p q c d
  ·exact .inr hin
  ·left
   have nin:¬ (x,y)∈four p q c d∧¬ (y,x)∈four p q c d:=jFd.1 hin;have nx:¬ ((x=d∧y=c)∨(x=c∧y=d)):=fun k=>noX k mS2 mR2 cS' cR' hc' hk';unfold four at nin;simp only [jA1,jB6,jA6,jAw,jFd] at nin;rw [jFd] at nx;obtain ⟨⟨a1,a2,a3,a4⟩,b1,b2,b3,b4⟩:=nin;have inM:∀ {T:Tri3} {x y:Pt},T∈mk c p d :: mk d q c :: M→(x,y)∈ways T→¬ (x=p∧y=c)→¬ (x=c∧y=q)→¬ (x=q∧y=d)→¬ (x=d∧y=p)→¬ (y=p∧x=c)→¬ (y=c∧x=q)→¬ (y=q∧x=d)→¬ (y=d∧x=p)→¬ (x=d∧y=c)→¬ (x=c∧y=d)→T∈M:=by
    intro T x y hT hw a1 a2 a3 a4 b1 b2 b3 b4 n1 n2;rcases jA1.1 hT with rfl | hT
    ·have:=cU.ways.mem_iff.1 hw;simp only [jA1,jB6,jA6,jAw] at this;rcases this with ⟨k1,k2⟩ | ⟨k1,k2⟩ | ⟨k1,k2⟩
     ·exact absurd ⟨k2,k1⟩ b1
     ·exact absurd ⟨k2,k1⟩ b4
     ·exact absurd ⟨k1,k2⟩ n1
    ·rcases jA1.1 hT with rfl | hT
     ·have:=cV.ways.mem_iff.1 hw;simp only [jA1,jB6,jA6,jAw] at this;rcases this with ⟨k1,k2⟩ | ⟨k1,k2⟩ | ⟨k1,k2⟩
      ·exact absurd ⟨k2,k1⟩ b3
      ·exact absurd ⟨k2,k1⟩ b2
      ·exact absurd ⟨k1,k2⟩ n2
     ·exact hT
   have hSM:=inM mS2 cS'.way a1 a2 a3 a4 b1 b2 b3 b4 nx.1 nx.2;have hRM:=inM mR2 cR'.way b1 b2 b3 b4 a1 a2 a3 a4 (fun k=>nx.2 ⟨k.2,k.1⟩) (fun k=>nx.1 ⟨k.2,k.1⟩);refine ⟨(badP_iff g t hg).2 ⟨S',f.perm.mem_iff.2 (by simp [hSM]),R',f.perm.mem_iff.2 (by simp [hRM]),u,v,cS',cR',hk',hc'⟩,?_,?_⟩
   ·rintro ⟨rfl,rfl⟩;exact (notM hSM).1 cS'.way
   ·rintro ⟨rfl,rfl⟩;exact (notM hSM).2 cS'.way
 ·obtain ⟨bp,bq,bc,bd⟩:=f.pts t;have op:=zBj (vb _ bp);have oq:=zBj (vb _ bq);have oc:=zBj (vb _ bc);have od:=zBj (vb _ bd);intro e he;unfold four at he;simp only [jA1,jA6,jAw] at he;rcases he with rfl | rfl | rfl | rfl
  ·exact ⟨op,oc⟩
  ·exact ⟨oc,oq⟩
  ·exact ⟨oq,od⟩
  ·exact ⟨od,op⟩
structure MSt (W H:Int) (h:Pt→Int) (Lw:List Wl) (L0:List Tri3) (n0:Nat) (E:Es) (L:List Tri3) (K:List (Pt×Pt)):Prop where
 good:Good E L
 tiles:Tiles W H L
 kept:Kept (wll Lw) L0 L
 ok:∀ e∈K,okW e
 cov:∀ x y,badP E Lw x y=true→(x,y)∈K∨(y,x)∈K
 gone:∃ F:List (Pt×Pt),F.Nodup∧(∀ e∈F,dead h L e.1 e.2∧someC L0 e.1∧someC L0 e.2)∧K.length≤n0+3 * F.length
theorem cnrs_mem {L:List Tri3} {p:Pt}:p∈cnrs L↔someC L p:=by
 unfold cnrs someC isCnr;rw [jAh];simp
theorem MSt.len {W H:Int} {h:Pt→Int} {Lw:List Wl} {L0:List Tri3} {n0:Nat} {E:Es} {L:List Tri3} {K:List (Pt×Pt)} (S:MSt W H h Lw L0 n0 E L K):K.length≤n0+27 * (L0.length * L0.length):=by
 obtain ⟨F,hd,hF,hl⟩:=S.gone;have k:=nodup_sub (l:=F) (m:=(cnrs L0).flatMap fun a=>(cnrs L0).map fun b=>(a,b)) hd (fun e he=>by
  obtain ⟨_,h1,h2⟩:=hF e he;exact jAh.2 ⟨e.1,cnrs_mem.2 h1,jAk.2 ⟨e.2,cnrs_mem.2 h2,rfl⟩⟩)
 have e:∀ C D:List Pt,(C.flatMap fun a=>D.map fun b=>(a,b)).length=C.length * D.length:=fun C D=>by
  induction C with
  | nil=>simp
  | cons a C ih=>rw [jA5,jAa,ih,jCl,jAm,jFe];omega
 rw [e,zGm] at k;have e2:3 * L0.length * (3 * L0.length)=9 * (L0.length * L0.length):=by
  rw [Nat.mul_mul_mul_comm]
 omega
theorem MSt.pop {W H:Int} {h:Pt→Int} {Lw:List Wl} {L0:List Tri3} {n0:Nat} {E:Es} {L:List Tri3} {K:List (Pt×Pt)} {e:Pt×Pt} (hW:W < 16777216) (hH:H < 16777216) (hg:∀ x∈Lw,GoodW x) (S:MSt W H h Lw L0 n0 E L (K ++ [e])) (hb:badP E Lw e.1 e.2=false):MSt W H h Lw L0 n0 E L K:=by
 refine ⟨S.good,S.tiles,S.kept,fun x hx=>S.ok x (jB4 _ hx),fun x y hxy=>?_,?_⟩
 ·have ne1:(x,y)≠e:=fun k=>by rw [←k] at hb;simp only at hb;rw [hxy] at hb;cases hb
  have ne2:(y,x)≠e:=fun k=>by
   have:=zLi hW hH S.good S.tiles hg hxy;rw [←k] at hb;simp only at hb;rw [this] at hb;cases hb
  rcases S.cov x y hxy with k | k
  ·rcases jAg.1 k with k | k
   ·exact .inl k
   ·exact absurd (jC5.1 k) ne1
  ·rcases jAg.1 k with k | k
   ·exact .inr k
   ·exact absurd (jC5.1 k) ne2
 ·obtain ⟨F,hd,hF,hl⟩:=S.gone;exact ⟨F,hd,hF,by simp at hl;omega⟩
theorem MSt.flip {W H:Int} {h:Pt→Int} (hh:Hts h) {Lw:List Wl} {L0:List Tri3} {n0:Nat} {E E':Es} {L L':List Tri3} {K:List (Pt×Pt)} {p q:Pt} {r:Int} (hW:W < 16777216) (hH:H < 16777216) (hg:∀ x∈Lw,GoodW x) (S:MSt W H h Lw L0 n0 E L (K ++ [(p,q)])) (hb:badP E Lw p q=true) (g':Good E' L') (hf:FlipC E L p q r L'):r=0∧volS h L' < volS h L∧MSt W H h Lw L0 n0 E' L' (K ++ four p q (badC E Lw p q).1 (badC E Lw p q).2):=by
 obtain ⟨h1,h2,h3,h4,h5,h6,h7,h8,h9⟩:=mend_step hW hH hh S.good S.tiles hg hb g' hf;refine ⟨h1,h4,g',h2,S.kept.trans h3,fun x hx=>?_,fun x y hxy=>?_,?_⟩
 ·rcases jAg.1 hx with k | k
  ·exact S.ok x (jB4 _ k)
  ·exact h9 x k
 ·rcases h8 x y hxy with ⟨k1,k2,k3⟩ | k
  ·rcases S.cov x y k1 with k | k
   ·rcases jAg.1 k with k | k
    ·exact .inl (jB4 _ k)
    ·have:=jC5.1 k;simp only [jB6] at this;exact absurd this k2
   ·rcases jAg.1 k with k | k
    ·exact .inr (jB4 _ k)
    ·have:=jC5.1 k;simp only [jB6] at this;exact absurd ⟨this.2,this.1⟩ k3
  ·exact k.imp (jBa _) (jBa _)
 ·obtain ⟨F,hd,hF,hl⟩:=S.gone;obtain ⟨_,⟨c1,c2⟩,_⟩:=S.tiles.edge_box h5;refine ⟨(p,q) :: F,jAu.2 ⟨fun k=>S.tiles.not_dead h5 (hF _ k).1,hd⟩,fun e he=>?_,?_⟩
  ·rcases jA1.1 he with rfl | he
   ·exact ⟨h6,(S.kept.cnr _).1 c1,(S.kept.cnr _).1 c2⟩
   ·obtain ⟨k1,k2⟩:=hF e he;exact ⟨h7 _ _ k1,k2⟩
  ·unfold four;simp at hl ⊢;omega
theorem MSt.fixed {W H:Int} {h:Pt→Int} {Lw:List Wl} {L0:List Tri3} {n0:Nat} {E:Es} {L:List Tri3} (hg:∀ x∈Lw,GoodW x) (S:MSt W H h Lw L0 n0 E L []):Fixed W H (wll Lw) L:=by
 refine ⟨S.tiles,fun T hT R hR a b c d cT cR hk hc=>?_⟩;have hb:=(badP_iff S.good S.tiles hg).2 ⟨T,hT,R,hR,c,d,cT,cR,jBq fun k=>hk k,hc⟩;rcases S.cov a b hb with k | k <;> cases k
end
section
open Go.RowKit Go.Sort Go.Lib Go.Shelf
attribute [local go_sem] rOper rAt rUpon cell_set sg_i64 sg_u64 alloc_cell alloc_frozen
attribute [local go_sem 10000] pt_eql pt_neq tri_eql
attribute [local irreducible] rWalk
def cE (e:Pt×Pt):List Value:=[.int .i64 e.1.x,.int .i64 e.1.y,.int .i64 e.2.x,.int .i64 e.2.y]
theorem zNs (e:Pt×Pt):(cE e).length=4:=rfl
theorem cE_one (e:Pt×Pt):∀ u∈cE e,u.oneCell'=true:=by
 intro u hu;unfold cE at hu;simp only [jA1,jA6,jAw] at hu;rcases hu with rfl | rfl | rfl | rfl <;> rfl
theorem info_edge:(prog.info? 97).map (fun i=>(i.zero,i.size,i.bytes))=some (some (.agg #[(),(),(),()]),4,32):=by kernel_rfl
def ERow (w:World) (B:Nat) (v:Value) (K:List (Pt×Pt)):Prop:=w.ownsRow B 97 4 v K.length (K.flatMap cE)
theorem ERow.nil0 (w:World) (B:Nat):ERow w B (.slice none 0 0) []:=World.ownsRow_nil _ _ _ _
theorem ERow.row {w:World} {B:Nat} {v:Value} {K:List (Pt×Pt)} (h:ERow w B v K):∃ a cap,v=.slice a K.length cap∧RowAt cE 4 w a K:=zD9 zNs h
theorem ERow.kept {w w':World} {B:Nat} {v:Value} {K:List (Pt×Pt)} {row:Option Nat} (h:ERow w B v K) (hg:w.grownBy w' row) (hne:v.ownBlock=none∨v.ownBlock≠row):ERow w' B v K:=World.ownsRow.kept h hg hne
theorem ERow.lt {w:World} {B:Nat} {v:Value} {K:List (Pt×Pt)} (h:ERow w B v K):∀ k,v.ownBlock=some k→B≤k∧k < w.heap.size:=World.ownsRow.lt h
theorem ERow.alloc {w:World} {B:Nat} {v:Value} {K:List (Pt×Pt)} (h:ERow w B v K) (o:Obj):ERow (w.alloc o) B v K:=World.ownsRow.alloc h o
theorem ERow.ext {w w':World} {B n:Nat} {v:Value} {K:List (Pt×Pt)} (h:ERow w B v K) (hb:Below n w w') (hn:n=w.heap.size):ERow w' B v K:=by
 refine ⟨h.1,?_⟩;rcases h.2 with h | ⟨g,cap,cur,h0,h1,h2,h3⟩
 ·exact .inl h
 ·refine .inr ⟨g,cap,cur,h0,h1,?_,h3⟩;have hl:g < w.heap.size:=(jBg.1 h2).1;rw [hb.block g (by omega)];exact h2
theorem ERow.ee {w w':World} {B:Nat} {v:Value} {K:List (Pt×Pt)} (h:ERow w B v K) (hb:Below w w w'):ERow w' B v K:=h.ext hb rfl
theorem ERow.pop {w:World} {B n:Nat} {v:Value} {K:List (Pt×Pt)} {e:Pt×Pt} (h:ERow w B v (K ++ [e])) (hn:K.length=n):∃ g cap,v=.slice (some ⟨g,0,none⟩) (n+1) cap∧n+1≤cap∧ERow w B (.slice (some ⟨g,0,none⟩) n cap) K:=by
 rcases h.2 with ⟨_,h0⟩ | ⟨g,cap,cur,h0,h1,h2,h3,h4,h5,h6⟩
 ·simp at h0
 ·have hl:(K ++ [e]).length=n+1:=by simp [hn]
  rw [hl] at h0 h3 h6;refine ⟨g,cap,h0,h3,zAf zNs K,.inr ⟨g,cap,cur,by rw [hn],h1,h2,by omega,h4,h5,?_⟩⟩;have k:(cur.toList.take ((n+1) * 4)).take (n * 4)=((K ++ [e]).flatMap cE).take (n * 4):=by rw [h6]
  have lk:=zAf zNs K;rw [hn] at lk;rw [List.take_take,jBe,List.take_append_of_le_length (by omega),show min (n * 4) ((n+1) * 4)=n * 4 by omega,jAe (l:=K.flatMap cE) (by omega)] at k;rw [hn];exact k
theorem ERow.pop2 {w:World} {B n:Nat} {v:Value} {K:List (Pt×Pt)} {e:Pt×Pt} (h:ERow w B v (K ++ [e])) (hn:K.length=n):∃ (ad:Addr) (cap:Nat),v=.slice (some ad) (n+1) cap∧n+1≤cap∧ERow w B (.slice (some ad) n cap) K∧RowAt cE 4 w (some ad) (K ++ [e]):=by
 obtain ⟨g,cap,rfl,h1,h2⟩:=h.pop hn;obtain ⟨a,c,e1,e2⟩:=h.row;simp only [Value.slice.injEq] at e1;obtain ⟨rfl,_,_⟩:=e1;exact ⟨_,cap,rfl,h1,h2,e2⟩
def Four (w:World) (A:Addr) (e:Pt×Pt):Prop:=A.block < w.heap.size∧w.cell? A=some (.int .i64 e.1.x)∧w.cell? ⟨A.block,A.off+1,none⟩=some (.int .i64 e.1.y)∧w.cell? ⟨A.block,A.off+2,none⟩=some (.int .i64 e.2.x)∧w.cell? ⟨A.block,A.off+3,none⟩=some (.int .i64 e.2.y)
theorem RowAt.edg {w:World} {a:Option Addr} {K:List (Pt×Pt)} (h:RowAt cE 4 w a K) {j:Nat} {e:Pt×Pt} (hj:K[j]? = some e):∃ ad A,a=some ad∧ad.add (j * 4)=A∧Four w A e:=by
 obtain ⟨ad,h1,h2,h3⟩:=h j e hj;have hb:(ad.add (j * 4)).block=ad.block:=zAo _ _;have e0:=h3 0 _ rfl;have e1:=h3 1 _ rfl;have e2:=h3 2 _ rfl;have e3:=h3 3 _ rfl;simp only [Addr.add_zero',Addr.add_succ'] at e0 e1 e2 e3;exact ⟨ad,_,h1,rfl,by rw [hb];exact h2,e0,e1,e2,e3⟩
theorem Four.f {w:World} {A:Addr} {e:Pt×Pt} (h:Four w A e):(A.block=w.heap.size)=False∧w.cell? A=some (.int .i64 e.1.x)∧w.cell? ⟨A.block,A.off+1,none⟩=some (.int .i64 e.1.y)∧w.cell? ⟨A.block,A.off+2,none⟩=some (.int .i64 e.2.x)∧w.cell? ⟨A.block,A.off+3,none⟩=some (.int .i64 e.2.y):=⟨by simp;have:=h.1;omega,h.2⟩
theorem run_upto_edg (a:Option Addr) (n cap hi:Nat) (h1:hi≤cap) (w:World):(Instr.slice 95 (.slice a n cap) none (some (.int .i64 hi)) none).run prog w=.ok (.slice a hi cap) w:=by
 cases a <;> simp [Instr.slice,Instr.sliceBounds,Instr.sliceBound,asIntOf,run_underlying underlying95,go_sem,h1,Addr.add]
theorem zLk {w:World} {ops:Array Oper} {rest:List Oper} {o:Oper} {a:Act} {Q:Exit→Act→World→Prop} (hgd:o.guard=none) (s x:Operand) (ho:o.op=.call { callee:=.builtin .append,args:=#[s,x],argTypes:=#[95,95] }) (B:Nat) (v:Value) (K:List (Pt×Pt)) (hs:a.eval s=v) (hown:ERow w B v K) (bx m:Nat) (U:List (Pt×Pt)) (hx:a.eval x=.slice (some ⟨bx,0,none⟩) m m) (hm:U.length=m) (hU:Box w bx (U.flatMap cE) 97) (hu0:m≤1000) (hn:K.length≤2000000) (hbase:B≤w.heap.size) (h:∀ w' v',ERow w' B v' (K ++ U)→w.grownBy w' v.ownBlock→wpList prog ops Q rest (a.put o.dst v') w'):wpList prog ops Q (o :: rest) a w:=by
 obtain ⟨i0,hi,hz0,hz1,hz2⟩:=info_parts info_edge;refine wpList_append_own w hgd s x 95 ho B 97 i0 _ 4 32 underlying95 hi hz0 hz1 hz2 rfl (by decide) v K.length _ hs hown ⟨bx,0,none⟩ m m (U.flatMap cE) hx (by rw [zAf zNs,hm]) ?_ ?_ ?_ ?_ hbase ?_
 ·intro j u hj;rw [Addr.add_lit,jCa];have:=hU.f.1 j;rw [hj] at this;exact this
 ·intro u hu;obtain ⟨X,_,hX⟩:=jAh.1 hu;exact cE_one X u hX
 ·unfold maxLen;omega
 ·omega
 ·intro v' w' hown' hg _;refine h w' v' ?_ hg;unfold ERow;rw [jAa,jBe,hm];exact hown'
theorem SetRd.turn {w w':World} {sb c n b:Nat} {a0:Option Addr} {L:List Wl} {E:Es} (S:SetRd w sb a0 c n L) (H:HoldsMap eW eT okW w b E) (hg:w.grownBy w' (some b)):SetRd w' sb a0 c n L:=
 ⟨S.box.turn H hg,S.row.turn cW_ne H hg,S.len,S.le,S.nc,S.flat,S.nil0,S.ris,S.good⟩
end
end Go.Proofs.YtogffkimgmlilaaGreat
