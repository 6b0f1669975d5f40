import Derived.Test.YthhcehmmglmlfaaGreatPgo8
set_option maxRecDepth 100000
set_option maxHeartbeats 8000000
set_option linter.all false
namespace Go.Proofs.YthhcehmmglmlfaaGreat
open _root_.Go.Proofs.Tryz
section
open Go.RowKit
structure Crs (a b l r:Pt):Prop where
 left:0 < det a b l
 right:det a b r < 0
 back:0 < det r l a
 front:0 < det l r b
theorem Crs.turn {a b l r:Pt} (h:Crs a b l r):Crs b a r l:=by
 refine ⟨?_,?_,h.front,h.back⟩
 ·have:=h.right;have:=zW a b r;omega
 ·have:=h.left;have:=zW a b l;omega
theorem Crs.wide {a b l r:Pt} (h:Crs a b l r):det r l a+det l r b=det a b l - det a b r/\0 < det a b l - det a b r:=by
 have:=h.left;have:=h.right;exact ⟨by unfold det;grind,by omega⟩
def ahd (a b:Pt) (e f:Pt×Pt):Prop:=det e.2 e.1 a * (det a b f.1 - det a b f.2) < det f.2 f.1 a * (det a b e.1 - det a b e.2)
theorem ut {a b:Pt} {e f g:Pt×Pt} (he:Crs a b e.1 e.2) (hf:Crs a b f.1 f.2) (hg:Crs a b g.1 g.2) (h1:ahd a b e f) (h2:ahd a b f g):ahd a b e g:=by
 unfold ahd at *;have w1:=he.wide.2;have w2:=hf.wide.2;have w3:=hg.wide.2;generalize det a b e.1 - det a b e.2=x at *
 generalize det a b f.1 - det a b f.2=y at *
 generalize det a b g.1 - det a b g.2=z at *
 generalize det e.2 e.1 a=p at *
 generalize det f.2 f.1 a=q at *
 generalize det g.2 g.1 a=r at *
 have k1:=Int.mul_lt_mul_of_pos_right h1 w3;have k2:=Int.mul_lt_mul_of_pos_right h2 w1;have k3:(p * z) * y < (r * x) * y:=by
  have e1:p * y * z=(p * z) * y:=by grind
  have e2:q * x * z=q * z * x:=by grind
  have e3:r * y * x=(r * x) * y:=by grind
  omega
 exact Int.lt_of_mul_lt_mul_right k3 (by omega)
theorem YW {a b:Pt} (e:Pt×Pt):¬ ahd a b e e:=by unfold ahd;omega
section
variable {W H:Int} {L:List Tri3} (h:Tiles W H L)
include h
def Bare (L:List Tri3) (a b:Pt):Prop:=∀ p,someC L p->det a b p=0->((a.x<=p.x/\p.x<=b.x)\/(b.x<=p.x/\p.x<=a.x))->((a.y<=p.y/\p.y<=b.y)\/(b.y<=p.y/\p.y<=a.y))->p=a\/p=b
omit h in
theorem Bare.turn {L:List Tri3} {a b:Pt} (hb:Bare L a b):Bare L b a:=λp hc hz hx hy=>(hb p hc (by have:=zW a b p;omega) (by omega) (by omega)).symm
theorem Tiles.step {a b l r v:Pt} (hB:Bare L a b) (hb:someC L b) {T:Tri3} (hT:T∈L) (hc:Cyc T l r v) (hx:Crs a b l r):v=b\/(0 < det a b v/\Crs a b v r/\ahd a b (l,r) (v,r))\/(det a b v < 0/\Crs a b l v/\ahd a b (l,r) (l,v)):=by
 have t0:=h.cyc_pos hT hc;obtain ⟨hl,hr,hbk,hfr⟩:=hx;have bT:isCnr T b->b=l\/b=r\/b=v:=λk=>(hc.cnr_iff b).1 k;have bz:det a b b=0:=by unfold det;grind
 have nl:b≠l:=λe=>by rw [<-e] at hl;omega
 have nr:b≠r:=λe=>by rw [<-e] at hr;omega
 obtain ⟨S,hS,hbS⟩:=hb;have inT:0<=det r v b->0<=det v l b->b=v:=λk1 k2=>by
  have hh:hasT T b:=by
   rcases hc with ⟨rfl,rfl,rfl⟩ | ⟨rfl,rfl,rfl⟩ | ⟨rfl,rfl,rfl⟩
   ·exact ⟨by omega,k1,k2⟩
   ·exact ⟨k2,by omega,k1⟩
   ·exact ⟨k1,k2,by omega⟩
  rcases bT (h.cnr_all hS hT hbS hh) with k | k | k
  ·exact absurd k nl
  ·exact absurd k nr
  ·exact k
 rcases V5 (det a b v) 0 with hv | hv | hv
 ·by_cases kb:b=v
  ·exact .inl kb.symm
  refine .inr (.inr ⟨hv,⟨hl,hv,?_,?_⟩,?_⟩)
  ·have e:(det a b l - det a b r) * det v l a=(det a b l - det a b v) * det r l a+det a b l * det l r v:=by unfold det;grind
   have p1:0 < det a b l - det a b r:=by omega
   refine (zY p1).1 ?_;rw [e];exact UF (JP (by omega) hbk) (JP hl t0)
  ·refine JQ λk=>kb (inT ?_ ?_)
   ·have e:det a b l * det r v b=(- det a b v) * det l r b+(- det a b r) * (- det l v b):=by unfold det;grind
    have p:0<=det a b l * det r v b:=by
     rw [e];exact UN (JD (by omega) (by omega)) (JD (by omega) (by omega))
    exact (zd hl).1 p
   ·have:=zW v l b;omega
  ·unfold ahd;have e:det v l a * (det a b l - det a b r)=det r l a * (det a b l - det a b v)+det a b l * det l r v:=by unfold det;grind
   have:=JP hl t0;simp only;omega
 ·-- on the line
  refine .inl ?_;have w0:det r l a+det l r b=det a b l - det a b r:=by unfold det;grind
  have ex:(det a b l - det a b r) * (v.x - a.x)=(det l r v+det r l a) * (b.x - a.x):=by
   have e:(det a b l - det a b r) * (v.x - a.x) - (det l r v+det r l a) * (b.x - a.x)=(l.x - r.x) * det a b v:=by unfold det;grind
   rw [hv,Jh] at e;omega
  have ey:(det a b l - det a b r) * (v.y - a.y)=(det l r v+det r l a) * (b.y - a.y):=by
   have e:(det a b l - det a b r) * (v.y - a.y) - (det l r v+det r l a) * (b.y - a.y)=(l.y - r.y) * det a b v:=by unfold det;grind
   rw [hv,Jh] at e;omega
  have p1:0 < det a b l - det a b r:=by omega
  by_cases k:det l r v<=det l r b
  ·have btw : ∀ x y : Int, (det a b l - det a b r) * x = (det l r v + det r l a) * y -> (0 <= y /\ 0 <= x /\ x <= y) \/ (y <= 0 /\ y <= x /\ x <= 0) := by
     intro x y exy;have s0:0<=det l r v+det r l a:=by omega
     have s1:det l r v+det r l a<=det a b l - det a b r:=by omega
     generalize det a b l - det a b r=w at *
     generalize det l r v+det r l a=s at *
     rcases VW 0 y with hy | hy
     ·refine .inl ⟨hy,?_⟩;have q1:0<=w * x:=by rw [exy];exact JD s0 hy
      have q2:w * x<=w * y:=by rw [exy];exact Jx s1 hy
      exact ⟨(zd p1).1 q1,QK q2 p1⟩
     ·refine .inr ⟨hy,?_⟩;have q1:0<=w * (-x):=by rw [Ql,exy,<-Ql];exact JD s0 (by omega)
      have q2:w * (-x)<=w * (-y):=by rw [Ql,exy,<-Ql];exact Jx s1 (by omega)
      have:=(zd p1).1 q1;have:=QK q2 p1;omega
   have b1:=btw _ _ ex;have b2:=btw _ _ ey;have cv:someC L v:=⟨T,hT,hc.turn.turn.cnr⟩;rcases hB v cv hv (by omega) (by omega) with rfl | rfl
   ·have:det l r v = - det r l v:=zW r l v;omega
   ·rfl
  ·exfalso
   have k2 : b = v := inT (by
       have e:(det a b l - det a b r) * det r v b=(det l r b - det l r v) * det a b r+(det a b v) * det r l b:=by unfold det;grind
       have p:0 < (det a b l - det a b r) * det r v b:=by
        rw [e,hv,Jn,VA];exact Qt (by omega) hr
       have:=(zY p1).1 p;omega) (by
       have e:(det a b l - det a b r) * det v l b=(det l r v - det l r b) * det a b l+(det a b v) * det l r b:=by unfold det;grind
       have p:0 < (det a b l - det a b r) * det v l b:=by
        rw [e,hv,Jn,VA];exact JP (by omega) hl
       have:=(zY p1).1 p;omega)
   rw [<-k2] at k;omega
 ·by_cases kb:b=v
  ·exact .inl kb.symm
  refine .inr (.inl ⟨hv,⟨hv,hr,?_,?_⟩,?_⟩)
  ·have e:(det a b l - det a b r) * det r v a=(det a b v - det a b r) * det r l a+(- det a b r) * det l r v:=by unfold det;grind
   have p1:0 < det a b l - det a b r:=by omega
   refine (zY p1).1 ?_;rw [e];exact UF (JP (by omega) hbk) (JP (by omega) t0)
  ·refine JQ λk=>kb (inT ?_ ?_)
   ·have:=zW v r b;omega
   ·have e:(- det a b r) * det v l b=det a b v * det l r b+det a b l * (- det v r b):=by unfold det;grind
    have p:0<=(- det a b r) * det v l b:=by
     rw [e];exact UN (JD (by omega) (by omega)) (JD (by omega) (by omega))
    exact (zd (by omega)).1 p
  ·unfold ahd;have e:det r v a * (det a b l - det a b r)=det r l a * (det a b v - det a b r)+(- det a b r) * det l r v:=by unfold det;grind
   have:=JP (show 0 < - det a b r by omega) t0;simp only;omega
end
theorem Cyc.same {T:Tri3} {a b c b' c':Pt} (h:Cyc T a b c) (k:Cyc T a b' c') (hp:0 < Go.Proofs.YthhcehmmglmlfaaGreat.det a b c):b'=b/\c'=c:=by
 obtain ⟨n1,n2,n3⟩:=zQ hp;rcases h with ⟨rfl,rfl,rfl⟩ | ⟨rfl,rfl,rfl⟩ | ⟨rfl,rfl,rfl⟩ <;> rcases k with ⟨k1,rfl,rfl⟩ | ⟨k1,rfl,rfl⟩ | ⟨k1,rfl,rfl⟩ <;> first | exact ⟨rfl,rfl⟩ | exact absurd k1 n1 | exact absurd k1 n3 | exact absurd k1.symm n1 | exact absurd k1.symm n3 | exact absurd k1 n2 | exact absurd k1.symm n2
theorem Cyc.same2 {T:Tri3} {a b c c':Pt} (h:Cyc T a b c) (k:Cyc T a b c') (hp:0 < Go.Proofs.YthhcehmmglmlfaaGreat.det a b c):c'=c:=(h.same k hp).2
def Nx (L:List Tri3) (e f:Pt×Pt):Prop:=∃ T∈L,∃ v,Cyc T e.1 e.2 v/\(f=(v,e.2)\/f=(e.1,v))
def bef (L:List Tri3) (a:Pt):Option (Pt×Pt)->Pt×Pt->Prop
 | none,e=>∃ T∈L,Cyc T e.2 e.1 a
 | some p,e=>Nx L p e
def Ch (L:List Tri3) (a b:Pt):Option (Pt×Pt)->List (Pt×Pt)->Prop
 | none,[]=>(a,b)∈L.flatMap ways\/(b,a)∈L.flatMap ways
 | some e,[]=>∃ T∈L,Cyc T e.1 e.2 b
 | p,e :: P=>bef L a p e/\Ch L a b (some e) P
theorem uj {α:Type} {p q:α->Bool}:∀ {l:List α},(∀ x∈l,q x=true->p x=true)->(∃ x∈l,p x=true/\q x=false)->l.countP q < l.countP p
 | [],_,⟨_,h,_⟩=>by cases h
 | y :: l,h,⟨x,hx,hp,hq⟩=>by
  have le:l.countP q<=l.countP p:=List.countP_mono_left (λz hz=>h z (JN _ hz));rw [List.countP_cons,List.countP_cons];rcases J1.1 hx with rfl | hx
  ·rw [hp,hq];simp;omega
  ·have ih:=uj (λz hz=>h z (JN _ hz)) ⟨x,hx,hp,hq⟩;have:=h y (by simp);cases hq':q y <;> cases hp':p y <;> simp_all <;> omega
section
variable {W H:Int} {L:List Tri3} (h:Tiles W H L)
include h
theorem Tiles.other {a b l r:Pt} (ba:inBox W H a) (bb:inBox W H b) (hx:Crs a b l r):(l,r)∈L.flatMap ways↔(r,l)∈L.flatMap ways:=by
 constructor
 ·intro hm;rcases h.rim _ hm with k | k
  ·exact k
  ·exfalso
   obtain ⟨T,hT,hw⟩:=JO.1 hm;obtain ⟨v,hc⟩:=yd hw;have k2:0<=det l r a:=uI k (h.cyc_pos hT hc) (h.cyc_box hT hc.turn.turn) ba;have:=hx.back;have:=zW r l a;omega
 ·intro hm;rcases h.rim _ hm with k | k
  ·exact k
  ·exfalso
   obtain ⟨T,hT,hw⟩:=JO.1 hm;obtain ⟨v,hc⟩:=yd hw;have k2:0<=det r l b:=uI k (h.cyc_pos hT hc) (h.cyc_box hT hc.turn.turn) bb;have:=hx.front;have:=zW l r b;omega
open Classical in
theorem Tiles.run {a b:Pt} (ba:inBox W H a) (bb:inBox W H b) (hB:Bare L a b) (hb:someC L b):∀ (n:Nat) (e:Pt×Pt),Crs a b e.1 e.2->e∈L.flatMap ways->(L.flatMap ways).countP (λf=>decide (Crs a b f.1 f.2/\ahd a b e f))<=n->∃ P,Ch L a b (some e) P/\(∀ f∈P,Crs a b f.1 f.2/\ahd a b e f)/\P.Nodup:=by
 intro n;induction n with
 | zero=>
  intro e hx hm hn;obtain ⟨T,hT,hw⟩:=JO.1 hm;obtain ⟨v,hc⟩:=yd hw;have none:∀ f:Pt×Pt,f∈L.flatMap ways->Crs a b f.1 f.2->ahd a b e f->False:=λf h1 h2 h3=>by
   have:=List.countP_eq_zero.1 (Nat.le_zero.1 hn) f h1;simp [h2,h3] at this
  rcases h.step hB hb hT hc hx with rfl | ⟨_,h2,h3⟩ | ⟨_,h2,h3⟩
  ·exact ⟨[],⟨T,hT,hc⟩,by simp,by simp⟩
  ·exact absurd h3 (none _ ((h.other ba bb h2).2 (y7 hT hc.turn.way)) h2)
  ·exact absurd h3 (none _ ((h.other ba bb h2).2 (y7 hT hc.turn.turn.way)) h2)
 | succ n ih=>
  intro e hx hm hn;obtain ⟨T,hT,hw⟩:=JO.1 hm;obtain ⟨v,hc⟩:=yd hw;have go:∀ f:Pt×Pt,(f.2,f.1)∈L.flatMap ways->Crs a b f.1 f.2->ahd a b e f->Nx L e f->∃ P,Ch L a b (some e) P/\(∀ f∈P,Crs a b f.1 f.2/\ahd a b e f)/\P.Nodup:=λf h1 h2 h3 h4=>by
   have hm2:=(h.other ba bb h2).2 h1;obtain ⟨P,c,o,d⟩:=ih f h2 hm2 (by
    have:=uj (l:=L.flatMap ways) (q:=λg=>decide (Crs a b g.1 g.2/\ahd a b f g)) (p:=λg=>decide (Crs a b g.1 g.2/\ahd a b e g)) (λg _ hg=>by
     simp only [JA] at hg ⊢;exact ⟨hg.1,ut hx h2 hg.1 h3 hg.2⟩) ⟨f,hm2,by simp only [JA];exact ⟨h2,h3⟩,by simp only [QF];exact λk=>YW f k.2⟩
    omega)
   refine ⟨f :: P,⟨h4,c⟩,λg hg=>?_,Jf.2 ⟨λhg=>YW f (o f hg).2,d⟩⟩;rcases J1.1 hg with rfl | hg
   ·exact ⟨h2,h3⟩
   ·exact ⟨(o g hg).1,ut hx h2 (o g hg).1 h3 (o g hg).2⟩
  rcases h.step hB hb hT hc hx with rfl | ⟨_,h2,h3⟩ | ⟨_,h2,h3⟩
  ·exact ⟨[],⟨T,hT,hc⟩,by simp,by simp⟩
  ·exact go (v,e.2) (y7 hT hc.turn.way) h2 h3 ⟨T,hT,v,hc,.inl rfl⟩
  ·exact go (e.1,v) (y7 hT hc.turn.turn.way) h2 h3 ⟨T,hT,v,hc,.inr rfl⟩
theorem Tiles.cone_one {a b r l x y:Pt} {T T0:Tri3} (hT:T∈L) (h0:T0∈L) (c:Cyc T a r l) (c0:Cyc T0 a x y) (p1:0 < det a r b) (p2:0 < det l a b) (q1:0<=det a x b) (q2:0<=det y a b):T=T0:=by
 have t1:=h.cyc_pos hT c;have t0:=h.cyc_pos h0 c0;obtain ⟨u,eu⟩:∃ u:Pt,u=⟨x.x+y.x - 2 * a.x,x.y+y.y - 2 * a.y⟩:=⟨_,rfl⟩;have eux:u.x=x.x+y.x - 2 * a.x:=by rw [eu]
 have euy:u.y=x.y+y.y - 2 * a.y:=by rw [eu]
 obtain ⟨s,es⟩:∃ s:Int,s=1+(crd a r u).natAbs+(crd l a u).natAbs:=⟨_,rfl⟩;have s0:0 < s:=by omega
 obtain ⟨v,ev⟩:∃ v:Pt,v=⟨s * (b.x - a.x)+u.x,s * (b.y - a.y)+u.y⟩:=⟨_,rfl⟩;have evx:v.x=s * (b.x - a.x)+u.x:=by rw [ev]
 have evy:v.y=s * (b.y - a.y)+u.y:=by rw [ev]
 have zz:∀ m n:Pt,det (sc 1 m) (sc 1 n) a=det m n a:=λm n=>by rw [jt,jt]
 have z1:∀ m:Pt,det a m a=0:=λm=>by unfold det;grind
 have z2:∀ m:Pt,det m a a=0:=λm=>by unfold det;grind
 refine h.same hT h0 (M:=1) (by omega) (p:=a) (v:=v) (c.near ?_) (c0.near ?_)
 ·unfold near3;rw [zz,zz,zz,z1,z2];refine ⟨.inr ⟨rfl,?_⟩,.inl ?_,.inr ⟨rfl,?_⟩⟩
  ·have e:crd a r v=s * det a r b+crd a r u:=by unfold crd det;rw [evx,evy];grind
   have:s * 1<=s * det a r b:=QI (by omega) (by omega);omega
  ·have:=zX a r l;omega
  ·have e:crd l a v=s * det l a b+crd l a u:=by unfold crd det;rw [evx,evy];grind
   have:s * 1<=s * det l a b:=QI (by omega) (by omega);omega
 ·unfold near3;rw [zz,zz,zz,z1,z2];refine ⟨.inr ⟨rfl,?_⟩,.inl ?_,.inr ⟨rfl,?_⟩⟩
  ·have e:crd a x v=s * det a x b+det a x y:=by unfold crd det;rw [evx,evy,eux,euy];grind
   have:=JD (Jb s0) q1;omega
  ·have:=zX a x y;omega
  ·have e:crd y a v=s * det y a b+det a x y:=by unfold crd det;rw [evx,evy,eux,euy];grind
   have:=JD (Jb s0) q2;omega
theorem Tiles.start {a b x y:Pt} (hab:a≠b) (hB:Bare L a b) (hb:someC L b) {T:Tri3} (hT:T∈L) (c:Cyc T a x y) (q1:0<=det a x b) (q2:0<=det y a b):(x=b\/y=b)\/Crs a b y x:=by
 have t0:=h.cyc_pos hT c;obtain ⟨n1,n2,n3⟩:=zQ t0;obtain ⟨S,hS,hbS⟩:=hb;by_cases k:0<=det x y b
 ·have hh : hasT T b := by
    rcases c with ⟨rfl,rfl,rfl⟩ | ⟨rfl,rfl,rfl⟩ | ⟨rfl,rfl,rfl⟩
    ·exact ⟨q1,k,q2⟩
    ·exact ⟨q2,q1,k⟩
    ·exact ⟨k,q2,q1⟩
  rcases (c.cnr_iff b).1 (h.cnr_all hS hT hbS hh) with e | e | e
  ·exact absurd e.symm hab
  ·exact .inl (.inl e.symm)
  ·exact .inl (.inr e.symm)
 ·have btw : ∀ (m : Int) (p q : Int), det a x y < m -> det a x y * p = m * q -> (0 <= p /\ 0 <= q /\ q <= p) \/ (p <= 0 /\ p <= q /\ q <= 0) := by
    intro m p q hm e;generalize det a x y=w at *
    rcases VW 0 q with hq | hq
    ·have k1:w * q<=w * p:=by rw [e];exact Jx (by omega) hq
     have:=QK k1 t0;omega
    ·have k1:w * (-q)<=w * (-p):=by rw [Ql,Ql,e,<-Ql,<-Ql];exact Jx (by omega) (by omega)
     have:=QK k1 t0;omega
  have sum:det x y b=det a x y - det a x b - det y a b:=by unfold det;grind
  rcases Jy q1 with p1 | p1
  ·rcases Jy q2 with p2 | p2
   ·refine .inr ⟨?_,?_,?_,?_⟩
    ·have:=zX a b y;have:=zX b y a;omega
    ·have e:det a b x = - det a x b:=by unfold det;grind
     omega
    ·have:=zX a x y;omega
    ·have:=zW x y b;omega
   ·-- y on the line
    have ex:det a x y * (b.x - a.x)=det a x b * (y.x - a.x):=by
     have e:det a x y * (b.x - a.x) - det a x b * (y.x - a.x)=det y a b * (x.x - a.x):=by unfold det;grind
     rw [<-p2,Jn] at e;omega
    have ey:det a x y * (b.y - a.y)=det a x b * (y.y - a.y):=by
     have e:det a x y * (b.y - a.y) - det a x b * (y.y - a.y)=det y a b * (x.y - a.y):=by unfold det;grind
     rw [<-p2,Jn] at e;omega
    have b1:=btw _ _ _ (by omega) ex;have b2:=btw _ _ _ (by omega) ey;have dz:det a b y=0:=by have:=zX a b y;have:=zX b y a;omega
    rcases hB y ⟨T,hT,c.turn.turn.cnr⟩ dz (by omega) (by omega) with e | e
    ·exact absurd e n3
    ·exact .inl (.inr e)
  ·-- x on the line
   have ex:det a x y * (b.x - a.x)=det y a b * (x.x - a.x):=by
    have e:det a x y * (b.x - a.x) - det y a b * (x.x - a.x)=det a x b * (y.x - a.x):=by unfold det;grind
    rw [<-p1,Jn] at e;omega
   have ey:det a x y * (b.y - a.y)=det y a b * (x.y - a.y):=by
    have e:det a x y * (b.y - a.y) - det y a b * (x.y - a.y)=det a x b * (y.y - a.y):=by unfold det;grind
    rw [<-p1,Jn] at e;omega
   have b1:=btw _ _ _ (by omega) ex;have b2:=btw _ _ _ (by omega) ey;have dz:det a b x=0:=by
    have e:det a b x = - det a x b:=by unfold det;grind
    omega
   rcases hB x ⟨T,hT,c.turn.cnr⟩ dz (by omega) (by omega) with e | e
   ·exact absurd e.symm n1
   ·exact .inl (.inl e)
end
section
variable {W H:Int} {L:List Tri3} (h:Tiles W H L)
include h
open Classical in
theorem Tiles.all_in {a b:Pt} (ba:inBox W H a) (bb:inBox W H b) (hB:Bare L a b) (ha:someC L a) (_hb:someC L b) {P:List (Pt×Pt)} (hP:Ch L a b none P) (hcr:∀ e∈P,Crs a b e.1 e.2) {x y:Pt} {T0:Tri3} (h0:T0∈L) (c0:Cyc T0 a x y) (q1:0<=det a x b) (q2:0<=det y a b) (hfst:Crs a b y x->∃ P',P=(y,x) :: P'):∀ (n:Nat) (e:Pt×Pt),Crs a b e.1 e.2->e∈L.flatMap ways->(L.flatMap ways).countP (λf=>decide (Crs a b f.1 f.2/\ahd a b f e))<=n->e∈P:=by
 have nxt:∀ (P:List (Pt×Pt)) (o:Option (Pt×Pt)),Ch L a b o P->(∀ e∈P,Crs a b e.1 e.2)->∀ p∈P,(∃ T∈L,Cyc T p.1 p.2 b)\/∃ q∈P,Nx L p q:=by
  intro P;induction P with
  | nil=>intro _ _ _ p hp;cases hp
  | cons e P ih=>
   intro o hc hx p hp;have hc':Ch L a b (some e) P:=by cases o <;> exact hc.2
   rcases J1.1 hp with rfl | hp
   ·cases P with
    | nil=>exact .inl hc'
    | cons q P=>exact .inr ⟨q,by simp,hc'.1⟩
   ·rcases ih (some e) hc' (λg hg=>hx g (JN _ hg)) p hp with k | ⟨q,hq,k⟩
    ·exact .inl k
    ·exact .inr ⟨q,JN _ hq,k⟩
 have back:∀ e:Pt×Pt,Crs a b e.1 e.2->e∈L.flatMap ways->(∀ p:Pt×Pt,Crs a b p.1 p.2->p∈L.flatMap ways->ahd a b p e->p∈P)->e∈P:=by
  intro e hx hm ih;obtain ⟨T,hT,hw⟩:=JO.1 ((h.other ba bb hx).1 hm);obtain ⟨u,hc⟩:=yd hw;have t0:=h.cyc_pos hT hc
  -- the order,the other way round
  have rev:∀ p:Pt×Pt,Crs a b p.1 p.2->ahd b a (e.2,e.1) (p.2,p.1)->ahd a b p e:=λp hp k=>by
   unfold ahd at *;have w1:=hx.wide;have w2:=hp.wide;have s1:=zW a b e.1;have s2:=zW a b e.2;have s3:=zW a b p.1;have s4:=zW a b p.2;simp only at k;rw [s1,s2,s3,s4] at k;have e1:det e.2 e.1 a=(det a b e.1 - det a b e.2) - det e.1 e.2 b:=by omega
   have e2:det p.2 p.1 a=(det a b p.1 - det a b p.2) - det p.1 p.2 b:=by omega
   have e3 : -det a b p.2 - -det a b p.1=det a b p.1 - det a b p.2:=by omega
   have e4 : -det a b e.2 - -det a b e.1=det a b e.1 - det a b e.2:=by omega
   rw [e3,e4] at k;rw [e1,e2];generalize det a b p.1 - det a b p.2=y at *
   generalize det a b e.1 - det a b e.2=z at *
   have e5:=VQ y z;rw [Vl,Vl];omega
  -- one that is ahead of e,and e behind it
  have go:∀ p:Pt×Pt,Crs a b p.1 p.2->ahd a b p e->(∃ T∈L,∃ v,Cyc T p.1 p.2 v/\(e=(v,p.2)\/e=(p.1,v)))->e∈P:=by
   rintro p hp ha ⟨T,hT,v,hcp,he⟩;have hmp:p∈L.flatMap ways:=y7 hT hcp.way;have tp:=h.cyc_pos hT hcp;have hv:det a b v≠0:=by
    rcases he with he | he
    ·have:=hx.left;rw [he] at this;simp only at this;omega
    ·have:=hx.right;rw [he] at this;simp only at this;omega
   rcases nxt P none hP hcr p (ih p hp hmp ha) with ⟨R,hR,hcR⟩ | ⟨q,hq,R,hR,v',hcR,hv'⟩
   ·exfalso
    have e1:R=T:=x8 h.once hR hT hcR.way hcp.way;rw [e1] at hcR;have:b=v:=hcp.same2 hcR tp;apply hv;rw [<-this];unfold det;grind
   ·have e1:R=T:=x8 h.once hR hT hcR.way hcp.way;rw [e1] at hcR;have e2:v'=v:=hcp.same2 hcR tp;rw [e2] at hv';have hxq:=hcr q hq;have:q=e:=by
     have l1:=hxq.left;have r1:=hxq.right;have l2:=hx.left;have r2:=hx.right;rcases he with he | he <;> rcases hv' with hv' | hv'
     ·rw [he,hv']
     ·rw [he] at l2;rw [hv'] at r1;simp only at l2 r1;omega
     ·rw [he] at r2;rw [hv'] at l1;simp only at r2 l1;omega
     ·rw [he,hv']
    rw [<-this];exact hq
  rcases h.step hB.turn ha hT hc hx.turn with rfl | ⟨_,h2,h3⟩ | ⟨_,h2,h3⟩
  ·-- the first one
   have c1:=hc.turn.turn;have k1:=hx.left;have k2:=hx.right;have p1:0 < det u e.2 b:=by
    have e1:det u e.2 b = - det u b e.2:=by unfold det;grind
    omega
   have p2:0 < det e.1 u b:=by have:=zX u b e.1;have:=zX b e.1 u;omega
   have eT:=h.cone_one hT h0 c1 c0 p1 p2 q1 q2;rw [<-eT] at c0;obtain ⟨e1,e2⟩:=c1.same c0 (by have:=h.cyc_pos hT c1;exact this);obtain ⟨P',hP'⟩:=hfst (by rw [e1,e2];exact hx);rw [hP',e1,e2];exact JT
  ·-- u on the right: (e.1,u)
   exact go (e.1,u) h2.turn (rev (e.1,u) h2.turn h3) ⟨T,hT,e.2,hc.turn,.inr rfl⟩
  ·exact go (u,e.2) h2.turn (rev (u,e.2) h2.turn h3) ⟨T,hT,e.1,hc.turn.turn,.inl rfl⟩
 intro n;induction n with
 | zero=>
  intro e hx hm hn;refine back e hx hm λp hp hmp k=>?_;have:=List.countP_eq_zero.1 (Nat.le_zero.1 hn) p hmp;simp [hp,k] at this
 | succ n ih=>
  intro e hx hm hn;refine back e hx hm λp hp hmp k=>ih p hp hmp ?_;have:=uj (l:=L.flatMap ways) (q:=λg=>decide (Crs a b g.1 g.2/\ahd a b g p)) (p:=λg=>decide (Crs a b g.1 g.2/\ahd a b g e)) (λg _ hg=>by
   simp only [JA] at hg ⊢;exact ⟨hg.1,ut hg.1 hp hx hg.2 k⟩) ⟨p,hmp,by simp only [JA];exact ⟨hp,k⟩,by simp only [QF];exact λk=>YW p k.2⟩
  omega
theorem Tiles.channel (hW:0 < W) (hH:0 < H) {a b:Pt} (hab:a≠b) (hB:Bare L a b) (ha:someC L a) (hb:someC L b):∃ P,Ch L a b none P/\(∀ e∈P,Crs a b e.1 e.2)/\P.Nodup/\∀ e:Pt×Pt,Crs a b e.1 e.2->e∈L.flatMap ways->e∈P:=by
 have inb:∀ {p},someC L p->inBox W H p:=λ{p} ⟨T,hT,hc⟩=>by
  obtain ⟨y,z,k⟩:=qo hc;exact h.cyc_box hT k
 have ba:=inb ha;have bb:=inb hb;obtain ⟨T0,h0,x,y,c0,q1,q2⟩:=h.cone hW hH ba bb ha;have t0:=h.cyc_pos h0 c0;rcases h.start hab hB hb h0 c0 q1 q2 with e | hx
 ·have hP : Ch L a b none [] := by
    rcases e with e | e
    ·exact .inl (by rw [<-e];exact y7 h0 c0.way)
    ·exact .inr (by rw [<-e];exact y7 h0 c0.turn.turn.way)
  have hn:¬ Crs a b y x:=λk=>by
   rcases e with e | e
   ·have:=k.right;rw [e] at this;have z:det a b b=0:=by unfold det;grind
    omega
   ·have:=k.left;rw [e] at this;have z:det a b b=0:=by unfold det;grind
    omega
  exact ⟨[],hP,by simp,by simp,λe k hm=>h.all_in ba bb hB ha hb hP (by simp) h0 c0 q1 q2 (λk=>absurd k hn) _ e k hm (JJ _)⟩
 ·have hm:(y,x)∈L.flatMap ways:=(h.other ba bb hx).2 (y7 h0 c0.turn.way);obtain ⟨P,hc,ho,hd⟩:=h.run ba bb hB hb _ (y,x) hx hm (JJ _);have hP:Ch L a b none ((y,x) :: P):=⟨⟨T0,h0,c0.turn⟩,hc⟩;have hcr:∀ e∈(y,x) :: P,Crs a b e.1 e.2:=λe he=>by
   rcases J1.1 he with rfl | he
   ·exact hx
   ·exact (ho e he).1
  exact ⟨(y,x) :: P,hP,hcr,Jf.2 ⟨λk=>YW _ (ho _ k).2,hd⟩,λe k hm=>h.all_in ba bb hB ha hb hP hcr h0 c0 q1 q2 (λ_=>⟨P,rfl⟩) _ e k hm (JJ _)⟩
end
def Pre (L:List Tri3) (a:Pt):Option (Pt×Pt)->List (Pt×Pt)->Pt×Pt->Prop
 | o,[],w=>bef L a o w
 | o,e :: A,w=>bef L a o e/\Pre L a (some e) A w
theorem Z8 {L:List Tri3} {a:Pt} {o:Option (Pt×Pt)} {e w:Pt×Pt} {A:List (Pt×Pt)}:Pre L a o (e :: A) w↔bef L a o e/\Pre L a (some e) A w:=Vw
theorem kS {L:List Tri3} {a b:Pt} {o:Option (Pt×Pt)} {e:Pt×Pt} {P:List (Pt×Pt)}:Ch L a b o (e :: P)↔bef L a o e/\Ch L a b (some e) P:=by
 cases o <;> exact Vw
theorem qU {L:List Tri3} {a b:Pt} {w:Pt×Pt} {B:List (Pt×Pt)}:∀ {A:List (Pt×Pt)} {o:Option (Pt×Pt)},Ch L a b o (A ++ w :: B)↔Pre L a o A w/\Ch L a b (some w) B
 | [],o=>kS
 | e :: A,o=>by
  rw [Jw,kS,qU (A:=A),Z8,and_assoc]
theorem Z7 {L:List Tri3} {a:Pt} {p w:Pt×Pt}:∀ {A:List (Pt×Pt)} {o:Option (Pt×Pt)},Pre L a o (A ++ [p]) w↔Pre L a o A p/\Nx L p w
 | [],o=>Vw
 | e :: A,o=>by
  rw [Jw,Z8,Z8,Z7 (A:=A),and_assoc]
def up (a b:Pt) (e f:Pt×Pt):Prop:=(e.2=f.2/\det a b e.1<=det a b f.1)\/(e.2≠f.2/\det a b f.2<=det a b e.2)
theorem uY {a b l r u v:Pt} (hl:0 < det a b l) (hr:det a b r < 0) (hS:0 < det l r v) (hR:0 < det r l u) (h1:det a b u<=det a b l) (h2:det a b v<=det a b l) (h3:det a b u < det a b l\/det a b v < det a b l) (k1:det a b r<=det a b u) (k2:det a b r<=det a b v) (k3:det a b r < det a b u\/det a b r < det a b v):0 < det v l u/\0 < det u r v:=by
 have w:0 < det a b l - det a b r:=by omega
 have two:∀ {m n x y:Int},0<=m->0<=n->0 < m\/0 < n->0 < x->0 < y->0 < m * x+n * y:=by
  intro m n x y hm hn h hx hy;rcases h with h | h
  ·have:=JP h hx;have:=JD hn (Jb hy);omega
  ·have:=JP h hy;have:=JD hm (Jb hx);omega
 constructor
 ·refine (zY w).1 ?_;have e:(det a b l - det a b r) * det v l u=(det a b l - det a b u) * det l r v+(det a b l - det a b v) * det r l u:=by unfold det;grind
  rw [e];exact two (by omega) (by omega) (by omega) hS hR
 ·refine (zY w).1 ?_;have e:(det a b l - det a b r) * det u r v=(det a b u - det a b r) * det l r v+(det a b v - det a b r) * det r l u:=by unfold det;grind
  rw [e];exact two (by omega) (by omega) (by omega) hS hR
theorem four_crs {a b l r u v:Pt} (hl:0 < det a b l) (hr:det a b r < 0) (o1:0 < det v l u) (o2:0 < det u r v) (hu:0 < det a b u) (hv:det a b v < 0) (k1:0 < det r u a) (k2:0 < det l v b):Crs a b u v:=by
 refine ⟨hu,hv,?_,?_⟩
 ·refine (zY (show 0 < det a b u - det a b r by omega)).1 ?_;have e:(det a b u - det a b r) * det v u a=(det a b u - det a b v) * det r u a+det a b u * det u r v:=by unfold det;grind
  rw [e];exact UF (JP (by omega) k1) (JP hu o2)
 ·refine (zY (show 0 < det a b l - det a b v by omega)).1 ?_;have e:(det a b l - det a b v) * det u v b=(det a b u - det a b v) * det l v b+(- det a b v) * det v l u:=by unfold det;grind
  rw [e];exact UF (JP (by omega) k2) (JP (by omega) o1)
theorem four_crs2 {a b l r u v:Pt} (hl:0 < det a b l) (hr:det a b r < 0) (o1:0 < det v l u) (o2:0 < det u r v) (hu:det a b u < 0) (hv:0 < det a b v) (k1:0 < det u l a) (k2:0 < det v r b):Crs a b v u:=by
 refine ⟨hv,hu,?_,?_⟩
 ·refine (zY (show 0 < det a b l - det a b u by omega)).1 ?_;have e:(det a b l - det a b u) * det u v a=(det a b v - det a b u) * det u l a+(- det a b u) * det v l u:=by unfold det;grind
  rw [e];exact UF (JP (by omega) k1) (JP (by omega) o1)
 ·refine (zY (show 0 < det a b v - det a b r by omega)).1 ?_;have e:(det a b v - det a b r) * det v u b=(det a b v - det a b u) * det v r b+det a b v * det u r v:=by unfold det;grind
  rw [e];exact UF (JP (by omega) k2) (JP hv o2)
structure At (L:List Tri3) (w:Pt×Pt) (S R:Tri3) (u v:Pt):Prop where
 inS:S∈L
 inR:R∈L
 cS:Cyc S w.1 w.2 v
 cR:Cyc R w.2 w.1 u
section
variable {W H:Int} {L:List Tri3} (h:Tiles W H L) {a b:Pt} {w:Pt×Pt} {S R:Tri3} {u v:Pt} (hA:At L w S R u v)
include h hA
theorem At.ahead {p:Pt×Pt} (k:Nx L p w):p=(u,w.2)\/p=(w.1,u):=by
 obtain ⟨T,hT,v',hc,hw⟩:=k;rcases hw with hw | hw
 ·have e1:w.1=v':=by rw [hw]
  have e2:w.2=p.2:=by rw [hw]
  have c:=hc.turn;rw [<-e1,<-e2] at c;have e:T=R:=x8 h.once hT hA.inR c.way hA.cR.way;rw [e] at c;have:=hA.cR.same2 c (h.cyc_pos hA.inR hA.cR);exact .inl (UT this e2.symm)
 ·have e1:w.1=p.1:=by rw [hw]
  have e2:w.2=v':=by rw [hw]
  have c:=hc.turn.turn;rw [<-e1,<-e2] at c;have e:T=R:=x8 h.once hT hA.inR c.way hA.cR.way;rw [e] at c;have:=hA.cR.same2 c (h.cyc_pos hA.inR hA.cR);exact .inr (UT e1.symm this)
theorem At.behind {q:Pt×Pt} (k:Nx L w q):q=(v,w.2)\/q=(w.1,v):=by
 obtain ⟨T,hT,v',hc,hw⟩:=k;have e:T=S:=x8 h.once hT hA.inS hc.way hA.cS.way;rw [e] at hc;have:=hA.cS.same2 hc (h.cyc_pos hA.inS hA.cS);rw [this] at hw;exact hw
theorem At.first (k:bef L a none w):u=a:=by
 obtain ⟨T,hT,hc⟩:=k;have e:T=R:=x8 h.once hT hA.inR hc.way hA.cR.way;rw [e] at hc;exact (hA.cR.same2 hc (h.cyc_pos hA.inR hA.cR)).symm
theorem At.last (k:Ch L a b (some w) []):v=b:=by
 obtain ⟨T,hT,hc⟩:=k;have e:T=S:=x8 h.once hT hA.inS hc.way hA.cS.way;rw [e] at hc;exact (hA.cS.same2 hc (h.cyc_pos hA.inS hA.cS)).symm
omit h in
theorem At.keepS {e:Pt×Pt} (hw:Crs a b w.1 w.2) (he:Crs a b e.1 e.2) (hn:e≠w) {T:Tri3} (hm:e∈ways T):T≠S:=by
 rintro rfl;have:=hA.cS.ways.mem_iff.1 hm;simp only [J1,JI,Jp] at this;have l1:=hw.left;have r1:=hw.right;have l2:=he.left;have r2:=he.right;rcases this with k | k | k
 ·exact hn k
 ·rw [k] at l2;simp only at l2;omega
 ·rw [k] at r2;simp only at r2;omega
omit h in
theorem At.keepR {e:Pt×Pt} (hw:Crs a b w.1 w.2) (he:Crs a b e.1 e.2) (hn:e≠w) {T:Tri3} (hm:(e.2,e.1)∈ways T):T≠R:=by
 rintro rfl;have:=hA.cR.ways.mem_iff.1 hm;simp only [J1,JI,Jp,Jt] at this;have l1:=hw.left;have r1:=hw.right;have l2:=he.left;have r2:=he.right;rcases this with ⟨k,k'⟩ | ⟨k,_⟩ | ⟨_,k⟩
 ·exact hn (UT k' k)
 ·rw [k] at r2;omega
 ·rw [k] at l2;omega
end
section
variable {W H:Int} {L L':List Tri3} (h:Tiles W H L) {a b:Pt} {w:Pt×Pt} {S R U V:Tri3} {u v:Pt} (hA:At L w S R u v) (hw:Crs a b w.1 w.2) (hk:∀ T∈L,T≠S->T≠R->T∈L')
include h hA hw hk
omit h in
theorem Nx.keep {e f:Pt×Pt} (he:Crs a b e.1 e.2) (hf:Crs a b f.1 f.2) (ne:e≠w) (nf:f≠w) (k:Nx L e f):Nx L' e f:=by
 obtain ⟨T,hT,v',hc,hv⟩:=k;refine ⟨T,hk T hT (hA.keepS hw he ne hc.way) (hA.keepR hw hf nf ?_),v',hc,hv⟩;rcases hv with rfl | rfl
 ·exact hc.turn.way
 ·exact hc.turn.turn.way
theorem first_keep {f:Pt×Pt} (hf:Crs a b f.1 f.2) (nf:f≠w) (k:bef L a none f):bef L' a none f:=by
 obtain ⟨T,hT,hc⟩:=k;refine ⟨T,hk T hT ?_ (hA.keepR hw hf nf hc.way),hc⟩;rintro rfl;have l1:=hw.left;have r1:=hw.right;have z:det a b a=0:=by unfold det;grind
 have:isCnr T a:=hc.turn.turn.cnr;rcases (hA.cS.cnr_iff a).1 this with k | k | k
 ·rw [<-k,z] at l1;omega
 ·rw [<-k,z] at r1;omega
 ·have:=h.cyc_pos hA.inS hA.cS;rw [<-k] at this;have:=hw.back;have:=zW w.2 w.1 a;omega
theorem last_keep {e:Pt×Pt} (he:Crs a b e.1 e.2) (ne:e≠w) (k:Ch L a b (some e) []):Ch L' a b (some e) []:=by
 obtain ⟨T,hT,hc⟩:=k;refine ⟨T,hk T hT (hA.keepS hw he ne hc.way) ?_,hc⟩;rintro rfl;have l1:=hw.left;have r1:=hw.right;have z:det a b b=0:=by unfold det;grind
 have:isCnr T b:=hc.turn.turn.cnr;rcases (hA.cR.cnr_iff b).1 this with k | k | k
 ·rw [<-k,z] at r1;omega
 ·rw [<-k,z] at l1;omega
 ·have:=h.cyc_pos hA.inR hA.cR;rw [<-k] at this;have:=hw.front;have:=zW w.1 w.2 b;omega
theorem Xn {o:Option (Pt×Pt)} {f:Pt×Pt} (ho:∀ e,o=some e->Crs a b e.1 e.2/\e≠w) (hf:Crs a b f.1 f.2) (nf:f≠w) (k:bef L a o f):bef L' a o f:=by
 cases o with
 | none=>exact first_keep h hA hw hk hf nf k
 | some e=>exact Nx.keep hA hw hk (ho e rfl).1 hf (ho e rfl).2 nf k
theorem Yt:∀ {A:List (Pt×Pt)} {o:Option (Pt×Pt)} {p:Pt×Pt},(∀ e,o=some e->Crs a b e.1 e.2/\e≠w)->(∀ e∈A,Crs a b e.1 e.2/\e≠w)->Crs a b p.1 p.2->p≠w->Pre L a o A p->Pre L' a o A p
 | [],_,_,ho,_,hp,np,k=>Xn h hA hw hk ho hp np k
 | e :: A,_,_,ho,hx,hp,np,k=>⟨Xn h hA hw hk ho (hx e (by simp)).1 (hx e (by simp)).2 k.1,Yt (λg hg=>by cases hg;exact hx e (by simp)) (λg hg=>hx g (JN _ hg)) hp np k.2⟩
theorem Xi:∀ {B:List (Pt×Pt)} {q:Pt×Pt},Crs a b q.1 q.2->q≠w->(∀ e∈B,Crs a b e.1 e.2/\e≠w)->Ch L a b (some q) B->Ch L' a b (some q) B
 | [],_,hq,nq,_,k=>last_keep h hA hw hk hq nq k
 | e :: B,_,hq,nq,hx,k=>⟨Nx.keep hA hw hk hq (hx e (by simp)).1 nq (hx e (by simp)).2 k.1,Xi (hx e (by simp)).1 (hx e (by simp)).2 (λg hg=>hx g (JN _ hg)) k.2⟩
end
theorem Ch.flip {W H:Int} {L L':List Tri3} (h:Tiles W H L) {a b:Pt} {A B:List (Pt×Pt)} {w:Pt×Pt} (hP:Ch L a b none (A ++ w :: B)) (hx:∀ e∈A ++ w :: B,Crs a b e.1 e.2) (hd:(A ++ w :: B).Nodup) {S R U V:Tri3} {u v:Pt} (hA:At L w S R u v) (hk:∀ T∈L,T≠S->T≠R->T∈L') (hU:U∈L') (hV:V∈L') (cU:Cyc U v w.1 u) (cV:Cyc V u w.2 v) (o1:0 < det v w.1 u) (o2:0 < det u w.2 v):(∃ A0 p q B0 f,A=A0 ++ [p]/\B=q :: B0/\(f=(u,v)\/f=(v,u))/\Crs a b f.1 f.2/\Ch L' a b none (A ++ f :: B)/\f ∉ A ++ w :: B/\(up a b p f↔up a b w q)/\(up a b f q↔up a b p w))\/(¬ (0 < det a b u/\det a b v < 0\/det a b u < 0/\0 < det a b v)/\Ch L' a b none (A ++ B)):=by
 have hw:=hx w (by simp);have hxA:∀ e∈A,Crs a b e.1 e.2/\e≠w:=λe he=>⟨hx e (Jk _ he),λk=>by
  rw [Jg] at hd;exact hd.2.2 e he w (by simp) k⟩
 have hxB:∀ e∈B,Crs a b e.1 e.2/\e≠w:=λe he=>⟨hx e (by simp [he]),λk=>by
  rw [Jg] at hd;have:=hd.2.1;rw [Jf] at this;exact this.1 (k▸he)⟩
 have za:det a b a=0:=by unfold det;grind
 have zb:det a b b=0:=by unfold det;grind
 have inw:∀ e∈A ++ w :: B,e∈L.flatMap ways:=by
  intro e he;obtain ⟨X,Y,e1⟩:=Qy he;rw [e1] at hP;have:=(qU.1 hP).2;cases Y with
  | nil=>obtain ⟨T,hT,hc⟩:=this;exact y7 hT hc.way
  | cons f Y=>obtain ⟨⟨T,hT,v',hc,_⟩,_⟩:=this;exact y7 hT hc.way
 have n1:(u,v) ∉ A ++ w :: B:=λk=>h.no_diag hA.inS hA.cS o1 o2 (inw _ k);have n2:(v,u) ∉ A ++ w :: B:=λk=>h.no_diag hA.inR hA.cR o2 o1 (inw _ k);obtain ⟨hp1,hq1⟩:=qU.1 hP;rcases List.eq_nil_or_concat A with rfl | ⟨A0,p,rfl⟩
 ·have eu:u=a:=hA.first h hp1;refine .inr ⟨by rw [eu,za];omega,?_⟩;cases B with
  | nil=>
   have ev:v=b:=hA.last h hq1;rw [eu,ev] at cU;exact .inl (y7 hU cU.turn.turn.way)
  | cons q B0=>
   obtain ⟨k1,k2⟩:=kS.1 hq1;have k3:=Xi h hA hw hk (hxB q (by simp)).1 (hxB q (by simp)).2 (λe he=>hxB e (JN _ he)) k2;refine kS.2 ⟨?_,k3⟩;rw [eu] at cU cV;rcases hA.behind h k1 with rfl | rfl
   ·exact ⟨V,hV,cV.turn⟩
   ·exact ⟨U,hU,cU⟩
 ·rw [List.concat_eq_append] at *;obtain ⟨k1,k2⟩:=Z7.1 hp1;have hxp:=hxA p (by simp);have k3:=Yt h hA hw hk (o:=none) (λe he=>by cases he) (λe he=>hxA e (Jk _ he)) hxp.1 hxp.2 k1;have pl:=hxp.1.left;have pr:=hxp.1.right;have pb:=hxp.1.back;cases B with
  | nil=>
   have ev:v=b:=hA.last h hq1;refine .inr ⟨by rw [ev,zb];omega,?_⟩;rw [Ji];refine qU.2 ⟨k3,?_⟩;rw [ev] at cU cV;rcases hA.ahead h k2 with rfl | rfl
   ·exact ⟨V,hV,cV⟩
   ·exact ⟨U,hU,cU.turn⟩
  | cons q B0=>
   obtain ⟨j1,j2⟩:=kS.1 hq1;have hxq:=hxB q (by simp);have j3:=Xi h hA hw hk hxq.1 hxq.2 (λe he=>hxB e (JN _ he)) j2;have ql:=hxq.1.left;have qr:=hxq.1.right;have qf:=hxq.1.front;have mk:∀ f,Nx L' p f->Nx L' f q->Ch L' a b none ((A0 ++ [p]) ++ f :: q :: B0):=λf x y=>by
    rw [JL];exact qU.2 ⟨k3,kS.2 ⟨x,kS.2 ⟨y,j3⟩⟩⟩
   have mk2:Nx L' p q->Ch L' a b none ((A0 ++ [p]) ++ q :: B0):=λx=>by
    rw [JL];exact qU.2 ⟨k3,kS.2 ⟨x,j3⟩⟩
   obtain ⟨d1,d2,d3⟩:=zQ (h.cyc_pos hA.inS hA.cS);obtain ⟨d4,d5,d6⟩:=zQ (h.cyc_pos hA.inR hA.cR);rcases hA.ahead h k2 with rfl | rfl <;> rcases hA.behind h j1 with rfl | rfl <;> simp only at pl pr pb ql qr qf
   ·exact .inr ⟨by omega,mk2 ⟨V,hV,v,cV,.inl rfl⟩⟩
   ·refine .inl ⟨A0,_,_,B0,(u,v),rfl,rfl,.inl rfl,four_crs hw.left hw.right o1 o2 pl qr pb qf,mk _ ⟨V,hV,v,cV,.inr rfl⟩ ⟨U,hU,w.1,cU.turn.turn,.inl rfl⟩,n1,?_,?_⟩
    ·unfold up;simp only;constructor
     ·rintro (⟨k,_⟩ | ⟨_,k⟩);exact absurd k d2;exact .inr ⟨d2,k⟩
     ·rintro (⟨k,_⟩ | ⟨_,k⟩);exact absurd k d2;exact .inr ⟨d2,k⟩
    ·unfold up;simp
   ·refine .inl ⟨A0,_,_,B0,(v,u),rfl,rfl,.inr rfl,four_crs2 hw.left hw.right o1 o2 pr ql pb qf,mk _ ⟨U,hU,v,cU.turn,.inl rfl⟩ ⟨V,hV,w.2,cV.turn.turn,.inr rfl⟩,n2,?_,?_⟩
    ·unfold up;simp
    ·unfold up;simp only;constructor
     ·rintro (⟨k,_⟩ | ⟨_,k⟩);exact absurd k d6;exact .inr ⟨d6,k⟩
     ·rintro (⟨k,_⟩ | ⟨_,k⟩);exact absurd k d6;exact .inr ⟨d6,k⟩
   ·exact .inr ⟨by omega,mk2 ⟨U,hU,v,cU.turn,.inr rfl⟩⟩
theorem Ch.stays {W H:Int} {L:List Tri3} (h:Tiles W H L) {a b:Pt} {A B:List (Pt×Pt)} {w:Pt×Pt} (hP:Ch L a b none (A ++ w :: B)) (hx:∀ e∈A ++ w :: B,Crs a b e.1 e.2) {S R:Tri3} {u v:Pt} (hA:At L w S R u v) (ho:¬ (0 < det v w.1 u/\0 < det u w.2 v)) (hl:A=[]\/∃ A0 p,A=A0 ++ [p]/\up a b p w):∃ q B0,B=q :: B0/\up a b w q:=by
 have hw:=hx w (by simp);have za:det a b a=0:=by unfold det;grind
 have zb:det a b b=0:=by unfold det;grind
 obtain ⟨hp1,hq1⟩:=qU.1 hP;have wl:=hw.left;have wr:=hw.right;have tS:=h.cyc_pos hA.inS hA.cS;have tR:=h.cyc_pos hA.inR hA.cR;obtain ⟨d1,d2,d3⟩:=zQ tS;obtain ⟨d4,d5,d6⟩:=zQ tR;have hu:(det a b u<=det a b w.1/\det a b w.2<=det a b u)/\(det a b u < det a b w.1\/det a b w.2 < det a b u)/\(det a b u=0\/(0 < det a b u\/det a b u < 0)):=by
  rcases hl with rfl | ⟨A0,p,rfl,hup⟩
  ·have eu:u=a:=hA.first h hp1;rw [eu,za];omega
  ·have hxp:=hx p (by simp);have pl:=hxp.left;have pr:=hxp.right;obtain ⟨_,k2⟩:=Z7.1 hp1;rcases hA.ahead h k2 with rfl | rfl <;> simp only at pl pr
   ·rcases hup with ⟨_,k⟩ | ⟨k,_⟩
    ·simp only at k;omega
    ·exact absurd rfl k
   ·rcases hup with ⟨k,_⟩ | ⟨_,k⟩
    ·exact absurd k d6
    ·simp only at k;omega
 cases B with
 | nil=>
  exfalso
  have ev:v=b:=hA.last h hq1;refine ho (uY wl wr tS tR (by omega) (by rw [ev,zb];omega) (by rw [ev,zb];omega) (by omega) (by rw [ev,zb];omega) (by rw [ev,zb];omega))
 | cons q B0=>
  refine ⟨q,B0,rfl,QL λhn=>?_⟩;have hxq:=hx q (by simp);have ql:=hxq.left;have qr:=hxq.right;obtain ⟨j1,_⟩:=kS.1 hq1;rcases hA.behind h j1 with rfl | rfl <;> simp only at ql qr
  ·have:¬ det a b w.1<=det a b v:=λk=>hn (.inl ⟨rfl,k⟩);exact ho (uY wl wr tS tR (by omega) (by omega) (by omega) (by omega) (by omega) (by omega))
  ·have:¬ det a b v<=det a b w.2:=λk=>hn (.inr ⟨d2,k⟩);exact ho (uY wl wr tS tR (by omega) (by omega) (by omega) (by omega) (by omega) (by omega))
theorem kh {α:Type} {w:α}:∀ {A A' B B':List α},(A ++ w :: B).Nodup->A ++ w :: B=A' ++ w :: B'->A=A'/\B=B'
 | [],[],B,B',_,h=>⟨rfl,(Qu h).2⟩
 | [],x :: A',B,B',hd,h=>by
  obtain ⟨e1,e2⟩:=Qu h;simp only [Jz,Jf] at hd;exact absurd (by rw [e2];simp:w∈B) hd.1
 | x :: A,[],B,B',hd,h=>by
  obtain ⟨e1,e2⟩:=Qu h;rw [Jw,Jf] at hd;exact absurd (by rw [e1];simp:x∈A ++ w :: B) hd.1
 | x :: A,y :: A',B,B',hd,h=>by
  obtain ⟨e1,e2⟩:=Qu h;rw [Jw,Jf] at hd;obtain ⟨k1,k2⟩:=kh hd.2 e2;exact ⟨by rw [e1,k1],k2⟩
def Pot (a b:Pt) (P R:List (Pt×Pt)) (n:Nat):Prop:=
 (∃ A x y B X Y Z,P=A ++ x :: y :: B/\up a b x y/\R=X ++ y :: (Y ++ x :: Z)/\(B.length+1) * P.length+X.length<=n) \/
 (∃ p P' X Z,P=p :: P'/\R=X ++ p :: Z/\P.length * P.length+X.length<=n)
theorem KJ {a b:Pt} {P R:List (Pt×Pt)} (h:R.Perm P) (hP:P≠[]):Pot a b P R (P.length * P.length+(P.length - 1)):=by
 cases P with
 | nil=>exact absurd rfl hP
 | cons p P'=>
  obtain ⟨X,Z,e⟩:=Qy (h.mem_iff.2 (JT (a:=p) (l:=P')));refine .inr ⟨p,P',X,Z,rfl,e,?_⟩;have:=h.length_eq;rw [e] at this;simp at this;simp;omega
theorem later {P R:List (Pt×Pt)} {y q:Pt×Pt} (h:(y :: R).Perm P) (hq:q∈P) (hn:q≠y):∃ X Y,R=X ++ q :: Y/\X.length+2<=P.length:=by
 rcases J1.1 (h.mem_iff.2 hq) with k | k
 ·exact absurd k hn
 ·obtain ⟨X,Y,e⟩:=Qy k;refine ⟨X,Y,e,?_⟩;have:=h.length_eq;rw [e] at this;simp at this;omega
theorem pot_stay {a b:Pt} {P R:List (Pt×Pt)} {w:Pt×Pt} {n:Nat} (hd:P.Nodup) (hp:(w :: R).Perm P) (hs:∀ A B,P=A ++ w :: B->(A=[]\/∃ A0 p,A=A0 ++ [p]/\up a b p w)->∃ q B0,B=q :: B0/\up a b w q) (h:Pot a b P (w :: R) n):∃ m,n=m+1/\Pot a b P (R ++ [w]) m:=by
 rcases h with ⟨A,x,y,B,X,Y,Z,e1,hu,e2,hn⟩ | ⟨p,P',X,Z,e1,e2,hn⟩
 ·cases X with
  | nil=>
   obtain ⟨rfl,e3⟩:=Qu e2;obtain ⟨q,B0,rfl,hq⟩:=hs (A ++ [x]) B (by rw [e1];simp) (.inr ⟨A,x,rfl,hu⟩);have nq:q≠w:=λk=>by
    rw [e1,k] at hd;have:=(Jg.1 hd).2.1;simp at this
   obtain ⟨X',Y',e4,l4⟩:=later hp (by rw [e1];simp:q∈P) nq;have e5:(B0.length+1+1) * P.length=(B0.length+1) * P.length+P.length:=US _ _;simp only [JW,Qs] at hn;rw [e5] at hn;exact ⟨n - 1,by omega,.inl ⟨A ++ [x],w,q,B0,X',Y',[],by rw [e1];simp,hq,by rw [e4];simp,by omega⟩⟩
  | cons z X=>
   obtain ⟨rfl,e3⟩:=Qu e2;simp only [JW] at hn;exact ⟨n - 1,by omega,.inl ⟨A,x,y,B,X,Y,Z ++ [w],e1,hu,by rw [e3];simp,by omega⟩⟩
 ·cases X with
  | nil=>
   obtain ⟨rfl,e3⟩:=Qu e2;obtain ⟨q,B0,rfl,hq⟩:=hs [] P' e1 (.inl rfl);have nq:q≠w:=λk=>by
    rw [e1,k] at hd;simp at hd
   obtain ⟨X',Y',e4,l4⟩:=later hp (by rw [e1];simp:q∈P) nq;have lp:P.length=B0.length+1+1:=by rw [e1];simp
   have e5:(B0.length+1+1) * P.length=(B0.length+1) * P.length+P.length:=US _ _;have e6:P.length * P.length=(B0.length+1) * P.length+P.length:=by rw [<-e5,<-lp]
   simp only [Qs] at hn;exact ⟨n - 1,by omega,.inl ⟨[],w,q,B0,X',Y',[],e1,hq,by rw [e4];simp,by omega⟩⟩
  | cons z X=>
   obtain ⟨rfl,e3⟩:=Qu e2;simp only [JW] at hn;exact ⟨n - 1,by omega,.inr ⟨p,P',X,Z ++ [w],e1,by rw [e3];simp,by omega⟩⟩
theorem pot_swap {a b:Pt} {R A0 B0:List (Pt×Pt)} {p w q f:Pt×Pt} {n:Nat} (hd:(A0 ++ p :: w :: q :: B0).Nodup) (hp:(w :: R).Perm (A0 ++ p :: w :: q :: B0)) (h1:up a b f q↔up a b p w) (h:Pot a b (A0 ++ p :: w :: q :: B0) (w :: R) n):∃ m,n=m+1/\Pot a b (A0 ++ p :: f :: q :: B0) (R ++ [f]) m:=by
 classical
 have hd2:=Jg.1 hd;have hd3:=hd2.2.1;simp only [Jf,J1,UG] at hd3;have wA:∀ e∈A0,e≠w:=λe he=>hd2.2.2 e he w (by simp);have wB:∀ e∈B0,e≠w:=λe he k=>hd3.2.1.2 (k▸he);obtain ⟨σ,hσ⟩:∃ σ:Pt×Pt->Pt×Pt,σ=λe=>if e=w then f else e:=⟨_,rfl⟩
 have s1:σ w=f:=by rw [hσ];simp
 have s2:∀ e,e≠w->σ e=e:=λe he=>by rw [hσ];simp [he]
 have s3:∀ l:List (Pt×Pt),(∀ e∈l,e≠w)->l.map σ=l:=λl hl=>by
  have:l.map σ=l.map id:=List.map_congr_left λe he=>s2 e (hl e he);rw [this,List.map_id]
 have sP:(A0 ++ p :: w :: q :: B0).map σ=A0 ++ p :: f :: q :: B0:=by
  rw [QC,Jm,Jm,Jm,s1,s2 p hd3.1.1,s2 q (λk=>hd3.2.1.1 k.symm),s3 A0 wA,s3 B0 wB]
 have sl:(A0 ++ p :: f :: q :: B0).length=(A0 ++ p :: w :: q :: B0).length:=by simp
 generalize hP:A0 ++ p :: w :: q :: B0=P at *
 rcases h with ⟨A,x,y,B,X,Y,Z,e1,hu,e2,hn⟩ | ⟨p',P',X,Z,e1,e2,hn⟩
 ·have hdx:=hd;rw [e1] at hdx;have hdx2:=(Jg.1 hdx).2.1;simp only [Jf,J1,UG] at hdx2;cases X with
  | nil=>
   obtain ⟨rfl,e3⟩:=Qu e2;have e4:(A0 ++ [p]) ++ w :: (q :: B0)=(A ++ [x]) ++ w :: B:=by rw [JL,JL];simp only [Jw,Jz];rw [hP,e1]
   obtain ⟨k1,k2⟩:=kh (by rw [JL];simp only [Jw,Jz];rw [hP];exact hd) e4;obtain ⟨k3,k4⟩:=List.append_inj' k1 rfl;have k5:p=x:=(Qu k4).1;obtain ⟨X',Y',e5,l5⟩:=later hp (by rw [<-hP];simp:q∈P) (λk=>hd3.2.1.1 k.symm);have e6:(B0.length+1+1) * P.length=(B0.length+1) * P.length+P.length:=US _ _;rw [<-k2] at hn;simp only [JW,Qs] at hn;rw [e6] at hn;refine ⟨n - 1,by omega,.inl ⟨A0 ++ [p],f,q,B0,X',Y',[],by simp,h1.2 (by rw [k5];exact hu),by rw [e5];simp,by rw [sl];omega⟩⟩
  | cons z X=>
   obtain ⟨rfl,e3⟩:=Qu e2;have hr:w ∉ R:=λk=>by
    have:=hp.nodup_iff.2 hd;rw [Jf] at this;exact this.1 k
   have nx:x≠w:=λk=>hr (by rw [e3,k];simp);have ny:y≠w:=λk=>hr (by rw [e3,k];simp);simp only [JW] at hn;refine ⟨n - 1,by omega,.inl ⟨A.map σ,x,y,B.map σ,X,Y,Z ++ [f],?_,hu,by rw [e3];simp,by rw [sl,Qz];omega⟩⟩;rw [<-sP,e1,QC,Jm,Jm,s2 x nx,s2 y ny]
 ·cases X with
  | nil=>
   exfalso
   obtain ⟨rfl,e3⟩:=Qu e2;have e4:(A0 ++ [p]) ++ w :: (q :: B0)=[] ++ w :: P':=by rw [JL];simp only [Jw,Jz];rw [hP,e1]
   obtain ⟨k1,_⟩:=kh (by rw [JL];simp only [Jw,Jz];rw [hP];exact hd) e4;simp at k1
  | cons z X=>
   obtain ⟨rfl,e3⟩:=Qu e2;have hr:w ∉ R:=λk=>by
    have:=hp.nodup_iff.2 hd;rw [Jf] at this;exact this.1 k
   have nx:p'≠w:=λk=>hr (by rw [e3,k];simp);simp only [JW] at hn;refine ⟨n - 1,by omega,.inr ⟨p',P'.map σ,X,Z ++ [f],?_,by rw [e3];simp,by rw [sl];omega⟩⟩;rw [<-sP,e1,Jm,s2 p' nx]
def turns:Nat->Nat
 | 0=>0
 | k+1=>(k+1) * (k+1)+(k+1)+turns k
theorem turns_mono {k m:Nat} (h:k<=m):turns k<=turns m:=by
 induction m with
 | zero=>rw [Nat.le_zero.1 h];exact JJ _
 | succ m ih=>
  rcases Nat.lt_or_eq_of_le h with h | h
  ·have:=ih (by omega);have e:turns (m+1)=(m+1) * (m+1)+(m+1)+turns m:=rfl;rw [e];omega
  ·rw [h];exact JJ _
theorem tj {p q:Pt} (h:p≠q):(cmpP p q < 0/\¬ cmpP q p < 0)\/(cmpP q p < 0/\¬ cmpP p q < 0):=by
 have h0:cmpP p q≠0:=λe=>h (zP.1 e);have:=zl p q;omega
theorem Ym {p q:Pt} (h:p≠q):rl q p=rl p q/\rg q p=rg p q:=by
 unfold rl rg;rcases tj h with ⟨h1,h2⟩ | ⟨h1,h2⟩
 ·simp [h1,h2]
 ·simp [h1,h2]
theorem rlg_less {p q:Pt} (h:p≠q):cmpP (rl p q) (rg p q) < 0:=by
 unfold rl rg;rcases tj h with ⟨h1,h2⟩ | ⟨h1,h2⟩
 ·simp [h1]
 ·simp [h1,h2]
def nrm (e:Pt×Pt):Wl:=⟨rl e.1 e.2,rg e.1 e.2,0⟩
theorem jH (e:Pt×Pt):nrm e=⟨e.1,e.2,0⟩\/nrm e=⟨e.2,e.1,0⟩:=by
 unfold nrm;rcases Zf e.1 e.2 with ⟨h1,h2⟩ | ⟨h1,h2⟩
 ·rw [h1,h2];exact .inl rfl
 ·rw [h1,h2];exact .inr rfl
theorem Z9 {p q:Pt} (h:p≠q):nrm (q,p)=nrm (p,q):=by
 unfold nrm;rw [(Ym h).1,(Ym h).2]
theorem Crs.apart {a b l r:Pt} (h:Crs a b l r):l≠r:=λe=>by
 have:=h.left;have:=h.right;rw [e] at *;omega
theorem ZQ {a b l r:Pt} (va:vld a) (vb:vld b) (vl:vld l) (vr:vld r) (h:Crs a b l r):meetR a b l r=1:=by
 rw [kP];have e1:det l r a = - det r l a:=by unfold det;grind
 have:=h.left;have:=h.right;have:=h.back;have:=h.front;exact ⟨⟨va,vb,vl,vr⟩,by omega,by omega⟩
theorem XC {a b c d:Pt} (h:meetR a b c d=1):Crs a b c d\/Crs a b d c:=by
 rw [kP] at h;obtain ⟨_,h1,h2⟩:=h;have e1:det d c a = - det c d a:=by unfold det;grind
 have e2:det d c b = - det c d b:=by unfold det;grind
 have e3:det d c a+det c d b=det a b c - det a b d:=by unfold det;grind
 rcases h1 with ⟨k1,k2⟩ | ⟨k1,k2⟩ <;> rcases h2 with ⟨j1,j2⟩ | ⟨j1,j2⟩
 ·omega
 ·exact .inl ⟨k1,k2,by omega,by omega⟩
 ·exact .inr ⟨k2,k1,by omega,by omega⟩
 ·omega
theorem XS {W H:Int} (hW:W < 16777216) (hH:H < 16777216) {E:Es} {L:List Tri3} (g:Good E L) (t:Tiles W H L) {p q c d:Pt} {S R:Tri3} (mS:S∈L) (mR:R∈L) (cS:Cyc S p q c) (cR:Cyc R q p d):(getE E (p,q)=some S/\getE E (q,p)=some R)/\(apx S p q=c/\apx R p q=d)/\(0 < det c p d/\0 < det d q c->(flipD E p q).1=0/\∃ U V L',Good (flipD E p q).2 L'/\Tiles W H L'/\(∀ T∈L,T≠S->T≠R->T∈L')/\U∈L'/\V∈L'/\Cyc U c p d/\Cyc V d q c)/\(¬ (0 < det c p d/\0 < det d q c)->flipD E p q=(2,E)):=by
 have h0:=g.get.2 ⟨mS,cS.way⟩;have h1:=g.get.2 ⟨mR,cR.way⟩;have p1:=t.cyc_pos mS cS;have p2:=t.cyc_pos mR cR;obtain ⟨n1,n2,n3⟩:=zQ p1;obtain ⟨m1,m2,m3⟩:=zQ p2;have e1:apx S p q=c:=(qA cS n1 n2 n3).1;have e2:apx R p q=d:=(qA cR m1 m2 m3).2;obtain ⟨_,_,_,vp,vq,vc,vd⟩:=qP g h0 h1;rw [e1] at vc;rw [e2] at vd;have hs:=xM h0 h1;rw [e1,e2] at hs;have d1:det p d c=det c p d:=by unfold det;grind
 have o1:=qI vp vd vc;rw [d1] at o1;have o2:=qI vd vq vc;refine ⟨⟨h0,h1⟩,⟨e1,e2⟩,λk=>?_,λk=>?_⟩
 ·have he:=g.get_none.2 (t.no_diag mS cS k.1 k.2);have hf:=g.get_none.2 (t.no_diag mR cR k.2 k.1);obtain ⟨_,M,pM,g'⟩:=xg g h0 h1 e1 e2 (o1.2 k.1) (o2.2 k.2) he hf;rw [JH ⟨o1.2 k.1,o2.2 k.2,he,hf⟩] at hs;rw [hs];have f:Flp (λ_ _=>False) L S R M p q c d:=⟨pM,cS,cR,⟨id,id⟩,k.1,k.2⟩;have e:mk p d c=mk c p d:=ZH _ _ _;rw [e] at g' ⊢;obtain ⟨u,v⟩:=f.news t hW hH;refine ⟨rfl,mk c p d,mk d q c,_,g',f.tiles t hW hH,λT hT x y=>?_,by simp,by simp,u.1,v.1⟩;have:=pM.mem_iff.1 hT;simp only [J1] at this;rcases this with h | h | h
  ·exact absurd h x
  ·exact absurd h y
  ·simp [h]
 ·rw [hs,J0 (λj=>k ⟨o1.1 j.1,o2.1 j.2.1⟩)]
theorem ch_in {L:List Tri3} {a b:Pt} {P:List (Pt×Pt)} (hP:Ch L a b none P):∀ e∈P,e∈L.flatMap ways:=by
 intro e he;obtain ⟨X,Y,e1⟩:=Qy he;rw [e1] at hP;have:=(qU.1 hP).2;cases Y with
 | nil=>obtain ⟨T,hT,hc⟩:=this;exact y7 hT hc.way
 | cons f Y=>obtain ⟨⟨T,hT,v',hc,_⟩,_⟩:=this;exact y7 hT hc.way
theorem force_run {W H:Int} (hW:W < 16777216) (hH:H < 16777216) {a b:Pt} (ba:inBox W H a) (bb:inBox W H b):∀ (n:Nat) {E:Es} {L:List Tri3} {P R:List (Pt×Pt)} {m:Nat},Good E L->Tiles W H L->Ch L a b none P->(∀ e∈P,Crs a b e.1 e.2)->P.Nodup->R.Perm P->(P≠[]->Pot a b P R m/\m+1+turns (P.length - 1)<=n)->∃ L',Good (forceR a b n E (R.map nrm)).1 L'/\Tiles W H L'/\((a,b)∈L'.flatMap ways\/(b,a)∈L'.flatMap ways):=by
 have vb:∀ q,inBox W H q->vld q=true:=λq hq=>by rw [zh];unfold inBox at hq;omega
 intro n;induction n with
 | zero=>
  intro E L P R m g t hP hx hd hR hm;by_cases h0:P=[]
  ·subst h0;rw [hR.eq_nil];exact ⟨L,g,t,hP⟩
  ·have:=(hm h0).2;omega
 | succ n ih=>
  intro E L P R m g t hP hx hd hR hm;by_cases h0:P=[]
  ·subst h0;rw [hR.eq_nil];exact ⟨L,g,t,hP⟩
  obtain ⟨hpot,hfu⟩:=hm h0;clear hm;cases R with
  | nil=>exact absurd hR.symm.eq_nil h0
  | cons w R=>
   have hw:w∈P:=hR.mem_iff.1 (by simp);obtain ⟨A,B,rfl⟩:=Qy hw;have cw:=hx w hw;have iw:=ch_in hP w hw;obtain ⟨S,mS,wS⟩:=JO.1 iw;obtain ⟨v,cS⟩:=yd (a:=w.1) (b:=w.2) wS;obtain ⟨T,mT,wT⟩:=JO.1 ((t.other ba bb cw).1 iw);obtain ⟨u,cT⟩:=yd wT;have hA:At L w S T u v:=⟨mS,mT,cS,cT⟩;have nuv:u≠v:=λe=>by
    have p1:=t.cyc_pos mS cS;have p2:=t.cyc_pos mT cT;rw [e] at p2;have e3:det w.2 w.1 v = - det w.1 w.2 v:=by unfold det;grind
    omega
   have X : ∃ S0 R0, (getE E ((nrm w).A, (nrm w).B) = some S0 /\ getE E ((nrm w).B, (nrm w).A) = some R0) /\ ((apx S0 (nrm w).A (nrm w).B = v /\ apx R0 (nrm w).A (nrm w).B = u) \/ (apx S0 (nrm w).A (nrm w).B = u /\ apx R0 (nrm w).A (nrm w).B = v)) /\
       (0 < det v w.1 u/\0 < det u w.2 v->(flipD E (nrm w).A (nrm w).B).1=0/\∃ U V L',Good (flipD E (nrm w).A (nrm w).B).2 L'/\Tiles W H L'/\(∀ X∈L,X≠S->X≠T->X∈L')/\U∈L'/\V∈L'/\Cyc U v w.1 u/\Cyc V u w.2 v) /\
       (¬ (0 < det v w.1 u/\0 < det u w.2 v)->flipD E (nrm w).A (nrm w).B=(2,E)):=by
    rcases jH w with e | e <;> rw [e]
    ·obtain ⟨k1,k2,k3,k4⟩:=XS hW hH g t mS mT cS cT;exact ⟨S,T,k1,.inl k2,k3,k4⟩
    ·obtain ⟨k1,k2,k3,k4⟩:=XS hW hH g t mT mS cT cS;refine ⟨T,S,k1,.inr k2,λk=>?_,λk=>k4 (λj=>k ⟨j.2,j.1⟩)⟩;obtain ⟨j1,U,V,L',j2,j3,j4,j5,j6,j7,j8⟩:=k3 ⟨k.2,k.1⟩;exact ⟨j1,V,U,L',j2,j3,λX hX x y=>j4 X hX y x,j6,j5,j8,j7⟩
   obtain ⟨S0,R0,⟨h1,h2⟩,hap,hyes,hno⟩:=X;have hs:=kM (a:=a) (b:=b) (Q:=R.map nrm) h1 h2;show ∃ L',Good (forceR a b n (fstep a b E (nrm w) (R.map nrm)).1 (fstep a b E (nrm w) (R.map nrm)).2).1 L'/\_;by_cases o:0 < det v w.1 u/\0 < det u w.2 v
   ·obtain ⟨k1,U,V,L',g',t',hk,hU,hV,cU,cV⟩:=hyes o;rw [J0 (by rw [k1];simp)] at hs;have bu:=t.cyc_box mT cT.turn.turn;have bv:=t.cyc_box mS cS.turn.turn;rcases Ch.flip t hP hx hd hA hk hU hV cU cV o.1 o.2 with ⟨A0,p,q,B0,f,rfl,rfl,hf,cf,hP',nf,_,hup⟩ | ⟨hnc,hP'⟩
    ·have hmt : meetR a b (apx S0 (nrm w).A (nrm w).B) (apx R0 (nrm w).A (nrm w).B) = 1 /\ (⟨rl (apx S0 (nrm w).A (nrm w).B) (apx R0 (nrm w).A (nrm w).B), rg (apx S0 (nrm w).A (nrm w).B) (apx R0 (nrm w).A (nrm w).B), 0⟩ : Wl) = nrm f := by
       have muv:meetR a b u v=1/\nrm (u,v)=nrm f:=by
        rcases hf with rfl | rfl
        ·exact ⟨ZQ (vb _ ba) (vb _ bb) (vb _ bu) (vb _ bv) cf,rfl⟩
        ·exact ⟨kI (ZQ (vb _ ba) (vb _ bb) (vb _ bv) (vb _ bu) cf),Z9 nuv.symm⟩
       rcases hap with ⟨x1,x2⟩ | ⟨x1,x2⟩ <;> rw [x1,x2]
       ·exact ⟨kI muv.1,(Z9 nuv).trans muv.2⟩
       ·exact muv
     rw [JH hmt.1,hmt.2] at hs;rw [hs];have em:R.map nrm ++ [nrm f]=(R ++ [f]).map nrm:=by simp
     rw [em];have e1:(A0 ++ [p]) ++ w :: q :: B0=A0 ++ p :: w :: q :: B0:=by simp
     have e2:(A0 ++ [p]) ++ f :: q :: B0=A0 ++ p :: f :: q :: B0:=by simp
     rw [e1] at hd hR hpot nf hx hfu;rw [e2] at hP';obtain ⟨m',rfl,hpot'⟩:=pot_swap hd hR hup hpot;have hR':(R ++ [f]).Perm (A0 ++ p :: f :: q :: B0):=by
      have k:R.Perm (A0 ++ p :: q :: B0):=by
       have k0:(A0 ++ p :: w :: q :: B0).Perm (w :: (A0 ++ p :: q :: B0)):=by
        have:=QM (a:=w) (l₁:=A0 ++ [p]) (l₂:=q :: B0)
        simpa using this
       exact (hR.trans k0).cons_inv
      have k0:(A0 ++ p :: f :: q :: B0).Perm (f :: (A0 ++ p :: q :: B0)):=by
       have:=QM (a:=f) (l₁:=A0 ++ [p]) (l₂:=q :: B0)
       simpa using this
      exact ((List.perm_append_singleton f R).trans (k.cons f)).trans k0.symm
     have hx':∀ e∈A0 ++ p :: f :: q :: B0,Crs a b e.1 e.2:=λe he=>by
      simp only [JM,J1] at he;rcases he with he | he | he | he
      ·exact hx e (by simp [he])
      ·exact hx e (by simp [he])
      ·rw [he];exact cf
      ·exact hx e (by simp only [JM,J1];exact .inr (.inr (.inr he)))
     have hd':(A0 ++ p :: f :: q :: B0).Nodup:=by
      have k0:(A0 ++ p :: f :: q :: B0).Perm (f :: (A0 ++ p :: q :: B0)):=by
       have:=QM (a:=f) (l₁:=A0 ++ [p]) (l₂:=q :: B0)
       simpa using this
      have k1:(A0 ++ p :: w :: q :: B0).Perm (w :: (A0 ++ p :: q :: B0)):=by
       have:=QM (a:=w) (l₁:=A0 ++ [p]) (l₂:=q :: B0)
       simpa using this
      have k2:=k1.nodup_iff.1 hd;rw [Jf] at k2;exact k0.nodup_iff.2 (Jf.2 ⟨λk=>nf (k1.mem_iff.2 (JN _ k)),k2.2⟩)
     refine ih g' t' hP' hx' hd' hR' (m:=m') (λ_=>⟨hpot',?_⟩);have el:(A0 ++ p :: f :: q :: B0).length=(A0 ++ p :: w :: q :: B0).length:=by simp
     rw [el];omega
    ·have hmt : ¬ meetR a b (apx S0 (nrm w).A (nrm w).B) (apx R0 (nrm w).A (nrm w).B) = 1 := λk => by
       have muv:meetR a b u v=1:=by
        rcases hap with ⟨x1,x2⟩ | ⟨x1,x2⟩ <;> rw [x1,x2] at k
        ·exact kI k
        ·exact k
       exact hnc (by have:=(kP.1 muv).2.1;omega)
     rw [J0 hmt] at hs;rw [hs];have k1:(A ++ w :: B).Perm (w :: (A ++ B)):=QM;have hR':R.Perm (A ++ B):=(hR.trans k1).cons_inv;have hd':=k1.nodup_iff.1 hd;rw [Jf] at hd';have hx':∀ e∈A ++ B,Crs a b e.1 e.2:=λe he=>hx e (k1.mem_iff.2 (JN _ he));refine ih g' t' hP' hx' hd'.2 hR' (m:=(A ++ B).length * (A ++ B).length+((A ++ B).length - 1)) (λhne=>⟨KJ hR' hne,?_⟩);have el:(A ++ w :: B).length=(A ++ B).length+1:=by simp;omega
     rw [el] at hfu;obtain ⟨z,hz⟩:∃ z,(A ++ B).length=z+1:=⟨(A ++ B).length - 1,by have:=VK.2 hne;omega⟩;rw [hz] at hfu ⊢;have et:turns (z+1)=(z+1) * (z+1)+(z+1)+turns z:=rfl;simp only [Nat.add_sub_cancel] at hfu ⊢;omega
   ·have hf:=hno o;rw [hf,JH (by simp)] at hs;rw [hs];have em:R.map nrm ++ [nrm w]=(R ++ [w]).map nrm:=by simp
    simp only [em];have hst:∀ A' B',A ++ w :: B=A' ++ w :: B'->(A'=[]\/∃ A0 p,A'=A0 ++ [p]/\up a b p w)->∃ q B0,B'=q :: B0/\up a b w q:=λA' B' e hl=>by
     rw [e] at hP hx;exact Ch.stays t hP hx hA o hl
    obtain ⟨m',rfl,hpot'⟩:=pot_stay hd hR hst hpot;refine ih g t hP hx hd ((List.perm_append_singleton w R).trans hR) (m:=m') (λ_=>⟨hpot',by omega⟩)
theorem uO {α:Type} [DecidableEq α]:∀ {l m:List α},l.Nodup->(∀ x∈l,x∈m)->l.length<=m.length
 | [],_,_,_=>Jl _
 | x :: l,m,hd,h=>by
  rw [Jf] at hd;have hx:=h x (by simp);have k:=uO (l:=l) (m:=m.erase x) hd.2 (λy hy=>(U8 (λe:y=x=>hd.1 (by rw [<-e];exact hy))).2 (h y (JN _ hy)));rw [List.length_erase_of_mem hx] at k;have:=Vi hx;simp;omega
theorem XD {α β:Type} {f:α->β}:∀ {Q:List β} {P:List α},Q.Perm (P.map f)->∃ R:List α,R.Perm P/\Q=R.map f
 | [],P,h=>⟨[],by have:=h.symm.eq_nil;simp at this;rw [this],rfl⟩
 | x :: Q,P,h=>by
  obtain ⟨p,hp,rfl⟩:=JS.1 (h.mem_iff.1 (JT (a:=x) (l:=Q)));obtain ⟨A,B,rfl⟩:=Qy hp;have k:(A ++ p :: B).Perm (p :: (A ++ B)):=QM;obtain ⟨R,h1,h2⟩:=XD (Q:=Q) (P:=A ++ B) ((h.trans (k.map f)).cons_inv);exact ⟨p :: R,(h1.cons p).trans k.symm,by rw [h2];rfl⟩
theorem cross_perm {W H:Int} (hW:W < 16777216) (hH:H < 16777216) {a b:Pt} (ba:inBox W H a) (bb:inBox W H b) {E:Es} {L:List Tri3} (g:Good E L) (t:Tiles W H L) {P:List (Pt×Pt)} (hP:Ch L a b none P) (hx:∀ e∈P,Crs a b e.1 e.2) (hd:P.Nodup) (hall:∀ e:Pt×Pt,Crs a b e.1 e.2->e∈L.flatMap ways->e∈P):(crossD a b E).Perm (P.map nrm):=by
 have vb:∀ q,inBox W H q->vld q=true:=λq hq=>by rw [zh];unfold inBox at hq;omega
 have inE:∀ {w:Pt×Pt},w∈L.flatMap ways->∃ T,(w,T)∈E:=λ{w} hw=>by
  obtain ⟨T,hT,k⟩:=JO.1 hw;exact ⟨T,g.perm.mem_iff.2 (kw.2 ⟨hT,k⟩)⟩
 have ofE:∀ {w:Pt×Pt} {T:Tri3},(w,T)∈E->w∈L.flatMap ways:=λ{w T} hw=>by
  obtain ⟨k1,k2⟩:=kw.1 (g.perm.mem_iff.1 hw);exact y7 k1 k2
 have bx:∀ {w:Pt×Pt},w∈L.flatMap ways->inBox W H w.1/\inBox W H w.2:=λ{w} hw=>by
  obtain ⟨T,hT,k⟩:=JO.1 hw;obtain ⟨c,hc⟩:=yd (a:=w.1) (b:=w.2) k;exact ⟨t.cyc_box hT hc,t.cyc_box hT hc.turn⟩
 refine (V2 ?_ ?_).2 λx=>⟨λh=>?_,λh=>?_⟩
 ·unfold crossD;unfold List.Nodup;rw [List.pairwise_filterMap];have hk:E.Pairwise (λe f=>e.1≠f.1):=Vx.1 g.nodup;refine hk.imp λ{e f} hne x hx y hy e1=>hne ?_;split at hx
  ·split at hy
   ·simp only [Qi] at hx hy;rw [<-hx,<-hy] at e1;simp only [Wl.mk.injEq,Vs] at e1;exact UT e1.1 e1.2
   ·cases hy
  ·cases hx
 ·unfold List.Nodup;rw [Vx];refine List.Pairwise.imp_of_mem (λ{e f} he hf hne h=>hne ?_) hd;have ce:=hx e he;have cf:=hx f hf;rcases jH e with k | k <;> rcases jH f with j | j <;> rw [k,j] at h <;> simp only [Wl.mk.injEq,Vs] at h
  ·exact UT h.1 h.2
  ·have:=ce.left;have:=cf.right;rw [h.1] at *;omega
  ·have:=cf.left;have:=ce.right;rw [h.1] at *;omega
  ·exact UT h.2 h.1
 ·obtain ⟨h0,h1,h2,T,h3⟩:=qS h;have hw:=ofE h3;have e0:nrm (x.A,x.B)=x:=by
   unfold nrm rl rg;simp only [h1,VZ];rw [<-h0]
  rcases XC h2 with k | k
  ·exact JS.2 ⟨(x.A,x.B),hall _ k hw,e0⟩
  ·refine JS.2 ⟨(x.B,x.A),hall _ k ((t.other ba bb k).2 hw),?_⟩;rw [Z9 k.apart.symm,e0]
 ·obtain ⟨e,he,rfl⟩:=JS.1 h;have ce:=hx e he;have hw:=ch_in hP e he;obtain ⟨b1,b2⟩:=bx hw;have m1:=ZQ (vb _ ba) (vb _ bb) (vb _ b1) (vb _ b2) ce;have hw2:((nrm e).A,(nrm e).B)∈L.flatMap ways:=by
   rcases jH e with k | k <;> rw [k]
   ·exact hw
   ·exact (t.other ba bb ce).1 hw
  obtain ⟨T,hT⟩:=inE hw2;unfold crossD;refine VR.2 ⟨_,hT,?_⟩;have k1:cmpP (nrm e).A (nrm e).B < 0:=rlg_less ce.apart;have k2:meetR a b (nrm e).A (nrm e).B=1:=X9 m1;simp only [k1,k2,decide_true,Bool.and_self,VZ];rfl
theorem force_edge {W H:Int} (hW0:0 < W) (hH0:0 < H) (hW:W < 16777216) (hH:H < 16777216) {a b:Pt} (hab:a≠b) {E:Es} {L:List Tri3} (g:Good E L) (t:Tiles W H L) (hn:L.length<=94) (hB:Bare L a b) (ha:someC L a) (hb:someC L b) {Q:List Wl} (hQ:Q.Perm (crossD a b E)):∃ L',Good (forceR a b capN E Q).1 L'/\Tiles W H L'/\((a,b)∈L'.flatMap ways\/(b,a)∈L'.flatMap ways):=by
 have inb:∀ {p},someC L p->inBox W H p:=λ{p} ⟨T,hT,hc⟩=>by
  obtain ⟨y,z,k⟩:=qo hc;exact t.cyc_box hT k
 have ba:=inb ha;have bb:=inb hb;obtain ⟨P,hP,hx,hd,hall⟩:=t.channel hW0 hH0 hab hB ha hb;obtain ⟨R,hR,rfl⟩:=XD (hQ.trans (cross_perm hW hH ba bb g t hP hx hd hall));have hlen:P.length<=141:=by
  have k:=uO (l:=P ++ P.map (λe=>(e.2,e.1))) (m:=L.flatMap ways) (by
   rw [Jg];refine ⟨hd,?_,λe he f hf k=>?_⟩
   ·unfold List.Nodup;rw [Vx];refine hd.imp λ{e f} hne h=>hne ?_;simp only [Jt] at h;exact UT h.2 h.1
   ·obtain ⟨f0,hf0,rfl⟩:=JS.1 hf;have:=(hx e he).left;have:=(hx f0 hf0).right;rw [k] at *;simp only at *;omega) (λe he=>by
   rcases JM.1 he with he | he
   ·exact ch_in hP e he
   ·obtain ⟨f,hf,rfl⟩:=JS.1 he;exact (t.other ba bb (hx f hf)).1 (ch_in hP f hf))
  have e:(L.flatMap ways).length=3 * L.length:=by
   rw [<-jR,Qz,Ya]
  rw [e] at k;simp at k;omega
 refine force_run hW hH ba bb capN g t hP hx hd hR (m:=P.length * P.length+(P.length - 1)) (λhne=>⟨KJ hR hne,?_⟩);obtain ⟨z,hz⟩:∃ z,P.length=z+1:=⟨P.length - 1,by have:=VK.2 hne;omega⟩;have et:turns (z+1)=(z+1) * (z+1)+(z+1)+turns z:=rfl;have hm:turns (z+1)<=turns 141:=turns_mono (by omega);have ht:turns 141<=capN:=by decide +kernel
 rw [hz];simp only [Nat.add_sub_cancel];omega
def edgeL (L:List Tri3) (a b:Pt):Prop:=(a,b)∈L.flatMap ways\/(b,a)∈L.flatMap ways
theorem edgeL.turn {L:List Tri3} {a b:Pt} (h:edgeL L a b):edgeL L b a:=h.elim .inr .inl
theorem uf (a b q:Pt):det a b q=ff (-(b.y - a.y)) (b.x - a.x) q - ff (-(b.y - a.y)) (b.x - a.x) a:=by unfold det ff;grind
theorem K4 {T:Tri3} {x y z p:Pt} (hc:Cyc T x y z) (hp:0 < det x y z) (ho:onS p x y):hasT T p:=by
 obtain ⟨n1,n2,n3⟩:=zQ hp;have hz:det x y p=0:=by
  rw [on_eq] at ho;unfold onR at ho;simp only [JB,JA] at ho;exact ho.2.2.2.1
 have k1:0<=det y z p:=by
  have:=(on_ff (-(z.y - y.y)) (z.x - y.x) n1 ho (m:=ff (-(z.y - y.y)) (z.x - y.x) y)).2 (by
   have e:=uf y z x;have:det y z x=det x y z:=zX x y z;omega) (Vm _)
  have e:=uf y z p;omega
 have k2:0<=det z x p:=by
  have:=(on_ff (-(x.y - z.y)) (x.x - z.x) n1 ho (m:=ff (-(x.y - z.y)) (x.x - z.x) x)).2 (Vm _) (by
   have e:=uf z x y;have e2:det z x y=det x y z:=by unfold det;grind
   have e3:=uf z x x;have e4:det z x x=0:=by unfold det;grind
   omega)
  have e:=uf z x p;have e3:=uf z x x;have e4:det z x x=0:=by unfold det;grind
  omega
 rcases hc with ⟨rfl,rfl,rfl⟩ | ⟨rfl,rfl,rfl⟩ | ⟨rfl,rfl,rfl⟩
 ·exact ⟨by omega,k1,k2⟩
 ·exact ⟨k2,by omega,k1⟩
 ·exact ⟨k1,k2,by omega⟩
section
variable {W H:Int} {L:List Tri3} (h:Tiles W H L)
include h
theorem Tiles.way_of {a b:Pt} (hm:(a,b)∈L.flatMap ways):∃ T∈L,∃ c,Cyc T a b c/\0 < det a b c:=by
 obtain ⟨T,hT,k⟩:=JO.1 hm;obtain ⟨c,hc⟩:=yd k;exact ⟨T,hT,c,hc,h.cyc_pos hT hc⟩
theorem Tiles.corner_in {a b p:Pt} (he:edgeL L a b) (hp:someC L p) (ho:onS p a b):p=a\/p=b:=by
 have main:∀ {a b:Pt},(a,b)∈L.flatMap ways->onS p a b=true->p=a\/p=b:=by
  intro a b hm ho;obtain ⟨T,hT,c,hc,hpos⟩:=h.way_of hm;obtain ⟨S,hS,hcn⟩:=hp;rcases (hc.cnr_iff p).1 (h.cnr_all hS hT hcn (K4 hc hpos ho)) with k | k | k
  ·exact .inl k
  ·exact .inr k
  ·exfalso
   rw [on_eq] at ho;unfold onR at ho;simp only [JB,JA] at ho;have:=ho.2.2.2.1;rw [k] at this;omega
 rcases he with he | he
 ·exact main he ho
 ·refine (main he ?_).symm;rw [on_eq] at ho ⊢;unfold onR btw at ho ⊢;simp only [JB,JA] at ho ⊢;obtain ⟨v1,v2,v3,z,b1,b2⟩:=ho;have:=zW a b p;exact ⟨v1,v3,v2,by omega,by omega,by omega⟩
theorem Tiles.cross_no {a b l r:Pt} (h1:(a,b)∈L.flatMap ways) (h2:(l,r)∈L.flatMap ways) (hx:Crs a b l r):False:=by
 obtain ⟨S,hS,s,cS,pS⟩:=h.way_of h1;obtain ⟨T,hT,u,cT,pT⟩:=h.way_of h2;obtain ⟨hl,hr,hbk,hfr⟩:=hx;have nab:=(zQ pS).1;have hcr:crd a b ⟨r.x - l.x,r.y - l.y⟩=det a b r - det a b l:=by unfold crd det;grind
 obtain ⟨v,v1,v2⟩:=ke (a:=a) (b:=b) (d:=l) (e:=r) nab (λk=>by rw [hcr] at k;omega);have hM:0 < det a b l - det a b r:=by omega
 have mul2:∀ {x y:Int},0 < x->0 < y->0 < x * y:=λh1 h2=>JP h1 h2;obtain ⟨M,eM⟩:∃ M,det a b l - det a b r=M:=⟨_,rfl⟩;rw [eM] at hM;obtain ⟨p,ep⟩:∃ p:Pt,p=⟨det a b l * r.x - det a b r * l.x,det a b l * r.y - det a b r * l.y⟩:=⟨_,rfl⟩;have a1:det (sc M a) (sc M b) p=0:=by rw [ep,<-eM];unfold det sc;grind
 have a2:det (sc M b) (sc M s) p=M * (det l r b * det a b s):=by rw [ep,<-eM];unfold det sc;grind
 have a3:det (sc M s) (sc M a) p=M * (det r l a * det a b s):=by rw [ep,<-eM];unfold det sc;grind
 have b1:det (sc M l) (sc M r) p=0:=by rw [ep,<-eM];unfold det sc;grind
 have b2:det (sc M r) (sc M u) p=M * (-(det a b r) * det l r u):=by rw [ep,<-eM];unfold det sc;grind
 have b3:det (sc M u) (sc M l) p=M * (det a b l * det l r u):=by rw [ep,<-eM];unfold det sc;grind
 have nS:near M S p v:=cS.near ⟨.inr ⟨a1,v1⟩,.inl (by rw [a2];exact mul2 hM (mul2 hfr pS)),.inl (by rw [a3];exact mul2 hM (mul2 hbk pS))⟩;have nT:near M T p v:=cT.near ⟨.inr ⟨b1,v2⟩,.inl (by rw [b2];exact mul2 hM (mul2 (by omega) pT)),.inl (by rw [b3];exact mul2 hM (mul2 hl pT))⟩;have e:=h.same hS hT hM nS nT;subst e;have z1:det a b a=0:=by unfold det;grind
 have z2:det a b b=0:=by unfold det;grind
 have m1:=(cS.cnr_iff l).1 cT.cnr;have m2:=(cS.cnr_iff r).1 cT.turn.cnr;rcases m1 with k | k | k
 ·rw [k] at hl;omega
 ·rw [k] at hl;omega
 ·rcases m2 with j | j | j
  ·rw [j] at hr;omega
  ·rw [j] at hr;omega
  ·rw [k] at hl;rw [j] at hr;omega
theorem Tiles.edge_box {a b:Pt} (he:edgeL L a b):(inBox W H a/\inBox W H b)/\(someC L a/\someC L b)/\a≠b:=by
 have main:∀ {a b:Pt},(a,b)∈L.flatMap ways->(inBox W H a/\inBox W H b)/\(someC L a/\someC L b)/\a≠b:=by
  intro a b hm;obtain ⟨T,hT,c,hc,hpos⟩:=h.way_of hm;exact ⟨⟨h.cyc_box hT hc,h.cyc_box hT hc.turn⟩,⟨⟨T,hT,hc.cnr⟩,T,hT,hc.turn.cnr⟩,(zQ hpos).1⟩
 rcases he with he | he
 ·exact main he
 ·obtain ⟨⟨x1,x2⟩,⟨x3,x4⟩,x5⟩:=main he;exact ⟨⟨x2,x1⟩,⟨x4,x3⟩,x5.symm⟩
theorem Tiles.edges_apart (hW:W < 16777216) (hH:H < 16777216) {a b c d:Pt} (e1:edgeL L a b) (e2:edgeL L c d) (hne:¬ ((a=c/\b=d)\/(a=d/\b=c))):meetS a b c d=0:=by
 have vb:∀ q,inBox W H q->vld q=true:=λq hq=>by rw [zh];unfold inBox at hq;omega
 obtain ⟨⟨ba,bb⟩,⟨ca,cb⟩,nab⟩:=h.edge_box e1;obtain ⟨⟨bc,bd⟩,⟨cc,cd⟩,ncd⟩:=h.edge_box e2;have s:Seg2 a b c d:=⟨vb _ ba,vb _ bb,vb _ bc,vb _ bd,nab,ncd⟩;have other:∀ {l r:Pt},edgeL L l r->Crs a b l r->(l,r)∈L.flatMap ways:=λ{l r} he hx=>by
  rcases he with he | he
  ·exact he
  ·exact (h.other ba bb hx).2 he
 have ncross:∀ {l r:Pt},edgeL L l r->Crs a b l r->False:=λ{l r} he hx=>by
  rcases e1 with k | k
  ·exact h.cross_no k (other he hx) hx
  ·exact h.cross_no k ((h.other ba bb hx).1 (other he hx)) hx.turn
 have inno:∀ {p x y:Pt},edgeL L x y->someC L p->tch p x y=0:=λ{p x y} he hp=>by
  have k:=tch_bd p x y;refine QL λhn=>?_;have ho:=Yf hn;rcases h.corner_in he hp ho with e | e
  ·apply hn;unfold tch;subst e;rw [kD];split <;> simp
  ·apply hn;unfold tch;subst e;rw [kD];(repeat' split) <;> simp_all
 refine QL λhn=>?_;by_cases hl:det a b c=0/\det a b d=0
 ·have hm:mil a b c d≠0:=by rw [<-yI s hl];exact hn
  rw [q8 s] at hm;have hk:min (key a) (key b) < max (key c) (key d)/\min (key c) (key d) < max (key a) (key b):=by
   refine QL λk=>hm ?_;rw [J0 k]
  have hl2:=Zv s hl;have n1:=key_n s;have n2:=key_n2 s;have nk:∀ {p q:Pt},vld p=true->vld q=true->key p=key q->p=q:=λhp hq e=>yj hp hq e;have on1:∀ {p:Pt},vld p=true->det a b p=0->someC L p->¬ (key a < key p/\key p < key b\/key b < key p/\key p < key a):=λ{p} vp hz hp k=>by
   have ho:=qe vp s.va s.vb hz (by omega);rcases h.corner_in e1 hp ho with e | e <;> rw [e] at k <;> omega
  have on2:∀ {p:Pt},vld p=true->det c d p=0->someC L p->¬ (key c < key p/\key p < key d\/key d < key p/\key p < key c):=λ{p} vp hz hp k=>by
   have ho:=qe vp s.vc s.vd hz (by omega);rcases h.corner_in e2 hp ho with e | e <;> rw [e] at k <;> omega
  have q1:=on1 s.vc hl.1 cc;have q2:=on1 s.vd hl.2 cd;have q3:=on2 s.va hl2.1 ca;have q4:=on2 s.vb hl2.2 cb;have:(key a=key c/\key b=key d)\/(key a=key d/\key b=key c):=by omega
  rcases this with ⟨k1,k2⟩ | ⟨k1,k2⟩
  ·exact hne (.inl ⟨nk s.va s.vc k1,nk s.vb s.vd k2⟩)
  ·exact hne (.inr ⟨nk s.va s.vd k1,nk s.vb s.vc k2⟩)
 ·rw [vQ,kJ s hl] at hn;split at hn
  ·rename_i hc
   have h1:meetR a b c d=1:=by rw [kJ s hl,JH hc]
   rcases XC h1 with k | k
   ·exact ncross e2 k
   ·exact ncross e2.turn k
  ·rw [inno e2 ca,inno e2 cb,inno e1 cc,inno e1 cd] at hn;exact hn rfl
end
open Go.Sort
section
open Go.Lib Go.ChangeShapes Go.WideShapes Go.ChangeAt
theorem kV {L:List Wl} (h:Apart L) {i j:Nat} (hi:i < L.length) (hj:j < L.length) (hij:i≠j):meetS L[i].A L[i].B L[j].A L[j].B=0:=by
 unfold Apart at h;rw [Jd] at h;rcases Nat.lt_or_gt_of_ne hij with h1 | h1
 ·exact h i j hi hj h1
 ·rw [<-jY];exact h j i hj hi h1
theorem kind_own {L:List Wl} (h:Apart L) (hg:∀ x∈L,GoodW x) {x:Wl} (hx:x∈L):kindW L x.A x.B=x.K:=by
 unfold kindW;cases hf:L.find? (isW x.A x.B) with
 | none=>
  have:=QH.1 hf x hx;exact absurd (xK.2 ⟨rfl,rfl⟩) this
 | some y=>
  have hy:=Js hf;have e:=xK.1 (V7 hf);obtain ⟨i,hi,rfl⟩:=QD.1 hx;obtain ⟨j,hj,rfl⟩:=QD.1 hy;by_cases hij:i=j
  ·subst hij;rfl
  ·exfalso
   have:=kV h hj hi (Ne.symm hij);rw [e.1,e.2] at this;exact xc (hg _ (JX hi)) this
theorem add_zero {L:List Wl} {X:Wl} (h:addE L X=0):unm X=false/\clashW L X.A X.B=0:=by
 unfold addE at h;cases hu:unm X with
 | true=>rw [hu,JH rfl] at h;cases h
 | false=>rw [hu,J0 (by simp)] at h;exact ⟨rfl,h⟩
theorem set_new {L:List Wl} (hr:Ris L) (h:Apart L) (hg:∀ x∈L,GoodW x):srt cmpW L=L/\L.any unm=false/\(¬ ∃ (i:Nat) (h:i+1 < L.length),adjB L[i] L[i+1]=true)/\¬ ∃ (k:Nat) (h:k < L.length),hitB (L.take k) L[k]=true:=by
 refine ⟨(wholeW.srt_eq (UM L) (hr.imp λh=>by omega)).symm,?_,?_,?_⟩
 ·rw [List.any_eq_false];intro x hx;rw [XL (hg x hx)];simp
 ·rintro ⟨i,hi,e⟩;unfold adjB at e;simp only [JB,JA] at e;have:=kV h (show i < L.length by omega) hi (by omega);rw [e.1,e.2] at this;exact xc (hg _ (JX hi)) this
 ·rintro ⟨k,hk,e⟩;unfold hitB at e;rw [Vt] at e;obtain ⟨y,hy,hb⟩:=e;have hy2:y∈L.take k:=by
   have:=JZ.1 hy;have sub:∀ (M o:List Wl) (z:Wl),z∈M.foldl (λo x=>o.filter (λy => !gone x y) ++ [x]) o->z∈o\/z∈M:=by
    intro M;induction M with
    | nil=>intro o z hz;exact .inl hz
    | cons x M ih=>
     intro o z hz;rcases ih _ z hz with h1 | h1
     ·rcases JM.1 h1 with h1 | h1
      ·exact .inl (JZ.1 h1).1
      ·exact .inr (J1.2 (.inl (by simpa using h1)))
     ·exact .inr (J1.2 (.inr h1))
   rcases sub (L.take k) [] y this.1 with h1 | h1
   ·cases h1
   ·exact h1
  obtain ⟨j,hj,rfl⟩:=VX.1 hy2;unfold bar1 at hb;simp only [JB,JA] at hb;exact hb.2 (kV h (by omega) hk (by omega))
theorem new_set {a:Option Addr} {c:Nat} {L:List Wl} (hL:L.length < 1000000) (hf:Flat a) (hz:a=none->L=[]) (hr:Ris L) (h:Apart L) (hg:∀ x∈L,GoodW x) (w:World) (hrow:RowAt cW 5 w a L):Calls prog 23 #[.slice a L.length c] w λe w'=>∃ sb v,e=.returned (.tuple #[pt0 sb,()])/\SetAt w' sb v L/\w.heap.size<=sb/\(∀ g,v.ownBlock=some g->w.heap.size<=g)/\Below w w w':=by
 obtain ⟨h1,h2,h3,h4⟩:=set_new hr h hg;refine (new_ok a c L hL hf hz L h1 false rfl (iff_no h3) false rfl (iff_no h4) h2 w hrow).mono ?_;rintro e w' ⟨sb,v,rfl,h1,h2,h3,h4,h5⟩;exact ⟨sb,v,rfl,⟨h1,h2.base (Jl _),h4,by omega,hr,hg⟩,h3,λg e=>(h2.lt g e).1,h5⟩
end
theorem good_mk {X:Wl} (hX:GoodW X):mkOk X.A X.B 1=true:=by
 have hab:X.A≠X.B:=λe=>by have:=hX.ab;rw [e,zP.2 rfl] at this;omega
 unfold mkOk mkK;simp [hX.va,hX.vb,hab]
theorem clash_ok {L:List Wl} {X:Wl} (hX:GoodW X) (hm:∀ x∈L,meetS x.A x.B X.A X.B=0):clashW L X.A X.B=0:=by
 obtain ⟨hA,hB⟩:=vS hX;unfold clashW;rw [hA,hB,JH (good_mk hX)];have hk:kindW L X.A X.B=0:=by
  unfold kindW;cases hf:L.find? (isW X.A X.B) with
  | none=>rfl
  | some y=>
   exfalso
   have hy:=Js hf;have e:=xK.1 (V7 hf);have:=hm y hy;rw [e.1,e.2] at this;exact xc hX this
 rw [JH hk,J0];intro h;rw [Vt] at h;obtain ⟨x,hx,hb⟩:=h;unfold bar1 at hb;simp only [JB,JA] at hb;exact hb.2 (hm x (JZ.1 hx).1)
theorem add_ok_of {L:List Wl} {X:Wl} (hX:GoodW X) (hm:∀ x∈L,meetS x.A x.B X.A X.B=0):addE L X=0:=by
 unfold addE;rw [XL hX,J0 (by simp)];exact clash_ok hX hm
theorem addL_perm {L:List Wl} {X:Wl} (h:addE L X=0):(addL L X).Perm (X :: L):=by
 unfold addL;rw [JH (add_zero h)];have:=QM (a:=X) (l₁:=L.take (posW L X.A X.B)) (l₂:=L.drop (posW L X.A X.B))
 rwa [Jj] at this
theorem qV {L M:List Wl} (hp:L.Perm M) (h:Apart L):Apart M:=(hp.pairwise_iff (λ{x y} e=>by rw [<-jY];exact e)).1 h
theorem Xo {I T:List Wl} (h:Apart I) (hg:∀ x∈I,GoodW x) {i:Nat} (hi:i < I.length) (hT:T.Perm (I.drop (i+1))):addE T I[i]=0/\(addL T I[i]).Perm (I.drop i):=by
 have he:addE T I[i]=0:=add_ok_of (hg _ (JX hi)) (λx hx=>by
  have hx2:=hT.mem_iff.1 hx;obtain ⟨j,hj,rfl⟩:=List.mem_drop_iff_getElem.1 hx2;exact kV h (by omega) hi (by omega))
 refine ⟨he,(addL_perm he).trans ?_⟩;rw [<-VN hi];exact hT.cons _
attribute [local go_sem] rOper rAt rUpon cell_set sg_i64 sg_u64 alloc_cell alloc_frozen
attribute [local go_sem 10000] pt_eql pt_neq wal_eql wal_neq
attribute [local irreducible] rWalk
def hitD (a b:Pt) (x:Wl):Bool:=decide (meetR a b x.A x.B≠0)
def clashD (L:List Wl) (a b:Pt):Int:=if mkOk a b 1=true then (if kindD L a b=0 then (if L.any (hitD a b)=true then 7 else 0) else 5) else 2
theorem any_next {p:Wl->Bool} {L:List Wl} {k:Nat} (hk:k < L.length) (h0:(L.take k).any p=false) (h1:p L[k]=false):(L.take (k+1)).any p=false:=by
 rw [JK hk,List.any_append,h0];simp [h1]
theorem any_at {p:Wl->Bool} {L:List Wl} {k:Nat} (hk:k < L.length) (h1:p L[k]=true):L.any p=true:=Vt.2 ⟨_,JX hk,h1⟩
theorem any_all {p:Wl->Bool} {L:List Wl} (h0:(L.take L.length).any p=false):L.any p=false:=by rwa [JV (JJ _)] at h0
theorem rclash_0 (db:Nat) (L:List Wl) (a b:Pt) (ho:mkOk a b 1=false) (w:World):Calls prog 93 #[pt0 db,a,b] w (Rt w (.int .i64 (clashD L a b))):=by
 have cm:=kx a b 1;rw [ho] at cm;generalize mkW a b 1=W0 at cm
 have HV:Hi (clashD L a b=2):=hdd (by unfold clashD;rw [ho];rfl);clear ho
 go_enter func93,ntmps93
 go_wp2_with fail;refine qE2 λW1 Ba Bb hw=>?_;refine qC2 (cm _) Ba Bb hw λw2 Ba Bb hw Gq=>?_;go_wp2
 go_ret
 exact ⟨zi HV.o.symm,by have hl:=hw.size;go_grown⟩
theorem rclash_1 (db:Nat) (a0:Option Addr) (c n:Nat) (L:List Wl) (a b:Pt) (ho:mkOk a b 1) (hk:(kindD L a b != 0)=true) (w:World) (D:DocRd w db a0 c n L):Calls prog 93 #[pt0 db,a,b] w (Rt w (.int .i64 (clashD L a b))):=by
 have cm:=kx a b 1;rw [ho] at cm;generalize mkW a b 1=W0 at cm
 have ck:∀ W,Below w w W->Calls prog 133 #[pt0 db,a,b] W λe w'=>e=.returned (.int .i64 (kindD L a b))/\Below W W w':=λW hW=>qY db a0 c n L a b W (D.ee hW);have HV:Hi (clashD L a b=5):=hdd (by unfold clashD;rw [JH ho,J0 (by simpa using hk)]);generalize kindD L a b=kd at *
 clear ho D
 go_enter func93,ntmps93
 go_wp2_with fail;refine qE2 λW1 Ba Bb hw=>?_;refine qC2 (cm _) Ba Bb hw λw2 Ba Bb hw Gq=>?_;go_wp2_with fail;refine zI λW3 hW=>?_;replace Ba:Box W3 w [a.x,a.y] 34:=by rw [hW];exact Ba.old _
 replace Bb:Box W3 (w+1) [b.x,b.y] 34:=by rw [hW];exact Bb.old _
 replace hw:Below w w W3:=by have hl:=hw.size;rw [hW];go_grown
 clear hW;clear Gq;refine qC2 (ck _ hw) Ba Bb hw λw4 Ba Bb hw Gq=>?_;go_wp2
 go_ret
 exact ⟨zi HV.o.symm,by have hl:=hw.size;go_grown⟩
def clashD2 (L:List Wl) (a b:Pt):Int:=if L.any (hitD a b)=true then 7 else 0
theorem rclash_2 (db:Nat) (a0:Option Addr) (c n:Nat) (L:List Wl) (a b:Pt) (ho:mkOk a b 1) (hk:(kindD L a b != 0)=false) (w:World) (D:DocRd w db a0 c n L):Calls prog 93 #[pt0 db,a,b] w (Rt w (.int .i64 (clashD L a b))):=by
 have cm:=kx a b 1;rw [ho] at cm;generalize mkW a b 1=W0 at cm
 have ck:∀ W,Below w w W->Calls prog 133 #[pt0 db,a,b] W λe w'=>e=.returned (.int .i64 (kindD L a b))/\Below W W w':=λW hW=>qY db a0 c n L a b W (D.ee hW);have HV:Hi (clashD L a b=clashD2 L a b):=hdd (by unfold clashD;rw [JH ho,JH (by simpa using hk)];rfl);have hdb:=D.box.lt;have HM:=hdd D.len;have hn:n<=1000000:=D.len▸D.le;have HD:=hdd D;generalize kindD L a b=kd at *
 clear ho D
 go_enter func93,ntmps93
 go_wp2_with fail;refine qE2 λW1 Ba Bb hw=>?_;refine qC2 (cm _) Ba Bb hw λw2 Ba Bb hw Gq=>?_;go_wp2_with fail;refine zI λW3 hW=>?_;replace Ba:Box W3 w [a.x,a.y] 34:=by rw [hW];exact Ba.old _
 replace Bb:Box W3 (w+1) [b.x,b.y] 34:=by rw [hW];exact Bb.old _
 replace hw:Below w w W3:=by have hl:=hw.size;rw [hW];go_grown
 clear hW;clear Gq;refine qC2 (ck _ hw) Ba Bb hw λw4 Ba Bb hw Gq=>?_;go_wp2_with fail;clear Gq;clear ck cm
 go_loopw [9] (λvi wr=>∃ k:Nat,k<=n/\vi=.int .i64 k/\Hi ((L.take k).any (hitD a b)=false)/\Below w w wr/\Box wr w [a.x,a.y] 34/\Box wr (w+1) [b.x,b.y] 34) (λvi _=>n - (intOf vi).toNat)
 case atStart=>exact ⟨0,Jl _,rfl,hdd rfl,hw,Ba,Bb⟩
 case round=>
  clear Ba Bb hw;obtain ⟨k,hk,rfl,HF,hwr,BA,BB⟩:=hrel;have BD:=(HD.o.ee hwr).box;by_cases hlt:k < n
  ·have hkL:k < L.length:=by rw [HM.o];exact hlt
   obtain ⟨ad,A,ea,eA,hA⟩:=(HD.o.ee hwr).row.five (j:=k) hkL;have HX:Hi (L[k]=L[k]):=hdd rfl;generalize hX:L[k]=X at hA HX
   clear HX;have HX:=hdd hX;clear hX;have c5:=uG a b X.A X.B;have HI:Hi (hitD a b X=decide (meetR a b X.A X.B≠0)):=hdd rfl;generalize meetR a b X.A X.B=z at c5 HI
   obtain ⟨s0,s1,s2,s3,s4⟩:=hA.cells;have Rv:=J3 BA.cells BB.cells BD.cells;obtain ⟨d0,d1,d2,d3⟩:=BD.f;have q0:(k:Int) < (n:Int):=by omega
   subst ea;cases ez:(z != 0) with
   | true=>
    have HE:Hi (L.any (hitD a b)=true):=hdd (any_at hkL (by rw [HX.o,HI.o];simpa using ez));clear hA HX HI;go_wp2_with fail;refine (wp_region_tail 19 (by kernel_rfl) (by kernel_rfl) (C:=λw'=>∃ p:Regrown,w'=grow (redrawn wr p.d) p.os) rgB ?_);simp only [tK1,tK0,dP1,dP0];refine wkx ?_;intro w2 hb;have hw2:=(upB hwr hb);clear s0 s1 s2 s3 s4 Rv hb d0 d1 d2 d3;go_wp2
    go_ret
    exact ⟨zi (by rw [HV.o];unfold clashD2;rw [HE.o];rfl),hw2⟩
   | false=>
    have HE:Hi ((L.take (k+1)).any (hitD a b)=false):=hdd (any_next hkL HF.o (by rw [HX.o,HI.o];simpa using ez));clear hA HX HI;go_wp2_with fail;refine (wp_region_tail 19 (by kernel_rfl) (by kernel_rfl) (C:=λw'=>∃ p:Regrown,w'=grow (redrawn wr p.d) p.os) rgB ?_);simp only [tK1,tK0,dP1,dP0];refine wkx ?_;intro w2 hb;have hw2:=(upB hwr hb);have BA2:=BA.ee hb;have BB2:=BB.ee hb;clear s0 s1 s2 s3 s4 Rv hb d0 d1 d2 d3;go_wp2
    go_roundw
    case rel=>exact ⟨k+1,hlt,by go_num,HE,hw2,BA2,BB2⟩
    case measure=>simp [intOf];omega
  ·obtain rfl:k=n:=by omega
   have HE:Hi (L.any (hitD a b)=false):=hdd (any_all (by rw [HM.o];exact HF.o));obtain ⟨d0,d1,d2,d3⟩:=BD.f;go_wp2
   go_ret
   exact ⟨zi (by rw [HV.o];unfold clashD2;rw [HE.o];rfl),hwr⟩
theorem rclash_any (db:Nat) (a0:Option Addr) (c n:Nat) (L:List Wl) (a b:Pt) (w:World) (D:DocRd w db a0 c n L):Calls prog 93 #[pt0 db,a,b] w (Rt w (.int .i64 (clashD L a b))):=by
 cases ho:mkOk a b 1 with
 | false=>exact rclash_0 db L a b ho w
 | true=>
  cases hk:(kindD L a b != 0) with
  | true=>exact rclash_1 db a0 c n L a b ho hk w D
  | false=>exact rclash_2 db a0 c n L a b ho hk w D
def addDE (L:List Wl) (X:Wl):Int:=if unm X=true then 2 else clashD L X.A X.B
def AddAt (L:List Wl) (X:Wl) (r:Int) (L':List Wl):Prop:=r=addDE L X/\((r≠0/\L'=L)\/(r=0/\∃ k,PutAt L X k/\L'=L.take k ++ X :: L.drop k))
inductive AddsOk:List Wl->List Wl->Prop where
 | nil:AddsOk [] []
 | snoc {I S S':List Wl} {x:Wl}:AddsOk I S->AddAt S x 0 S'->AddsOk (I ++ [x]) S'
theorem AddsOk.len {I S:List Wl} (h:AddsOk I S):S.length=I.length:=by
 induction h with
 | nil=>rfl
 | snoc _ ha ih=>
  obtain ⟨_,⟨h0,_⟩ | ⟨_,k,hp,rfl⟩⟩:=ha
  ·exact absurd rfl h0
  ·have:=hp.1;simp only [JC,Jc,JW,Ja,Qs];omega
theorem AddsOk.sub {I S:List Wl} (h:AddsOk I S):∀ x∈S,x∈I:=by
 induction h with
 | nil=>exact λx h=>h
 | snoc _ ha ih=>
  obtain ⟨_,⟨h0,_⟩ | ⟨_,k,hp,rfl⟩⟩:=ha
  ·exact absurd rfl h0
  ·intro x hx;rcases JM.1 hx with hx | hx
   ·exact Jk _ (ih x (QU hx))
   ·rcases J1.1 hx with rfl | hx
    ·exact Jr _ JT
    ·exact Jk _ (ih x (Qc hx))
section
open Go.Lib
theorem jg {p q:Wl->Bool}:∀ {L:List Wl},(∀ x∈L,p x=q x)->L.find? p=L.find? q
 | [],_=>rfl
 | x :: L,h=>by
  rw [List.find?_cons,List.find?_cons,h x JT,jg λy hy=>h y (JN _ hy)]
theorem isE_lo {p q:Pt} {x:Wl} (hx:GoodW x):isE p q x=isW (lo2 p q) (hi2 p q) x:=by
 rw [Qm];simp only [isE,isW,V0,JB,JA];have hab:=hx.ab;have hn:=zl p q;unfold lo2 hi2;by_cases h:cmpP q p < 0
 ·rw [JH h,JH h];constructor
  ·rintro (⟨e1,e2⟩ | h2)
   ·rw [e1,e2] at hab;omega
   ·exact h2
  ·exact λh2=>.inr h2
 ·rw [J0 h,J0 h];constructor
  ·rintro (h1 | ⟨e1,e2⟩)
   ·exact h1
   ·rw [e1,e2] at hab;exact absurd hab h
  ·exact λh2=>.inl h2
theorem ZJ {L:List Wl} (hg:∀ x∈L,GoodW x) (p q:Pt):kindD L p q=kindW L (lo2 p q) (hi2 p q):=by
 unfold kindD kindW;rw [jg (q:=isW (lo2 p q) (hi2 p q)) λx hx=>isE_lo (hg x hx)];all_goals (cases L.find? (isW (lo2 p q) (hi2 p q)) <;> rfl)
theorem XM {a b:Pt} {k:Int} (h:mkOk a b k):GoodW ⟨lo2 a b,hi2 a b,k⟩:=by
 unfold mkOk mkK at h;simp only [JB,V0,JA,V4,QF] at h;obtain ⟨hk,hab,ha,hb⟩:=h;have hn:=zl a b;have h0:cmpP a b≠0:=λe=>hab (zP.1 e);unfold lo2 hi2;by_cases h:cmpP b a < 0
 ·rw [JH h,JH h];exact ⟨hb,ha,h,hk⟩
 ·rw [J0 h,J0 h];exact ⟨ha,hb,by show cmpP a b < 0;omega,hk⟩
theorem meet_lo (a b c d:Pt):meetS c d (lo2 a b) (hi2 a b)=meetS a b c d:=by
 rw [<-jY];unfold lo2 hi2;by_cases h:cmpP b a < 0
 ·rw [JH h,JH h,X7]
 ·rw [J0 h,J0 h]
theorem Xz (a b:Pt):rl a b=lo2 a b/\rg a b=hi2 a b:=by
 by_cases h:a=b
 ·subst h;unfold rl rg lo2 hi2;rw [zP.2 rfl];exact ⟨rfl,rfl⟩
 ·exact rl_lo h
theorem Kr {L:List Wl} (hr:Ris L) (ha:Apart L) (hg:∀ x∈L,GoodW x) {a b:Pt} {r:Int} {L':List Wl} (h:RemAt L (rl a b) (rg a b) r L'):r=remE L (lo2 a b) (hi2 a b)/\L'=remL L (lo2 a b) (hi2 a b):=by
 rw [(Xz a b).1,(Xz a b).2] at h;have hK:∀ x∈L,0 < x.K:=λx hx=>by have:=(hg x hx).k;omega
 generalize lo2 a b=p at *
 generalize hi2 a b=q at *
 unfold remE remL;cases hf:fnd L (posW L p q) p q with
 | true=>
  obtain ⟨hm,_,e1,e2⟩:=je hr hf hK;rw [JH rfl,JH rfl];rcases h with ⟨_,_,h3⟩ | ⟨h1,k,hk,h2,h3⟩
  ·have:=h3 _ (JX hm);rw [xK.2 ⟨e1,e2⟩] at this;cases this
  ·refine ⟨h1,?_⟩;have hkm:k=posW L p q:=by
    by_cases e:k=posW L p q
    ·exact e
    ·exfalso
     obtain ⟨e3,e4⟩:=xK.1 h2;have h0:=kV ha hk hm e;rw [e1,e2,<-e3,<-e4] at h0;exact xc (hg _ (JX hk)) h0
   rw [h3,hkm]
 | false=>
  have hn:=ub hr hf hK;rw [J0 (by simp),J0 (by simp)];rcases h with ⟨h1,h2,_⟩ | ⟨_,k,hk,h2,_⟩
  ·exact ⟨h1,h2⟩
  ·exfalso
   have:=QH.1 hn _ (JX hk);exact this h2
theorem KM {p:Pt} {x:Wl} (hx:GoodW x) (h:onR p x.A x.B) (hne:p≠x.A):cmpP x.A p<=0/\bsd x p p=false:=by
 unfold onR at h;simp only [JB,JA] at h;obtain ⟨_,_,_,hd,h1,h2⟩:=h;unfold btw at h1 h2;simp only [JA] at h1 h2;have hab:=YM.1 hx.ab;have hx1:x.A.x<=p.x/\p.x<=x.B.x:=by omega
 refine ⟨?_,?_⟩
 ·by_cases hlt:x.A.x < p.x
  ·have:cmpP x.A p < 0:=YM.2 (.inl hlt);omega
  ·have e:p.x=x.A.x:=by omega
   rcases hab with hb | ⟨e2,hb⟩
   ·exfalso
    unfold det at hd;rw [e] at hd;have h3:(x.B.x - x.A.x) * (p.y - x.A.y)=0:=by grind
    rcases JF.1 h3 with h4 | h4
    ·omega
    ·exact hne (Pt.eq_iff.2 ⟨e,by omega⟩)
   ·have h3:x.A.y<=p.y:=by omega
    rcases Jy h3 with h4 | h4
    ·have:cmpP x.A p < 0:=YM.2 (.inr ⟨by omega,h4⟩);omega
    ·exact absurd (Pt.eq_iff.2 ⟨e,by omega⟩) hne
 ·unfold bsd mxI mnI;simp only [Bool.or_eq_false_iff,QF];refine ⟨by omega,by omega,?_,?_⟩ <;> (repeat' split) <;> omega
theorem KL {L:List Wl} (hr:Ris L) (hg:∀ x∈L,GoodW x) (p:Pt):L.find? (onD p)=(bgL L p).find? (onW p):=by
 have e1:(bgL L p).find? (onW p)=(bgL L p).find? (onD p):=jg λx hx=>by
  have hxL:=(JZ.1 hx).1;unfold onW onD;rw [on_eq];by_cases h1:x.A=p
  ·simp [h1]
  ·by_cases h2:x.B=p
   ·simp [h2]
   ·have h3:¬ p=x.A:=λe=>h1 e.symm;have h4:¬ p=x.B:=λe=>h2 e.symm;cases ho:onR p x.A x.B with
    | false=>simp
    | true=>simp [h1,h2,h3,h4,(KM (hg x hxL) ho h3).2]
 rw [e1];obtain ⟨_,_,h3⟩:=vs hr p;have hsplit:L=bgL L p ++ L.drop (bgL L p).length:=by
  conv=>lhs;rw [<-Jj (bgL L p).length L,h3]
 have hnone:(L.drop (bgL L p).length).find? (onD p)=none:=by
  rw [QH];intro x hx ho;have hxL:=Qc hx;unfold onD at ho;simp only [JB,V4,QF] at ho;have hc:=(KM (hg x hxL) ho.2.2 ho.1).1;obtain ⟨j,hj,rfl⟩:=QD.1 hx;rw [U1] at hc;rw [Ja] at hj;have h4:=((vs hr p).1 ((bgL L p).length+j) (by omega)).1 (bgn_lt.2 hc);omega
 conv=>lhs;rw [hsplit]
 rw [Ve,hnone,Option.or_none]
theorem Y4 {y z:Wl} (hy:GoodW y) (hz:GoodW z) (h:cmpP y.B z.A<=0):meetS y.A y.B z.A z.B=0:=by
 have kY:key y.A < key y.B:=(kr hy.va hy.vb).1 hy.ab;have kZ:key z.A < key z.B:=(kr hz.va hz.vb).1 hz.ab;have fk:∀ p:Pt,ff 16777216 1 p=key p:=λp=>by unfold ff key;omega
 by_cases h0:cmpP y.B z.A=0
 ·have e:=zP.1 h0;have e2:peqI y.B.x y.B.y z.A.x z.A.y=true:=by rw [zq];simp [e]
  unfold meetS
  repeat' split
  all_goals first | rfl | skip
  ·unfold mil;have h1:¬ cmpP y.B y.A < 0:=by have:=hy.ab;rw [zl];omega
   have h2:¬ cmpP z.B z.A < 0:=by have:=hz.ab;rw [zl];omega
   rw [show lo2 z.A z.B=z.A by unfold lo2;rw [J0 h2],show hi2 y.A y.B=y.B by unfold hi2;rw [J0 h1],<-e,zP.2 rfl];split <;> simp
 ·have h1:cmpP y.B z.A < 0:=by omega
  have hk:key y.B < key z.A:=(kr hy.vb hz.va).1 h1;exact meet_apart 16777216 1 (key z.A) (by rw [fk];omega) (by rw [fk];omega) (by rw [fk];omega) (by rw [fk];omega)
end
theorem jK {E:Es} {L M:List Tri3} (g:Good E L) (k:Good E M):L.Perm M:=g.heads.symm.trans k.heads
theorem edgeL.perm {L M:List Tri3} {a b:Pt} (h:edgeL L a b) (p:L.Perm M):edgeL M a b:=h.imp (zv p).mem_iff.1 (zv p).mem_iff.1
theorem vO (p a b:Pt):onS p b a=onS p a b:=by
 rw [on_eq,on_eq,Qm];unfold onR btw;simp only [JB,JA];have:=zW a b p;constructor <;> rintro ⟨v1,v2,v3,z,b1,b2⟩ <;> exact ⟨v1,v3,v2,by omega,by omega,by omega⟩
theorem has_on {a b c p:Pt} (hp:0 < det a b c) (va:vld a) (vb:vld b) (vp:vld p) (z:det a b p=0) (k1:0<=det b c p) (k2:0<=det c a p):onS p a b=true:=by
 have e:det a b c=det a b p+det b c p+det c a p:=by unfold det;grind
 have x1:det a b c * (p.x - a.x)=det c a p * (b.x - a.x):=by
  have:det a b c * (p.x - a.x)=det c a p * (b.x - a.x)+det a b p * (c.x - a.x):=by unfold det;grind
  rw [this,z,Jn,VA]
 have x2:det a b c * (p.y - a.y)=det c a p * (b.y - a.y):=by
  have:det a b c * (p.y - a.y)=det c a p * (b.y - a.y)+det a b p * (c.y - a.y):=by unfold det;grind
  rw [this,z,Jn,VA]
 have y1:=KA hp k2 (by omega) x1;have y2:=KA hp k2 (by omega) x2;rw [on_eq];unfold onR;rw [va,vb,vp,z,y1,y2];rfl
theorem Yv {p a b:Pt} (h:onS p a b):det a b p=0:=by
 rw [on_eq] at h;unfold onR at h;simp only [JB,JA] at h;exact h.2.2.2.1
theorem kX {a b c p:Pt} (hp:0 < det a b c) (z1:det a b p=0) (z2:det b c p=0):p=b:=by
 have x1:det a b c * (p.x - b.x)=0:=by
  have:det a b c * (p.x - b.x)=det b c p * (a.x - b.x)+det a b p * (c.x - b.x):=by unfold det;grind
  rw [this,z1,z2];simp
 have x2:det a b c * (p.y - b.y)=0:=by
  have:det a b c * (p.y - b.y)=det b c p * (a.y - b.y)+det a b p * (c.y - b.y):=by unfold det;grind
  rw [this,z1,z2];simp
 rcases JF.1 x1 with k | k
 ·omega
 ·rcases JF.1 x2 with j | j
  ·omega
  ·exact Pt.eq_iff.2 ⟨by omega,by omega⟩
section
variable {W H:Int} {E:Es} {L:List Tri3} {p:Pt} (hW:W < 16777216) (hH:H < 16777216) (g:Good E L) (t:Tiles W H L)
include hW hH g t
theorem add_edges (hW0:0 < W) (hH0:0 < H) (hp:inBox W H p) (hn:¬ someC L p) {L1:List Tri3} (g1:Good (addPE E p) L1):(∀ a b,(a,b)∈L.flatMap ways->onS p a b=false->(a,b)∈L1.flatMap ways)/\(∀ a b,(a,b)∈L.flatMap ways->onS p a b=true->(a,p)∈L1.flatMap ways/\(p,b)∈L1.flatMap ways):=by
 have vb:∀ q,inBox W H q->vld q=true:=λq hq=>by rw [zh];unfold inBox at hq;omega
 have vp:=vb _ hp;obtain ⟨h1,h2⟩:=tq hW hH g hp;have hn':∀ T∈L,¬ isCnr T p:=λT hT hc=>hn ⟨T,hT,hc⟩;obtain ⟨F,hF,f1,f2⟩:=t.spots hW0 hH0 hp hn' h2;have fa:=h1.trans f1;have hcut:∀ T∈atE E p,(cutS p T).Perm (cutP p T):=by
  intro T hT;have hm:=JZ.1 (h1.mem_iff.1 hT);have hc:=hn' T hm.1;have:cutOk T p=true:=by
   unfold cutOk isCnr at *;simp only [UG] at hc;rw [hm.2,yM.2 hc.1,yM.2 hc.2.1,yM.2 hc.2.2];rfl
  unfold cutS cutR;rw [JH this];exact zU _
 obtain ⟨t',tv⟩:=vz t hW0 hH0 hW hH hp hn' hF f2;have pI:((atE E p).flatMap (cutS p)).Perm (F.flatMap (cutP p)):=(jG hcut).trans (fa.flatMap_right _);have g2:Good (addPE E p) ((atE E p).flatMap (cutS p) ++ L.filter (λx => !hasP x p)):=by
  unfold addPE;rw [jM];have k:=Good.takesF (F:=atE E p) (E:=E) (M:=L.filter λx => !hasP x p) (g.order (f2.trans (fa.symm.append_right _)));refine Good.putsF k (λU hU=>(tv U (pI.mem_iff.1 hU)).1) ?_;exact (zv (pI.append_right _)).nodup_iff.2 t'.once
 have pL:=zv (jK g2 g1);have inC:∀ {T U:Tri3} {w:Pt×Pt},T∈L->hasP T p=true->U∈cutP p T->w∈ways U->w∈L1.flatMap ways:=λ{T U w} hT hh hU hw=>by
  have hA:T∈atE E p:=h1.mem_iff.2 (JZ.2 ⟨hT,hh⟩);exact pL.mem_iff.1 (JO.2 ⟨U,Jk _ (JO.2 ⟨T,hA,(hcut T hA).mem_iff.2 hU⟩),hw⟩)
 constructor
 ·intro a b hm ho;obtain ⟨T,hT,c,hc,hpos⟩:=t.way_of hm;by_cases hh:hasP T p=true
  ·have hs:=(h2 T hT).1 hh;have bx:=t.cyc_box hT hc;have by':=t.cyc_box hT hc.turn;have d3:0<=det a b p/\0<=det b c p/\0<=det c a p:=by
    rcases hc with ⟨rfl,rfl,rfl⟩ | ⟨rfl,rfl,rfl⟩ | ⟨rfl,rfl,rfl⟩
    ·exact hs
    ·exact ⟨hs.2.1,hs.2.2,hs.1⟩
    ·exact ⟨hs.2.2,hs.1,hs.2.1⟩
   have hd:0 < det a b p:=by
    rcases Jy d3.1 with k | k
    ·exact k
    ·rw [has_on hpos (vb _ bx) (vb _ by') vp k.symm d3.2.1 d3.2.2] at ho;cases ho
   have hU:mk a b p∈cutP p T:=by
    rw [(xw hc p).mem_iff,zy (vb _ bx) (vb _ by') vp hd];simp
   exact inC hT hh hU (yG (vb _ bx) (vb _ by') vp hd).1.way
  ·exact pL.mem_iff.1 (JO.2 ⟨T,Jr _ (JZ.2 ⟨hT,by simpa using hh⟩),hc.way⟩)
 ·intro a b hm ho;obtain ⟨T,hT,c,hc,hpos⟩:=t.way_of hm;have hh:=K4 hc hpos ho;have hhP:=(h2 T hT).2 hh;have hz:=Yv ho;have bx:=t.cyc_box hT hc;have by':=t.cyc_box hT hc.turn;have bz:=t.cyc_box hT hc.turn.turn;have hcn:¬ (p=a\/p=b\/p=c):=λk=>hn' T hT ((hc.cnr_iff p).2 k);simp only [UG] at hcn;have d3:0<=det b c p/\0<=det c a p:=by
   rcases hc with ⟨rfl,rfl,rfl⟩ | ⟨rfl,rfl,rfl⟩ | ⟨rfl,rfl,rfl⟩
   ·exact hh.2
   ·exact ⟨hh.2.2,hh.1⟩
   ·exact ⟨hh.1,hh.2.1⟩
  have e2:det c a b=det a b c:=by unfold det;grind
  have d4:0 < det b c p:=by
   rcases Jy d3.1 with k | k
   ·exact k
   ·exact absurd (kX hpos hz k.symm) hcn.2.1
  have d5:0 < det c a p:=by
   rcases Jy d3.2 with k | k
   ·exact k
   ·exact absurd (kX (a:=c) (b:=a) (c:=b) (by omega) k.symm hz) hcn.1
  have hU:mk b c p∈cutP p T:=by
   rw [(xw hc p).mem_iff,zy (vb _ by') (vb _ bz) vp d4];simp
  have hV:mk c a p∈cutP p T:=by
   rw [(xw hc p).mem_iff,zy (vb _ bz) (vb _ bx) vp d5];simp
  exact ⟨inC hT hhP hV (yG (vb _ bz) (vb _ bx) vp d5).1.turn.way,inC hT hhP hU (yG (vb _ by') (vb _ bz) vp d4).1.turn.turn.way⟩
omit hW hH g in
theorem on_single (hn:¬ someC L p) {a b c d:Pt} (e1:edgeL L a b) (e2:edgeL L c d) (o1:onS p a b) (o2:onS p c d):(a=c/\b=d)\/(a=d/\b=c):=by
 have main:∀ {a b c d:Pt},(a,b)∈L.flatMap ways->(c,d)∈L.flatMap ways->onS p a b=true->onS p c d=true->(a=c/\b=d)\/(a=d/\b=c):=by
  intro a b c d m1 m2 o1 o2;obtain ⟨S,hS,s,cS,pS⟩:=t.way_of m1;obtain ⟨T,hT,u,cT,pT⟩:=t.way_of m2;have hh:=K4 cT pT o2;have h1:=K4 cS pS o1;have z1:=Yv o1;have z2:=Yv o2;have nS:¬ (p=a\/p=b\/p=s):=λk=>hn ⟨S,hS,(cS.cnr_iff p).2 k⟩;have nT:¬ (p=c\/p=d\/p=u):=λk=>hn ⟨T,hT,(cT.cnr_iff p).2 k⟩;simp only [UG] at nS nT;have d3:0<=det b s p/\0<=det s a p:=by
   rcases cS with ⟨rfl,rfl,rfl⟩ | ⟨rfl,rfl,rfl⟩ | ⟨rfl,rfl,rfl⟩
   ·exact h1.2
   ·exact ⟨h1.2.2,h1.1⟩
   ·exact ⟨h1.1,h1.2.1⟩
  have hedg:edg a b s p:=by
   refine ⟨z1,?_,?_⟩
   ·rcases Jy d3.1 with k | k
    ·exact k
    ·exact absurd (kX pS z1 k.symm) nS.2.1
   ·rcases Jy d3.2 with k | k
    ·exact k
    ·have e2:det s a b=det a b s:=by unfold det;grind
     exact absurd (kX (a:=s) (b:=a) (c:=b) (by omega) k.symm z1) nS.1
  have hcT:¬ isCnr T p:=λk=>by
   have:=(cT.cnr_iff p).1 k;simp only [nT,or_self] at this
  have same:∀ {x y:Pt},(x,y)∈ways T->det x y p=0->x=c/\y=d:=by
   intro x y hw hz;have:=cT.ways.mem_iff.1 hw;simp only [J1,Jt,JI,Jp] at this;rcases this with k | ⟨k1,k2⟩ | ⟨k1,k2⟩ <;> try rw [k1,k2] at hz
   ·exact k
   ·exact absurd (kX pT z2 hz) nT.2.1
   ·have e2:det u c d=det c d u:=by unfold det;grind
    exact absurd (kX (a:=u) (b:=c) (c:=d) (by omega) hz z2) nT.1
  rcases t.edg_two hS hT cS hedg hh hcT with e | ⟨k,_⟩
  ·rw [e] at same;exact .inl (same cS.way z1)
  ·have:=same k (by have:=zW a b p;omega);exact .inr ⟨this.2,this.1⟩
 rcases e1 with e1 | e1 <;> rcases e2 with e2 | e2
 ·exact main e1 e2 o1 o2
 ·rw [<-vO] at o2;rcases main e1 e2 o1 o2 with ⟨k1,k2⟩ | ⟨k1,k2⟩
  ·exact .inr ⟨k1,k2⟩
  ·exact .inl ⟨k1,k2⟩
 ·rw [<-vO] at o1;rcases main e1 e2 o1 o2 with ⟨k1,k2⟩ | ⟨k1,k2⟩
  ·exact .inr ⟨k2,k1⟩
  ·exact .inl ⟨k2,k1⟩
 ·rw [<-vO] at o1 o2;rcases main e1 e2 o1 o2 with ⟨k1,k2⟩ | ⟨k1,k2⟩
  ·exact .inl ⟨k2,k1⟩
  ·exact .inr ⟨k2,k1⟩
end
structure WInv (L:List Tri3) (D:List Wl):Prop where
 good:∀ x∈D,GoodW x
 ris:Ris D
 apart:Apart D
 edge:∀ x∈D,edgeL L x.A x.B
theorem jU {D:List Wl} {X:Wl} {k:Nat} (hr:Ris D) (h:PutAt D X k) (hne:∀ x∈D,x≠X):Ris (insW D X k):=by
 obtain ⟨q0,q1,q2⟩:=h;have lt:∀ (i:Nat) (hi:i < D.length),¬ 0 < cmpW D[i] X->cmpW D[i] X < 0:=λi hi hh=>by
  have:cmpW D[i] X≠0:=λe=>hne _ (JX hi) (ul.1 e);omega
 unfold insW;exact (xR wholeW hr q0 (λi hi=>by
  have hk:k - 1 < D.length:=by omega
  have h1:=lt (k - 1) hk (q2 hk (by omega));rcases Qb i (k - 1) with h3 | h3
  ·exact wholeW.trans (uH hr (by omega) hk h3) h1
  ·have e:i=k - 1:=by omega
   subst e;exact h1) (λi h1 h2=>q1 i h2 h1)).1
theorem yc (D:List Wl) (X:Wl) (k:Nat):(insW D X k).Perm (X :: D):=xV k
theorem KH {D M:List Wl} (h:Ris D) (s:M.Sublist D):Ris M:=List.Pairwise.sublist s h
theorem ue {D:List Wl} {k:Nat}:(D.take k ++ D.drop (k+1)).Sublist D:=by
 have e:D=D.take k ++ D.drop k:=(Jj k D).symm
 conv=>rhs;rw [e]
 exact (List.Sublist.refl _).append (by rw [<-UO];exact List.drop_sublist _ _)
theorem jW {X:Wl} {p:Pt} (hX:GoodW X) (ho:onR p X.A X.B) (h1:p≠X.A) (h2:p≠X.B):cmpP X.A p < 0/\cmpP p X.B < 0:=by
 have hn:X.A≠X.B:=λe=>by have:=hX.ab;rw [e,zP.2 rfl] at this;omega
 have hab:=hX.ab;have ho':=ho;unfold onR at ho';simp only [JB,JA] at ho';obtain ⟨_,_,_,hd,b1,b2⟩:=ho';have k:=(on_k hn hd).2 ((btw_k hn hd).1 (by rw [b1,b2];rfl));have a0:cmpP X.A p≠0:=λe=>h1 (zP.1 e).symm;have b0:cmpP p X.B≠0:=λe=>h2 (zP.1 e);have sg:∀ x y:Pt,cmpP x y = -1\/cmpP x y=0\/cmpP x y=1:=λx y=>by
  unfold cmpP cmpN;split
  ·rcases zL (x.y - y.y) with ⟨e,_⟩ | ⟨e,_⟩ | ⟨e,_⟩ <;> rw [e] <;> simp
  ·rcases zL (x.x - y.x) with ⟨e,_⟩ | ⟨e,_⟩ | ⟨e,_⟩ <;> rw [e] <;> simp
 have s1:=sg X.A p;have s2:=sg p X.B;rcases s1 with e | e | e
 ·rcases s2 with f | f | f
  ·omega
  ·omega
  ·rw [e,f] at k;omega
 ·omega
 ·rcases s2 with f | f | f
  ·rw [e,f] at k;omega
  ·omega
  ·exfalso
   have n1:=zl X.A p;have n2:=zl p X.B;have:=wholeP.trans (x:=X.B) (y:=p) (z:=X.A) (by omega) (by omega);have n3:=zl X.A X.B;omega
theorem tz {W H:Int} (hW0:0 < W) (hH0:0 < H) (hW:W < 16777216) (hH:H < 16777216) {E:Es} {L L1:List Tri3} {D D':List Wl} {p:Pt} (g:Good E L) (t:Tiles W H L) (hI:WInv L D) (hp:inBox W H p) (hn:¬ someC L p) (hA:AddD D p D') (g1:Good (addPE E p) L1) (t1:Tiles W H L1):WInv L1 D':=by
 have vb:∀ q,inBox W H q->vld q=true:=λq hq=>by rw [zh];unfold inBox at hq;omega
 obtain ⟨a1,a2⟩:=add_edges hW hH g t hW0 hH0 hp hn g1;have stays:∀ {a b:Pt},edgeL L a b->onS p a b=false->edgeL L1 a b:=λ{a b} he ho=>by
  rcases he with he | he
  ·exact .inl (a1 _ _ he ho)
  ·exact .inr (a1 _ _ he (by rw [vO];exact ho))
 have cuts:∀ {a b:Pt},edgeL L a b->onS p a b=true->edgeL L1 a p/\edgeL L1 p b:=λ{a b} he ho=>by
  rcases he with he | he
  ·exact ⟨.inl (a2 _ _ he ho).1,.inl (a2 _ _ he ho).2⟩
  ·have k:=a2 _ _ he (by rw [vO];exact ho);exact ⟨.inr k.2,.inr k.1⟩
 have ends:∀ {a b:Pt},edgeL L a b->p≠a/\p≠b:=λ{a b} he=>by
  obtain ⟨_,⟨c1,c2⟩,_⟩:=t.edge_box he;exact ⟨λe=>hn (e▸c1),λe=>hn (e▸c2)⟩
 rcases hA with ⟨hf,rfl⟩ | ⟨X,r,D1,k1,k2,hf,hR,p1,p2,rfl⟩
 ·refine ⟨hI.good,hI.ris,hI.apart,λx hx=>?_⟩;refine stays (hI.edge x hx) ?_;have h0:=QH.1 hf x hx;obtain ⟨n1,n2⟩:=ends (hI.edge x hx);rw [on_eq];unfold onD at h0
  simpa [n1,n2] using h0
 ·have hXm:=Js hf;have hX:=hI.good X hXm;have hXe:=hI.edge X hXm;obtain ⟨n1,n2⟩:=ends hXe;have ho:onR p X.A X.B=true:=by
   have:=V7 hf;unfold onD at this
   simpa [n1,n2] using this
  have ho':onS p X.A X.B=true:=by rw [on_eq];exact ho
  obtain ⟨cA,cB⟩:=jW hX ho n1 n2;obtain ⟨eA,eB⟩:=cuts hXe ho';have hlo:rl X.A X.B=X.A/\rg X.A X.B=X.B:=by unfold rl rg;rw [JH hX.ab,JH hX.ab];exact ⟨rfl,rfl⟩
  rw [hlo.1,hlo.2] at hR;have hD1:D1.Sublist D/\∀ y∈D1,y∈D/\meetS X.A X.B y.A y.B=0:=by
   rcases hR with ⟨_,_,h0⟩ | ⟨_,k,hk,hw,e⟩
   ·have:=h0 X hXm;rw [xK.2 ⟨rfl,rfl⟩] at this;cases this
   ·rw [e];refine ⟨ue,λy hy=>⟨ue.mem hy,?_⟩⟩;obtain ⟨w1,w2⟩:=xK.1 hw;have hp':D.Perm (D[k] :: (D.take k ++ D.drop (k+1))):=by
     have e2:D=D.take k ++ D[k] :: D.drop (k+1):=by
      rw [VN hk,Jj]
     have:=QM (a:=D[k]) (l₁:=D.take k) (l₂:=D.drop (k+1));rw [<-e2] at this;exact this
    have:=Q6.1 (qV hp' hI.apart);have h3:=this.1 y hy;rw [w1,w2] at h3;exact h3
  obtain ⟨hsub,hD1⟩:=hD1;have ne1:∀ y∈D1,¬ (y.A=p\/y.B=p):=λy hy k=>by
   obtain ⟨m1,m2⟩:=ends (hI.edge y (hD1 y hy).1);rcases k with k | k
   ·exact m1 k.symm
   ·exact m2 k.symm
  have hye:∀ y∈D1,edgeL L1 y.A y.B:=λy hy=>by
   refine stays (hI.edge y (hD1 y hy).1) ?_;cases hoy:onS p y.A y.B with
   | false=>rfl
   | true=>
    exfalso
    have gy:=hI.good y (hD1 y hy).1;rcases on_single t hn hXe (hI.edge y (hD1 y hy).1) ho' hoy with ⟨e1,e2⟩ | ⟨e1,e2⟩
    ·have h3:=(hD1 y hy).2;rw [<-e1,<-e2] at h3;exact xc hX h3
    ·have k1:=hX.ab;have k2:=gy.ab;rw [e1,e2,zl] at k1;omega
  have gA:GoodW ⟨X.A,p,X.K⟩:=⟨hX.va,vb _ hp,cA,hX.k⟩;have gB:GoodW ⟨p,X.B,X.K⟩:=⟨vb _ hp,hX.vb,cB,hX.k⟩;have q1:=yc D1 ⟨X.A,p,X.K⟩ k1;have q2:=yc (insW D1 ⟨X.A,p,X.K⟩ k1) ⟨p,X.B,X.K⟩ k2;have q:=q2.trans (q1.cons _);have mem:∀ {x},x∈insW (insW D1 ⟨X.A,p,X.K⟩ k1) ⟨p,X.B,X.K⟩ k2->x=⟨p,X.B,X.K⟩\/x=⟨X.A,p,X.K⟩\/x∈D1:=λ{x} hx=>by
   have:=q.mem_iff.1 hx
   simpa using this
  refine ⟨λx hx=>?_,?_,?_,λx hx=>?_⟩
  ·rcases mem hx with rfl | rfl | hx
   ·exact gB
   ·exact gA
   ·exact hI.good x (hD1 x hx).1
  ·refine jU (jU (KH hI.ris hsub) p1 (λx hx e=>ne1 x hx (.inr (by rw [e])))) p2 (λx hx e=>?_);rcases J1.1 (q1.mem_iff.1 hx) with k | k
   ·rw [e] at k;simp only [Wl.mk.injEq] at k;exact n1 k.1
   ·exact ne1 x k (.inl (by rw [e]))
  ·refine qV q.symm ?_;refine Q6.2 ⟨λy hy=>?_,Q6.2 ⟨λy hy=>?_,List.Pairwise.sublist hsub hI.apart⟩⟩
   ·rcases J1.1 hy with rfl | hy
    ·exact t1.edges_apart hW hH eB eA (by rintro (⟨k,_⟩ | ⟨_,k⟩);exact n1 k;exact (λk2=>by have:=hX.ab;rw [<-k2,zP.2 rfl] at this;omega) k.symm)
    ·exact t1.edges_apart hW hH eB (hye y hy) (by rintro (⟨k,_⟩ | ⟨k,_⟩);exact ne1 y hy (.inl k.symm);exact ne1 y hy (.inr k.symm))
   ·exact t1.edges_apart hW hH eA (hye y hy) (by rintro (⟨_,k⟩ | ⟨_,k⟩);exact ne1 y hy (.inr k.symm);exact ne1 y hy (.inl k.symm))
  ·rcases mem hx with rfl | rfl | hx
   ·exact eB
   ·exact eA
   ·exact hye x hx
theorem winv_wll {L:List Tri3} {D:List Wl} (h:WInv L D) {x:Wl} (hx:x∈D):wll D x.A x.B:=by
 have hg:=h.good x hx;unfold wll;rw [ZJ h.good,(vS hg).1,(vS hg).2,kind_own h.apart h.good hx];have:=hg.k;omega
theorem WInv.kept {L L':List Tri3} {D:List Wl} (h:WInv L D) (k:Kept (wll D) L L'):WInv L' D:=by
 refine ⟨h.good,h.ris,h.apart,λx hx=>?_⟩;have hw:=winv_wll h hx;rcases h.edge x hx with e | e
 ·exact .inl (k.wall _ _ hw e)
 ·exact .inr (k.wall _ _ (by unfold wll at *;rw [qg];exact hw) e)
theorem WInv.perm {L L':List Tri3} {D:List Wl} (h:WInv L D) (p:L.Perm L'):WInv L' D:=⟨h.good,h.ris,h.apart,λx hx=>(h.edge x hx).perm p⟩
end
end Go.Proofs.YthhcehmmglmlfaaGreat
namespace Go.Proofs.YthhcehmmglmlfaaGreat.FT
open Go.RowKit Go.Sort
variable {P:Program} {Q:Exit->Act->World->Prop}
theorem wp_region_flowC {id:Nat} {a:Act} {w:World} {l:List Oper} (n:Nat) (pl:Plan) (hm:P.follows .mixedOrders) (hB:(Region.noSelect l.toArray && decide (n < l.toArray.size) && Region.sinkB .any l.toArray n && Region.chainB .any l.toArray n && planB .any n l.toArray [] pl (Array.replicate l.toArray.size false))=true) (hQ:∀ c x v a w,Q (.panic c) (Act.put a x v) w->Q (.panic c) a w) {C:World->Prop} (hC:∀ w',Below w w w'->C w') (hcl:∀ x y,Ext x y->C x->C y) (h:flow P l.toArray n Q pl C a w):(Code.region id l.toArray true).wp P Q a w:=by
 simp only [JB,JA] at hB;obtain ⟨⟨⟨⟨h1,h2⟩,h3⟩,h4⟩,h5⟩:=hB;refine wp_region_any hm ?_;have hx:Ext w { w with drawn:=w.drawn+1 }:=⟨rfl,rfl,rfl,JJ _,λ_ _=>rfl⟩;exact tW h1 h2 h3 h4 hQ _ pl C _ a w _ h5 headInv0 (by
  have:=Qn (λi => !(Array.replicate l.toArray.size false).getD i true) (List.range n);rw [Vc] at this;unfold undone;omega) hcl (hC _ hx) hx h
end Go.Proofs.YthhcehmmglmlfaaGreat.FT
namespace Go.Proofs.YthhcehmmglmlfaaGreat
open _root_.Go.Proofs.Tryz
section
open Go.RowKit Go.Sort
attribute [local go_sem] rOper rAt rUpon cell_set sg_i64 sg_u64 alloc_cell alloc_frozen
attribute [local go_sem 10000] pt_eql pt_neq tri_eql
attribute [local irreducible] rWalk
def badP (E:Es) (Lw:List Wl) (p q:Pt):Bool:=(lftE E p q).2 && ((lftE E q p).2 && (decide (kindW Lw (lo2 p q) (hi2 p q)=0) && decide (circ p q (apx (lftE E p q).1 p q) (apx (lftE E q p).1 p q)=1)))
def badC (E:Es) (Lw:List Wl) (p q:Pt):Pt×Pt:=if (lftE E p q).2=true/\(lftE E q p).2=true/\kindW Lw (lo2 p q) (hi2 p q)=0 then (apx (lftE E p q).1 p q,apx (lftE E q p).1 p q) else (⟨0,0⟩,⟨0,0⟩)
theorem fbad_a (mb b:Nat) (E:Es) (sb:Nat) (a0:Option Addr) (c n:Nat) (Lw:List Wl) (p q:Pt) (hk:okW (p,q)) (X Y:Tri3) (h1:lftE E p q=(X,false)) (v2:Bool) (h2:lftE E q p=(Y,v2)) (w:World) (Bm:Box w mb [.map (some b)] 83) (Hm:Hs w b E) (S:SetRd w sb a0 c n Lw):Calls prog 114 #[pt0 mb,pt0 sb,p,q] w (Rt w (.tuple #[.agg #[(),()],.agg #[(),()],.bool false])):=by
 have cl:=qM mb b E p q hk;have cl':=qM mb b E q p ⟨hk.2,hk.1⟩;have ck:=qN sb a0 c n Lw p q;have _:=S;rw [h1] at cl;rw [h2] at cl';clear h1 h2 hk
 go_enter func114,ntmps114
 go_wp2_with fail;refine qE4 λW1 Ba Bb Bc Bd hw=>?_;refine qC4 (cl _ (Bm.ee hw) (Hm.ee hw)) Ba Bb Bc Bd hw λw2 Ba Bb Bc Bd hw Fj=>?_;go_wp2_with fail;clear Fj;refine zI λW3 hW=>?_;obtain ⟨bkx,hbx⟩:∃ b,w2.heap.size=b:=⟨_,rfl⟩;rw [hbx];obtain ⟨lax,lbx,lcx,ldx,fx,Bx,Ba,Bb,Bc,Bd,hw⟩:=qM4 hW hbx Ba Bb Bc Bd hw;clear hW hbx;refine qC5 (cl' _ (Bm.ee hw) (Hm.ee hw)) Ba Bb Bc Bd Bx hw λw4 Ba Bb Bc Bd Bx hw GU=>?_;go_wp2_with fail;clear GU;refine zG λW5 hW=>?_;obtain ⟨bky,hby⟩:∃ b,w4.heap.size=b:=⟨_,rfl⟩;rw [hby];obtain ⟨lay,lby,lcy,ldy,lxy,fy,By,Ba,Bb,Bc,Bd,Bx,hw⟩:=qM5 hW hby Ba Bb Bc Bd Bx hw;clear hW hby;have Fa:=Ba.f;have Fb:=Bb.f;have Fc:=Bc.f;have Fd:=Bd.f;have Fx:=Bx.f;have Fy:=By.f;clear cl cl' ck Bm Hm S
 go_region
 go_wp2;refine bodyPost_ret (v:=.tuple #[.agg #[(),()],.agg #[(),()],.bool false]) (by simp [results,results114,go_sem,Fc,Fd]) rfl ⟨rfl,by have hl:=hw.size;go_grown⟩
theorem fbad_b (mb b:Nat) (E:Es) (sb:Nat) (a0:Option Addr) (c n:Nat) (Lw:List Wl) (p q:Pt) (hk:okW (p,q)) (X Y:Tri3) (h1:lftE E p q=(X,true)) (h2:lftE E q p=(Y,false)) (w:World) (Bm:Box w mb [.map (some b)] 83) (Hm:Hs w b E) (S:SetRd w sb a0 c n Lw):Calls prog 114 #[pt0 mb,pt0 sb,p,q] w (Rt w (.tuple #[.agg #[(),()],.agg #[(),()],.bool false])):=by
 have cl:=qM mb b E p q hk;have cl':=qM mb b E q p ⟨hk.2,hk.1⟩;have ck:=qN sb a0 c n Lw p q;have _:=S;rw [h1] at cl;rw [h2] at cl';clear h1 h2 hk
 go_enter func114,ntmps114
 go_wp2_with fail;refine qE4 λW1 Ba Bb Bc Bd hw=>?_;refine qC4 (cl _ (Bm.ee hw) (Hm.ee hw)) Ba Bb Bc Bd hw λw2 Ba Bb Bc Bd hw Fj=>?_;go_wp2_with fail;clear Fj;refine zI λW3 hW=>?_;obtain ⟨bkx,hbx⟩:∃ b,w2.heap.size=b:=⟨_,rfl⟩;rw [hbx];obtain ⟨lax,lbx,lcx,ldx,fx,Bx,Ba,Bb,Bc,Bd,hw⟩:=qM4 hW hbx Ba Bb Bc Bd hw;clear hW hbx;refine qC5 (cl' _ (Bm.ee hw) (Hm.ee hw)) Ba Bb Bc Bd Bx hw λw4 Ba Bb Bc Bd Bx hw GU=>?_;go_wp2_with fail;clear GU;refine zG λW5 hW=>?_;obtain ⟨bky,hby⟩:∃ b,w4.heap.size=b:=⟨_,rfl⟩;rw [hby];obtain ⟨lay,lby,lcy,ldy,lxy,fy,By,Ba,Bb,Bc,Bd,Bx,hw⟩:=qM5 hW hby Ba Bb Bc Bd Bx hw;clear hW hby;have Fa:=Ba.f;have Fb:=Bb.f;have Fc:=Bc.f;have Fd:=Bd.f;have Fx:=Bx.f;have Fy:=By.f;clear cl cl' ck Bm Hm S
 go_region
 go_wp2;refine bodyPost_ret (v:=.tuple #[.agg #[(),()],.agg #[(),()],.bool false]) (by simp [results,results114,go_sem,Fc,Fd]) rfl ⟨rfl,by have hl:=hw.size;go_grown⟩
theorem fbad_c (mb b:Nat) (E:Es) (sb:Nat) (a0:Option Addr) (c n:Nat) (Lw:List Wl) (p q:Pt) (hk:okW (p,q)) (X Y:Tri3) (h1:lftE E p q=(X,true)) (h2:lftE E q p=(Y,true)) (h3:¬ kindW Lw (lo2 p q) (hi2 p q)=0) (w:World) (Bm:Box w mb [.map (some b)] 83) (Hm:Hs w b E) (S:SetRd w sb a0 c n Lw):Calls prog 114 #[pt0 mb,pt0 sb,p,q] w (Rt w (.tuple #[.agg #[(),()],.agg #[(),()],.bool false])):=by
 have cl:=qM mb b E p q hk;have cl':=qM mb b E q p ⟨hk.2,hk.1⟩;have ck:=qN sb a0 c n Lw p q;have _:=S;rw [h1] at cl;rw [h2] at cl';clear h1 h2 hk;generalize kindW Lw (lo2 p q) (hi2 p q)=k at *
 have h3':(k != 0)=true:=by simpa using h3
 go_enter func114,ntmps114
 go_wp2_with fail;refine qE4 λW1 Ba Bb Bc Bd hw=>?_;refine qC4 (cl _ (Bm.ee hw) (Hm.ee hw)) Ba Bb Bc Bd hw λw2 Ba Bb Bc Bd hw Fj=>?_;go_wp2_with fail;clear Fj;refine zI λW3 hW=>?_;obtain ⟨bkx,hbx⟩:∃ b,w2.heap.size=b:=⟨_,rfl⟩;rw [hbx];obtain ⟨lax,lbx,lcx,ldx,fx,Bx,Ba,Bb,Bc,Bd,hw⟩:=qM4 hW hbx Ba Bb Bc Bd hw;clear hW hbx;refine qC5 (cl' _ (Bm.ee hw) (Hm.ee hw)) Ba Bb Bc Bd Bx hw λw4 Ba Bb Bc Bd Bx hw GU=>?_;go_wp2_with fail;clear GU;refine zI λW5 hW=>?_;obtain ⟨bky,hby⟩:∃ b,w4.heap.size=b:=⟨_,rfl⟩;rw [hby];obtain ⟨lay,lby,lcy,ldy,lxy,fy,By,Ba,Bb,Bc,Bd,Bx,hw⟩:=qM5 hW hby Ba Bb Bc Bd Bx hw;clear hW hby;refine qK6 (ck _ (S.ee hw)) Ba Bb Bc Bd Bx By hw λw6 Ba Bb Bc Bd Bx By hw=>?_;have Fa:=Ba.f;have Fb:=Bb.f;have Fc:=Bc.f;have Fd:=Bd.f;have Fx:=Bx.f;have Fy:=By.f;go_wp2_with fail;clear cl cl' ck Bm Hm S
 go_region
 go_wp2;refine bodyPost_ret (v:=.tuple #[.agg #[(),()],.agg #[(),()],.bool false]) (by simp [results,results114,go_sem,Fc,Fd]) rfl ⟨rfl,by have hl:=hw.size;go_grown⟩
theorem fbad_d (mb b:Nat) (E:Es) (sb:Nat) (a0:Option Addr) (c n:Nat) (Lw:List Wl) (p q:Pt) (hk:okW (p,q)) (X Y:Tri3) (h1:lftE E p q=(X,true)) (h2:lftE E q p=(Y,true)) (h3:kindW Lw (lo2 p q) (hi2 p q)=0) (C D:Pt) (hC:apx X p q=C) (hD:apx Y p q=D) (w:World) (Bm:Box w mb [.map (some b)] 83) (Hm:Hs w b E) (S:SetRd w sb a0 c n Lw):Calls prog 114 #[pt0 mb,pt0 sb,p,q] w (Rt w (.tuple #[C,D,.bool (decide (circ p q C D=1))])):=by
 have cl:=qM mb b E p q hk;have cl':=qM mb b E q p ⟨hk.2,hk.1⟩;have ck:=qN sb a0 c n Lw p q;have _:=S;rw [h1] at cl;rw [h2] at cl';clear h1 h2 hk;have cx:=kv X p q;have cy:=kv Y p q;rw [hC] at cx;rw [hD] at cy;rw [h3] at ck;have cc:=λw0=>circle_any p q C D w0;clear hC hD h3
 go_enter func114,ntmps114
 go_wp2_with fail;refine qE4 λW1 Ba Bb Bc Bd hw=>?_;refine qC4 (cl _ (Bm.ee hw) (Hm.ee hw)) Ba Bb Bc Bd hw λw2 Ba Bb Bc Bd hw Fj=>?_;go_wp2_with fail;clear Fj;refine zI λW3 hW=>?_;obtain ⟨bkx,hbx⟩:∃ b,w2.heap.size=b:=⟨_,rfl⟩;rw [hbx];obtain ⟨lax,lbx,lcx,ldx,fx,Bx,Ba,Bb,Bc,Bd,hw⟩:=qM4 hW hbx Ba Bb Bc Bd hw;clear hW hbx;refine qC5 (cl' _ (Bm.ee hw) (Hm.ee hw)) Ba Bb Bc Bd Bx hw λw4 Ba Bb Bc Bd Bx hw GU=>?_;go_wp2_with fail;clear GU;refine zI λW5 hW=>?_;obtain ⟨bky,hby⟩:∃ b,w4.heap.size=b:=⟨_,rfl⟩;rw [hby];obtain ⟨lay,lby,lcy,ldy,lxy,fy,By,Ba,Bb,Bc,Bd,Bx,hw⟩:=qM5 hW hby Ba Bb Bc Bd Bx hw;clear hW hby;refine qK6 (ck _ (S.ee hw)) Ba Bb Bc Bd Bx By hw λw6 Ba Bb Bc Bd Bx By hw=>?_;have Fa:=Ba.f;have Fb:=Bb.f;have Fc:=Bc.f;have Fd:=Bd.f;have Fx:=Bx.f;have Fy:=By.f;go_wp2_with fail;clear cl cl' ck Bm Hm S;have RV:=J6 Ba.cells Bb.cells Bc.cells Bd.cells Bx.cells By.cells;refine rgn 8 (λw7 hb=>?_);clear RV;clear Fa Fb Fc Fd Fx Fy;obtain ⟨Ba,Bb,Bc,Bd,Bx,By,hw,-⟩:=qX6 Ba Bb Bc Bd Bx By hw hb;have Fa:=Ba.f;have Fb:=Bb.f;have Fc:=Bc.f;have Fd:=Bd.f;have Fx:=Bx.f;have Fy:=By.f;go_wp2_with fail;refine zG λW8 hW=>?_;replace Ba:=sto Ba hW;replace Bb:=sto Bb hW;replace Bc:=sto Bc hW;replace Bd:=sto Bd hW;replace Bx:=sto Bx hW;replace By:=sto By hW;replace hw:=stw hw hW;clear Fa Fb Fc Fd Fx Fy;clear hW;have hCl:∀ x y,Ext x y->(λw'=>Box w' (w.heap.size) [p.x,p.y] 34/\Box w' (w.heap.size+1) [q.x,q.y] 34/\Box w' (w.heap.size+1+1) [C.x,C.y] 34/\Box w' (w.heap.size+1+1+1) [D.x,D.y] 34) x->(λw'=>Box w' (w.heap.size) [p.x,p.y] 34/\Box w' (w.heap.size+1) [q.x,q.y] 34/\Box w' (w.heap.size+1+1) [C.x,C.y] 34/\Box w' (w.heap.size+1+1+1) [D.x,D.y] 34) y:=λx y h1 h2=>⟨Box.ext (h2.1) h1 rfl,Box.ext (h2.2.1) h1 rfl,Box.ext (h2.2.2.1) h1 rfl,Box.ext (h2.2.2.2) h1 rfl⟩;have Ga:=Ba;have Gb:=Bb;have Gc:=Bc;have Gd:=Bd;refine FT.wp_region_flowC 10 (.run 0 (.run 1 (.run 2 (.run 3 (.run 4 (.run 5 (.alt 6 (.run 7 (.alt 8 (.alt 9 .tail .stop) .stop)) .stop))))))) rfl (by kernel_rfl) (λ_ x _ _ _ h=>by cases x <;> exact h) (C:=λw'=>Box w' (w.heap.size) [p.x,p.y] 34/\Box w' (w.heap.size+1) [q.x,q.y] 34/\Box w' (w.heap.size+1+1) [C.x,C.y] 34/\Box w' (w.heap.size+1+1+1) [D.x,D.y] 34) (λ_ h=>⟨Ga.ee h,Gb.ee h,Gc.ee h,Gd.ee h⟩) hCl ?_;refine FT.flow_run rfl (λK hK=>?_);go_simp;refine ⟨.agg #[C.x,C.y],λwq hq0 hq1 hq2 hq3=>?_,hK _ ?_⟩
 ·obtain ⟨y0,y1,y2,y3⟩:=hq2.f;go_simp
 clear hK K;refine FT.flow_run rfl (λK hK=>?_);go_simp;refine ⟨.agg #[D.x,D.y],λwq hq0 hq1 hq2 hq3=>?_,hK _ ?_⟩
 ·obtain ⟨y0,y1,y2,y3⟩:=hq3.f;go_simp
 clear hK K;refine FT.flow_run rfl (λK hK=>?_);go_simp;refine ⟨.agg #[p.x,p.y],λwq hq0 hq1 hq2 hq3=>?_,hK _ ?_⟩
 ·obtain ⟨y0,y1,y2,y3⟩:=hq0.f;go_simp
 clear hK K;refine FT.flow_run rfl (λK hK=>?_);go_simp;refine ⟨.agg #[q.x,q.y],λwq hq0 hq1 hq2 hq3=>?_,hK _ ?_⟩
 ·obtain ⟨y0,y1,y2,y3⟩:=hq1.f;go_simp
 clear hK K;refine FT.flow_run rfl (λK hK=>?_);go_simp;refine ⟨.agg #[C.x,C.y],λwq hq0 hq1 hq2 hq3=>?_,hK _ ?_⟩
 ·obtain ⟨y0,y1,y2,y3⟩:=hq2.f;go_simp
 clear hK K;refine FT.flow_run rfl (λK hK=>?_);go_simp;refine ⟨.agg #[D.x,D.y],λwq hq0 hq1 hq2 hq3=>?_,hK _ ?_⟩
 ·obtain ⟨y0,y1,y2,y3⟩:=hq3.f;go_simp
 clear hK K;refine FT.flow_at hCl rfl trivial (λwc hwc K hK=>?_);go_simp;refine (cc _).mono ?_;rintro e w9 ⟨rfl,hb9⟩;have hb8:=Below.trans hwc (hb9.mono (Below.size hwc));replace Ga:=Ga.ee hb8;replace Gb:=Gb.ee hb8;replace Gc:=Gc.ee hb8;replace Gd:=Gd.ee hb8;replace hw:=upB hw hb8;clear hwc hb9 hb8;go_simp;refine hK _ _ ⟨Ga,Gb,Gc,Gd⟩ ?_;clear hK K
 (refine FT.flow_run rfl (λK hK=>?_);go_simp;first | (refine hK _ ?_;clear hK K) | (refine ⟨_,λ_ _ _ _ _=>rfl,hK _ ?_⟩;clear hK K))
 refine FT.flow_at hCl rfl trivial (λwc hwc K hK=>?_);go_simp;replace Ga:=Ga.ee hwc;replace Gb:=Gb.ee hwc;replace Gc:=Gc.ee hwc;replace Gd:=Gd.ee hwc;replace hw:=upB hw hwc;clear hwc;obtain ⟨y0,y1,y2,y3⟩:=Gc.f;go_simp;clear y0 y1 y2 y3;have hN:Below w w ((wc.setCell ⟨w+1+1,0,none⟩ (.int .i64 C.x)).setCell ⟨w+1+1,1,none⟩ (.int .i64 C.y)):=by have hl:=hw.size;go_grown
 replace Ga:Box ((wc.setCell ⟨w+1+1,0,none⟩ (.int .i64 C.x)).setCell ⟨w+1+1,1,none⟩ (.int .i64 C.y)) (w.heap.size) [p.x,p.y] 34:=((Ga.set_ne ⟨w+1+1,0,none⟩ (.int .i64 C.x) (by first | assumption | (show (w.heap.size+1+1:Nat)≠_;omega))).set_ne ⟨w+1+1,1,none⟩ (.int .i64 C.y) (by first | assumption | (show (w.heap.size+1+1:Nat)≠_;omega)));replace Gb:Box ((wc.setCell ⟨w+1+1,0,none⟩ (.int .i64 C.x)).setCell ⟨w+1+1,1,none⟩ (.int .i64 C.y)) (w.heap.size+1) [q.x,q.y] 34:=((Gb.set_ne ⟨w+1+1,0,none⟩ (.int .i64 C.x) (by first | assumption | (show (w.heap.size+1+1:Nat)≠_;omega))).set_ne ⟨w+1+1,1,none⟩ (.int .i64 C.y) (by first | assumption | (show (w.heap.size+1+1:Nat)≠_;omega)));replace Gc:Box ((wc.setCell ⟨w+1+1,0,none⟩ (.int .i64 C.x)).setCell ⟨w+1+1,1,none⟩ (.int .i64 C.y)) (w.heap.size+1+1) [C.x,C.y] 34:=((Gc.set 0 (.int .i64 C.x)).set 1 (.int .i64 C.y));replace Gd:Box ((wc.setCell ⟨w+1+1,0,none⟩ (.int .i64 C.x)).setCell ⟨w+1+1,1,none⟩ (.int .i64 C.y)) (w.heap.size+1+1+1) [D.x,D.y] 34:=((Gd.set_ne ⟨w+1+1,0,none⟩ (.int .i64 C.x) (by first | assumption | (show (w.heap.size+1+1:Nat)≠_;omega))).set_ne ⟨w+1+1,1,none⟩ (.int .i64 C.y) (by first | assumption | (show (w.heap.size+1+1:Nat)≠_;omega)));generalize ((wc.setCell ⟨w+1+1,0,none⟩ (.int .i64 C.x)).setCell ⟨w+1+1,1,none⟩ (.int .i64 C.y))=wd at *
 replace hw:=hN;clear hN;refine hK _ _ ⟨Ga,Gb,Gc,Gd⟩ ?_;clear hK K;refine FT.flow_at hCl rfl trivial (λwc hwc K hK=>?_);go_simp;replace Ga:=Ga.ee hwc;replace Gb:=Gb.ee hwc;replace Gc:=Gc.ee hwc;replace Gd:=Gd.ee hwc;replace hw:=upB hw hwc;clear hwc;obtain ⟨y0,y1,y2,y3⟩:=Gd.f;go_simp;clear y0 y1 y2 y3;have hN:Below w w ((wc.setCell ⟨w+1+1+1,0,none⟩ (.int .i64 D.x)).setCell ⟨w+1+1+1,1,none⟩ (.int .i64 D.y)):=by have hl:=hw.size;go_grown
 replace Ga:Box ((wc.setCell ⟨w+1+1+1,0,none⟩ (.int .i64 D.x)).setCell ⟨w+1+1+1,1,none⟩ (.int .i64 D.y)) (w.heap.size) [p.x,p.y] 34:=((Ga.set_ne ⟨w+1+1+1,0,none⟩ (.int .i64 D.x) (by first | assumption | (show (w.heap.size+1+1+1:Nat)≠_;omega))).set_ne ⟨w+1+1+1,1,none⟩ (.int .i64 D.y) (by first | assumption | (show (w.heap.size+1+1+1:Nat)≠_;omega)));replace Gb:Box ((wc.setCell ⟨w+1+1+1,0,none⟩ (.int .i64 D.x)).setCell ⟨w+1+1+1,1,none⟩ (.int .i64 D.y)) (w.heap.size+1) [q.x,q.y] 34:=((Gb.set_ne ⟨w+1+1+1,0,none⟩ (.int .i64 D.x) (by first | assumption | (show (w.heap.size+1+1+1:Nat)≠_;omega))).set_ne ⟨w+1+1+1,1,none⟩ (.int .i64 D.y) (by first | assumption | (show (w.heap.size+1+1+1:Nat)≠_;omega)));replace Gc:Box ((wc.setCell ⟨w+1+1+1,0,none⟩ (.int .i64 D.x)).setCell ⟨w+1+1+1,1,none⟩ (.int .i64 D.y)) (w.heap.size+1+1) [C.x,C.y] 34:=((Gc.set_ne ⟨w+1+1+1,0,none⟩ (.int .i64 D.x) (by first | assumption | (show (w.heap.size+1+1+1:Nat)≠_;omega))).set_ne ⟨w+1+1+1,1,none⟩ (.int .i64 D.y) (by first | assumption | (show (w.heap.size+1+1+1:Nat)≠_;omega)));replace Gd:Box ((wc.setCell ⟨w+1+1+1,0,none⟩ (.int .i64 D.x)).setCell ⟨w+1+1+1,1,none⟩ (.int .i64 D.y)) (w.heap.size+1+1+1) [D.x,D.y] 34:=((Gd.set 0 (.int .i64 D.x)).set 1 (.int .i64 D.y));generalize ((wc.setCell ⟨w+1+1+1,0,none⟩ (.int .i64 D.x)).setCell ⟨w+1+1+1,1,none⟩ (.int .i64 D.y))=wd at *
 replace hw:=hN;clear hN;refine hK _ _ ⟨Ga,Gb,Gc,Gd⟩ ?_;clear hK K;clear Ba Bb Bc Bd;intro wz hwz;simp only [dP1,dP0];replace Ga:=Ga.ee hwz;replace Gb:=Gb.ee hwz;replace Gc:=Gc.ee hwz;replace Gd:=Gd.ee hwz;replace hw:=upB hw hwz;clear hwz hCl;have Ba:=Ga;have Bb:=Gb;have Bc:=Gc;have Bd:=Gd;clear Ga Gb Gc Gd;have Fc:=Bc.f;have Fd:=Bd.f;go_wp2;refine bodyPost_ret (v:=.tuple #[C,D,.bool (decide (circ p q C D=1))]) (by simp [results,results114,go_sem,Fc,Fd];rfl) rfl ⟨rfl,by have hl:=hw.size;go_grown⟩
theorem XX (mb b:Nat) (E:Es) (sb:Nat) (a0:Option Addr) (c n:Nat) (Lw:List Wl) (p q:Pt) (hk:okW (p,q)) (w:World) (Bm:Box w mb [.map (some b)] 83) (Hm:Hs w b E) (S:SetRd w sb a0 c n Lw):Calls prog 114 #[pt0 mb,pt0 sb,p,q] w (Rt w (.tuple #[.agg #[.int .i64 (badC E Lw p q).1.x,.int .i64 (badC E Lw p q).1.y],.agg #[.int .i64 (badC E Lw p q).2.x,.int .i64 (badC E Lw p q).2.y],.bool (badP E Lw p q)])):=by
 unfold badP badC;cases h1:lftE E p q with
 | mk X v1=>
  cases h2:lftE E q p with
  | mk Y v2=>
   cases v1 with
   | false=>simpa using fbad_a mb b E sb a0 c n Lw p q hk X Y h1 v2 h2 w Bm Hm S
   | true=>
    cases v2 with
    | false=>simpa using fbad_b mb b E sb a0 c n Lw p q hk X Y h1 h2 w Bm Hm S
    | true=>
     by_cases h3:kindW Lw (lo2 p q) (hi2 p q)=0
     ·simpa [h3] using fbad_d mb b E sb a0 c n Lw p q hk X Y h1 h2 h3 _ _ rfl rfl w Bm Hm S
     ·simpa [h3] using fbad_c mb b E sb a0 c n Lw p q hk X Y h1 h2 h3 w Bm Hm S
def upF (E:Es) (Lw:List Wl) (T:Tri3) (i:Nat):Bool := !decide (0 < cmpP (crn T i) (crn T (i+1))) && badP E Lw (crn T i) (crn T (i+1))
def upW (T:Tri3) (i:Nat):Wl:=mkW (crn T i) (crn T (i+1)) 1
def upL (E:Es) (Lw:List Wl) (T:Tri3) (k:Nat):List Wl:=((List.range k).filter (upF E Lw T)).map (upW T)
theorem ZT (E:Es) (Lw:List Wl) (T:Tri3) (k:Nat):(upL E Lw T k).length<=k:=by
 unfold upL;rw [Qz];exact JY (Qn _ _) (by simp)
theorem upL_yes {E:Es} {Lw:List Wl} {T:Tri3} {k:Nat} (h:upF E Lw T k):upL E Lw T (k+1)=upL E Lw T k ++ [upW T k]:=by
 unfold upL;rw [V9,Qf,QC];simp [h]
theorem upL_no {E:Es} {Lw:List Wl} {T:Tri3} {k:Nat} (h:upF E Lw T k=false):upL E Lw T (k+1)=upL E Lw T k:=by
 unfold upL;rw [V9,Qf,QC];simp [h]
theorem Ka (mb b:Nat) (E:Es) (sb:Nat) (a0:Option Addr) (c n:Nat) (Lw:List Wl) (T:Tri3) (hT:okT T) (w:World) (Bm:Box w mb [.map (some b)] 83) (Hm:Hs w b E) (S:SetRd w sb a0 c n Lw):Calls prog 113 #[pt0 mb,pt0 sb,T] w λe w'=>∃ v,e=.returned v/\WRow w' w.heap.size v (upL E Lw T 3)/\Below w w w':=by
 have HT:=hdd hT;clear hT
 go_enter func113,ntmps113
 go_wp2_with fail;refine zG λW1 hW=>?_;have BT:Box W1 w [T.A.x,T.A.y,T.B.x,T.B.y,T.C.x,T.C.y] 45:=by rw [hW];exact Box.new rfl
 have hw:Below w w W1:=by rw [hW];go_grown
 clear hW
 go_loopw [7,8,13,15,16] (λvl _ _ _ vi wr=>∃ k:Nat,k<=3/\vi=.int .i64 k/\WRow wr (w.heap.size+1) vl (upL E Lw T k)/\Below w w wr/\Box wr w [T.A.x,T.A.y,T.B.x,T.B.y,T.C.x,T.C.y] 45) (λ_ _ _ _ vi _=>3 - (intOf vi).toNat)
 case atStart=>exact ⟨0,by omega,rfl,WRow.nil0 _ _,hw,BT⟩
 case round=>
  clear BT hw;obtain ⟨k,hk,rfl,hown,hwr,BT⟩:=hrel;by_cases hlt:k < 3
  ·have hko:=KN HT.o (k:Int);have hko2:=KN HT.o ((k:Int)+1);have HKO:=hdd (show okW (crn T k,crn T ((k:Int)+1)) from ⟨hko,hko2⟩);have ce:=λW=>ZP T (k:Int) W;have hle:(upL E Lw T k).length<=1000000:=JY (ZT _ _ _ _) (by omega);have hlt3:(k:Int) < 3:=by omega
   have HF:=hdd (show upF E Lw T k=(!decide (0 < cmpP (crn T k) (crn T ((k:Int)+1))) && badP E Lw (crn T k) (crn T ((k:Int)+1))) from rfl);have HU:=hdd (show upW T k=mkW (crn T k) (crn T ((k:Int)+1)) 1 from rfl);have HB:=hdd (show w.heap.size+1<=wr.heap.size from BT.lt);have hw:=Below.refl wr.heap.size wr;generalize crn T (k:Int)=P at *
   generalize crn T ((k:Int)+1)=Q at *
   have cc:=λW=>zo P Q W;have cb:=λW B H D=>XX mb b E sb a0 c n Lw P Q HKO.o W B H D;have cm:=λW=>qt P Q 1 W;clear hko hko2;have FT:=BT.f;go_wp2_with fail;clear FT;refine qC1 (ce _) BT hw λw21 BT hw FT=>?_;go_wp2_with fail;clear FT;refine zI λW22 hW=>?_;obtain ⟨bkP,hbP⟩:∃ b,w21.heap.size=b:=⟨_,rfl⟩;rw [hbP];have lTP:=BT.lt;rw [hbP] at lTP;have fP:=hw.size;rw [hbP] at fP;have BP:Box W22 (bkP) [P.x,P.y] 34:=by rw [hW,<-hbP];exact (Box.new rfl).old _
   have BQ:Box W22 (bkP+1) [Q.x,Q.y] 34:=by rw [hW,<-hbP];exact Box.new (by simp)
   replace BT:Box W22 w [T.A.x,T.A.y,T.B.x,T.B.y,T.C.x,T.C.y] 45:=by rw [hW];exact ((BT).old _).old _
   replace hw:Below wr wr W22:=by have hl:=hw.size;rw [hW];go_grown
   clear hW hbP;refine qK3 (cc _) BT BP BQ hw λw23 BT BP BQ hw=>?_;clear cc ce;cases hc:decide (0 < cmpP P Q)
   case true=>
    have HN:=hdd (upL_no (E:=E) (Lw:=Lw) (T:=T) (k:=k) (by rw [HF.o,hc];rfl));generalize cmpP P Q=z at *
    have hwx:=(upB hwr hw);have FT:=BT.f;have FP:=BP.f;have FQ:=BQ.f;go_wp2;clear FT FP FQ
    go_roundw
    case rel=>exact ⟨k+1,hlt,by go_num,by rw [HN.o];exact hown.ee hw,hwx,BT⟩
    case measure=>simp [intOf];omega
   case false=>
    have HC:=hdd hc;generalize cmpP P Q=z at *
    have Rk:=J3 BT.f BP.f BQ.f;go_wp2_with fail;clear Rk;have hwx:=(upB hwr hw);refine qK3 (cb _ (Bm.ee hwx) (Hm.ee hwx) (S.ee hwx)) BT BP BQ hw λw24 BT BP BQ hw=>?_;clear cb hwx;have HV:=hdd (show upF E Lw T k=badP E Lw P Q by rw [HF.o,HC.o];rfl);generalize badP E Lw P Q=bb at *
    generalize badC E Lw P Q=bc at *
    cases bb
    case false=>
     have HN:=hdd (upL_no (E:=E) (Lw:=Lw) (T:=T) (k:=k) HV.o);have HT9:=BT;have hwx:=(upB hwr hw);have FT:=BT.f;have FP:=BP.f;have FQ:=BQ.f;go_wp2;clear FT FP FQ
     go_roundw
     case rel=>exact ⟨k+1,hlt,by go_num,by rw [HN.o];exact ((hown.ee hw).alloc _).alloc _,by have hl:=hwx.size;go_grown,(HT9.old _).old _⟩
     case measure=>simp [intOf];omega
    case true=>
     have HN:=hdd (upL_yes (E:=E) (Lw:=Lw) (T:=T) (k:=k) HV.o);have sT:(w.heap.size=w24.heap.size+1)=False:=by have:=BT.lt;simp;omega
     have sP:(bkP=w24.heap.size+1)=False:=by have:=BP.lt;simp;omega
     have sQ:(bkP+1=w24.heap.size+1)=False:=by have:=BQ.lt;simp;omega
     have Rk:=J3 BT.f BP.f BQ.f;go_wp2_with fail;clear Rk;clear sT sP sQ;refine zI λW25 hW=>?_;obtain ⟨bkC,hbC⟩:∃ b,w24.heap.size=b:=⟨_,rfl⟩;rw [hbC];have lTC:=BT.lt;rw [hbC] at lTC;have lPC:=BP.lt;rw [hbC] at lPC;have lQC:=BQ.lt;rw [hbC] at lQC;have fC:=hw.size;rw [hbC] at fC;have BC:Box W25 (bkC) [.int .i64 bc.1.x,.int .i64 bc.1.y] 34:=by rw [hW,<-hbC];exact (Box.new rfl).old _
     have BD:Box W25 (bkC+1) [.int .i64 bc.2.x,.int .i64 bc.2.y] 34:=by rw [hW,<-hbC];exact Box.new (by simp)
     replace BT:Box W25 w [T.A.x,T.A.y,T.B.x,T.B.y,T.C.x,T.C.y] 45:=by rw [hW];exact ((BT).old _).old _
     replace BP:Box W25 (bkP) [P.x,P.y] 34:=by rw [hW];exact ((BP).old _).old _
     replace BQ:Box W25 (bkP+1) [Q.x,Q.y] 34:=by rw [hW];exact ((BQ).old _).old _
     replace hw:Below wr wr W25:=by have hl:=hw.size;rw [hW];go_grown
     clear hW hbC;refine qK5 (cm _) BT BP BQ BC BD hw λw26 BT BP BQ BC BD hw=>?_;clear cm;generalize mkW P Q 1=X at *
     generalize mkOk P Q 1=ok at *
     have own:=hdd (hown.ee hw);have hlt0:=λq hq=>(hown.lt q hq).1;have HNE:=hdd (show WRow w26 (w.heap.size+1) u7 (upL E Lw T k) from hown.ee hw);have hwx:=(upB hwr hw);have HBT:=hdd BT;have hs2:=hw.size;have hbw:=HB.o;have HWX:=hdd hwx;clear hown hwr;have FT:=BT.f;have FP:=BP.f;have FQ:=BQ.f;have FC:=BC.f;have FD:=BD.f;go_wp2_with (at_builtin;refine jQ rfl _ _ rfl (w.heap.size+1) _ (upL E Lw T k) rfl ((HNE.o.alloc _).alloc _) (w26.heap.size+1) X rfl (Box.new (by simp)) hle (by simp;omega) ?_;intro w4 v4 hown4 hg4 hn4)
     clear FT FP FQ FC FD;have BP4:=((HBT.o.old _).old _).grownBy hg4 (λe=>by have:=hlt0 _ e.symm;omega);have hw4:=((HWX.o.alloc HWX.o.size (.cells #[X.A.x,X.A.y,X.B.x,X.B.y,X.K] 71)).alloc (by simp;have:=HWX.o.size;omega) (.cells #[X.A.x,X.A.y,X.B.x,X.B.y,X.K] 71)).grown hg4 (by simp;have:=HWX.o.size;omega) (λq hq=>by have:=hlt0 q hq;omega);clear hg4 hlt0;go_wp2
     go_roundw
     case rel=>exact ⟨k+1,hlt,by go_num,by rw [HN.o,HU.o];exact hown4,hw4,BP4⟩
     case measure=>simp [intOf];omega
  ·obtain rfl:k=3:=by omega
   go_wp2
   go_ret
   exact ⟨_,rfl,hown.base (Nat.le_succ _),hwr⟩
section
open Go.Lib Go.Shelf
theorem those_ok (mb b:Nat) (E:Es) (g:FuncId) (cb:Array Value) (p:Tri3->Bool) (hE:E.length<=1000000) (hok:∀ e∈E,okT e.2) (w:World) (Bm:Box w mb [.map (some b)] 83) (Hm:Hs w b E) (eg:∀ args w,(callFunc g args).run prog w=.ok (.enter g args) w) (hp:∀ (T:Tri3),okT T->∀ (W:World),Below w w W->Calls prog g (#[.agg #[T.A.x,T.A.y,T.B.x,T.B.y,T.C.x,T.C.y]] ++ cb) W λe w'=>e=.returned (.bool (p T))/\Below W W w'):Calls prog 29 #[pt0 mb,.func (.func g) #[] cb] w λe w'=>∃ a cap,e=.returned (.slice a (srt cmpT (heads p E)).length cap)/\RowAt cT 6 w' a (srt cmpT (heads p E))/\Below w w w':=by
 obtain ⟨xm,ym,zm,vm⟩:=Bm.f
 go_enter func29,ntmps29
 go_wp2_with (at_range;refine yK _ rfl _ rfl kvM rfl Hm ?_)
 intro w0 HR0 hw0 _;clear xm ym zm vm;go_wp2
 go_loopw [5] (λv wr=>∃ D R:Es,Hi ((D ++ R).Perm E)/\wr.ownsRow w.heap.size 45 6 v (heads p D).length ((heads p D).flatMap cT)/\Ranging eW eT okW wr b w.heap.size E R/\Below w w wr) (λ_ wr=>wr.rangeLeft b w.heap.size)
 case atStart=>exact ⟨[],E,hdd (by simp),World.ownsRow_nil _ _ _ _,HR0,hw0⟩
 case round=>
  clear HR0 hw0;obtain ⟨D,R,hD,hown,HR,hw⟩:=hrel;go_wp2_with (at_next;refine yN _ rfl _ rfl rfl HR ?_ ?_)
  ·intro hR;subst hR;have hp0:(heads p D).Perm (heads p E):=xf (by simpa using hD.o);have hle:(heads p D).length<=3000000:=by have:=hp0.length_eq;have:=yw p E;omega
   have HS:=hdd (wholeT.srt_of_perm hp0);go_wp2_with fail;refine (uC _ _ _ hle _ hown).mono ?_;rintro e w2 ⟨rfl,hg2,a,cap,rfl,hr⟩;go_wp2
   go_ret
   have hlen:(heads p D).length=(srt cmpT (heads p E)).length:=by rw [<-HS.o];exact (zU _).length_eq.symm
   rw [HS.o] at hr;refine ⟨a,cap,by rw [hlen];rfl,hr,hw.grown hg2 hw.size (λk hk=>?_)⟩;exact (hown.lt k hk).1
  ·intro u x T R' w1 hperm HR1 hg1 hs1 hen;have hD2:=hdd (show ((D ++ [((u,x),T)]) ++ R').Perm E by have:=(hperm.append_left D).symm.trans hD.o;simpa using this);have own1:=hown.kept hg1 (.inr (λe=>zw hown HR e.symm));have hw1:=hw.grown hg1 hw.size (λk hk=>by cases hk;exact JJ _);have HL:=hdd (show w1.rangeLeft b w.heap.size < wr.rangeLeft b w.heap.size by rw [zT HR1,zT HR,hperm.length_eq];simp);have hen2:(Instr.entry (.pointer (some ⟨w,0,none⟩))).run prog w1=.ok (.tuple #[.agg #[u.x,u.y,x.x,x.y],T]) w1:=hen;have hle:(heads p D).length<=1000000:=by have:=hD2.o.length_eq;have:=yw p D;simp at *;omega
   clear hown HR hg1 hs1 hen hperm hw;have hnx:Hi (∀ W:World,Below w1 w1 W->(W.rangeLeft b w.heap.size < wr.rangeLeft b w.heap.size)):=hdd (λW hW=>by
    rw [zT (HR1.ee hW),<-zT HR1];exact HL.o)
   have HTK:=hdd (show okT T from hok _ (hD2.o.mem_iff.1 (by simp):((u,x),T)∈E));by_cases hA:u=T.A
   ·have hd:peqI u.x u.y T.A.x T.A.y=true:=yo.2 hA;cases hT:p T with
    | false=>
     have HH:=hdd (show heads p (D ++ [((u,x),T)])=heads p D by rw [zu,qw (by simp [hT])];simp);have cp:=λW hW=>hp T HTK.o W hW;rw [hT] at cp;clear hA hT;go_wp2_with fail;refine zI λW2 hW=>?_;have hb2:Below w1 w1 W2:=by rw [hW];go_grown
     clear hW;refine (cp _ ((upB hw1 hb2))).mono ?_;rintro e w3 ⟨rfl,hb⟩;have hb3:=(upB hb2 hb);clear hb hb2;go_wp2
     go_roundw
     case rel=>exact ⟨D ++ [((u,x),T)],R',hD2,by rw [HH.o];exact own1.kept (zM hb3 none) (by cases u5.ownBlock <;> simp),HR1.ee hb3,(upB hw1 hb3)⟩
     case measure=>exact hnx.o _ hb3
    | true=>
     have HH:=hdd (show heads p (D ++ [((u,x),T)])=heads p D ++ [T] by rw [zu,jJ hA hT]);have cp:=λW hW=>hp T HTK.o W hW;rw [hT] at cp;clear hA hT;go_wp2_with fail;refine zI λW2 hW=>?_;have hb2:Below w1 w1 W2:=by rw [hW];go_grown
     have Bt:Box W2 (w1+1) (cT T) 45:=by rw [hW];exact Box.new (by simp)
     clear hW;refine (cp _ ((upB hw1 hb2))).mono ?_;rintro e w3 ⟨rfl,hb⟩;have hb3:=(upB hb2 hb);replace Bt:=Bt.ee hb;have own3:=own1.kept (zM hb3 none) (by cases u5.ownBlock <;> simp);have HB:=hdd (JY hw1.size hb3.size);clear hb hb2;obtain ⟨xt,yt,zt,vt⟩:=Bt.f;unfold cT at xt;go_wp2_with (at_builtin;refine yJ rfl _ _ rfl w.heap.size _ (heads p D) rfl (own3.alloc _) w3.heap.size T rfl (Box.new rfl) hle (by have:=HB.o;simp;omega) ?_;intro w4 v4 hown4 hg4)
     have hR3:=(HR1.ee hb3).kept (World.grownBy_alloc w3 (.cells (cT T).toArray 45) none) (by simp) (by simp);have hR4:=hR3.kept hg4 (yF (own3.alloc _) hR3.holds) (zw (own3.alloc _) hR3);have hw4:=((((upB hw1 hb3)).alloc (by have:=HB.o;omega) (.cells (cT T).toArray 45))).grown hg4 (by have:=HB.o;simp;omega) (λk hk=>((own3.alloc (.cells (cT T).toArray 45)).lt k hk).1)
     go_roundw
     case rel=>exact ⟨D ++ [((u,x),T)],R',hD2,by rw [HH.o];exact hown4,hR4,hw4⟩
     case measure=>rw [zT hR4,<-zT HR1];exact HL.o
   ·have hd:peqI u.x u.y T.A.x T.A.y=false:=by rw [<-QO,yo];exact hA
    have HH:=hdd (show heads p (D ++ [((u,x),T)])=heads p D by rw [zu,qw (by simp [hA])];simp);clear hA;go_wp2
    go_roundw
    case rel=>exact ⟨D ++ [((u,x),T)],R',hD2,by rw [HH.o];exact (own1.alloc _).alloc _,HR1.ext (by go_grown) rfl,by have:=hw1.size;go_grown⟩
    case measure=>exact hnx.o _ (by go_grown)
theorem fbadcl_any (mb b:Nat) (E:Es) (sb:Nat) (a0:Option Addr) (c n:Nat) (Lw:List Wl) (b2 b3:Nat) (T:Tri3) (hT:okT T) (w:World) (B2:Box w b2 [pt0 mb] 26) (B3:Box w b3 [pt0 sb] 27) (Bm:Box w mb [.map (some b)] 83) (Hm:Hs w b E) (S:SetRd w sb a0 c n Lw):Calls prog 112 (#[.agg #[T.A.x,T.A.y,T.B.x,T.B.y,T.C.x,T.C.y]] ++ #[.pointer (some ⟨b2,0,none⟩),.pointer (some ⟨b3,0,none⟩)]) w (Rt w (.bool (decide (0 < (upL E Lw T 3).length)))):=by
 have cu:=λW B H D=>Ka mb b E sb a0 c n Lw T hT W B H D;have hle:=ZT E Lw T 3;clear hT;generalize upL E Lw T 3=U at *
 show Calls prog 112 #[T,pt0 b2,pt0 b3] w _
 go_enter func112,ntmps112
 have RU:=J2 B2.f B3.f;go_wp2_with fail;clear RU;refine zI λW1 hW=>?_;have hw:Below w w W1:=by rw [hW];go_grown
 clear hW;refine (cu _ (Bm.ee hw) (Hm.ee hw) (S.ee hw)).mono ?_;rintro e w2 ⟨v,rfl,hr,hb⟩;replace hw:=upB hw hb;obtain ⟨a,cap,rfl,_,_⟩:=hr.row;clear hb hr cu;obtain ⟨m,hm⟩:∃ m,U.length=m:=⟨_,rfl⟩;rw [hm] at hle;cases hz:decide (0 < m) with
 | true=>
  have hz2:decide ((0:Int) < (m:Int))=true:=by simpa using hz
  go_wp2;refine bodyPost_ret (v:=.bool true) (by simp [results,results112,go_sem]) rfl ⟨by rw [hm,hz],hw⟩
 | false=>
  have hz2:decide ((0:Int) < (m:Int))=false:=by simpa using hz
  go_wp2;refine bodyPost_ret (v:=.bool false) (by simp [results,results112,go_sem]) rfl ⟨by rw [hm,hz],hw⟩
end
section
open Go.Lib Go.Shelf
def bigT (E:Es) (Lw:List Wl):List Tri3:=srt cmpT (heads (λT=>decide (0 < (upL E Lw T 3).length)) E)
def FB (E:Es) (Lw:List Wl):List Wl:=srt cmpW ((bigT E Lw).flatMap λT=>upL E Lw T 3)
theorem heads_in {p:Tri3->Bool} {E:Es} {T:Tri3} (h:T∈heads p E):p T=true/\∃ x,((T.A,x),T)∈E:=by
 unfold heads at h;obtain ⟨⟨⟨u,x⟩,S⟩,he,rfl⟩:=JS.1 h;obtain ⟨he,hc⟩:=JZ.1 he;simp only [JB,JA] at hc;exact ⟨hc.2,x,by rw [<-hc.1];exact he⟩
theorem append_wrow {w:World} {ops:Array Oper} {rest:List Oper} {o:Oper} {a:Act} {Q:Exit->Act->World->Prop} (hgd:o.guard=none) (s x:Operand) (ho:o.op=.call { callee:=.builtin .append,args:=#[s,x],argTypes:=#[41,41] }) (B:Nat) (v:Value) (L:List Wl) (hs:a.eval s=v) (hown:WRow w B v L) (bx cap:Nat) (U:List Wl) (hx:a.eval x=.slice (some ⟨bx,0,none⟩) U.length cap) (hU:RowAt cW 5 w (some ⟨bx,0,none⟩) U) (hu0:U.length<=1000) (hn:L.length<=1000000) (hbase:B<=w.heap.size) (h:∀ w' v',WRow w' B v' (L ++ U)->w.grownBy w' v.ownBlock->wpList prog ops Q rest (a.put o.dst v') w'):wpList prog ops Q (o :: rest) a w:=by
 obtain ⟨i0,hi,hz0,hz1,hz2⟩:=info_parts xT;refine wpList_append_own w hgd s x 41 ho B 71 i0 _ 5 40 underlying41 hi hz0 hz1 hz2 rfl (by decide) v L.length _ hs hown ⟨bx,0,none⟩ U.length cap (U.flatMap cW) hx (zS yS U) ?_ ?_ ?_ ?_ hbase ?_
 ·intro j u hj;rw [Addr.add_lit,QJ];have:=(hU.flat j u hj).2
  rwa [QJ] at this
 ·intro u hu;obtain ⟨X,_,hX⟩:=JO.1 hu;exact jA X u hX
 ·unfold maxLen;omega
 ·omega
 ·intro v' w' hown' hg _;refine h w' v' ?_ hg;unfold WRow;rw [JC,Je];exact hown'
theorem enterBad:∀ args w,(callFunc 112 args).run prog w=.ok (.enter 112 args) w:=enters_of func112 (by kernel_rfl) rfl
theorem flat_take {L:List Tri3} {f:Tri3->List Wl} {k:Nat} (hk:k < L.length):(L.take (k+1)).flatMap f=(L.take k).flatMap f ++ f L[k]:=by
 rw [JK hk,Je];simp
theorem YA (E:Es) (Lw:List Wl):∀ L:List Tri3,(L.flatMap λT=>upL E Lw T 3).length<=3 * L.length
 | []=>by simp
 | T :: L=>by
  have h1:=ZT E Lw T 3;have h2:=YA E Lw L;rw [JE,JC,JW];omega
theorem fBad_any (mb b:Nat) (E:Es) (sb:Nat) (a0:Option Addr) (c n:Nat) (Lw:List Wl) (hE:E.length<=90000) (hok:∀ e∈E,okT e.2) (w:World) (Bm:Box w mb [.map (some b)] 83) (Hm:Hs w b E) (S:SetRd w sb a0 c n Lw):Calls prog 59 #[pt0 mb,pt0 sb] w λe w'=>∃ v,e=.returned v/\WRow w' w.heap.size v (FB E Lw)/\Below w w w':=by
 have HOK:=hdd (show ∀ T∈bigT E Lw,okT T/\0 < (upL E Lw T 3).length from λT hT=>by
  obtain ⟨k1,x,k2⟩:=heads_in ((zU _).mem_iff.1 hT);exact ⟨hok _ k2,by simpa using k1⟩)
 have hlen:(bigT E Lw).length<=90000:=by
  unfold bigT;rw [(zU _).length_eq];exact JY (yw _ _) hE
 have HFB:=hdd (show FB E Lw=srt cmpW ((bigT E Lw).flatMap λT=>upL E Lw T 3) from rfl);have ct:=λW1 (hW1:Below w w W1) (b2 b3:Nat) (B2:Box W1 b2 [pt0 mb] 26) (B3:Box W1 b3 [pt0 sb] 27)=>those_ok mb b E 112 #[pt0 b2,pt0 b3] (λT=>decide (0 < (upL E Lw T 3).length)) (by omega) hok W1 (Bm.ee hW1) (Hm.ee hW1) enterBad (λT hT W hW=>fbadcl_any mb b E sb a0 c n Lw b2 b3 T hT W (B2.ee hW) (B3.ee hW) ((Bm.ee hW1).ee hW) ((Hm.ee hW1).ee hW) ((S.ee hW1).ee hW))
 change ∀ W1 (hW1:Below w w W1) (b2 b3:Nat) (B2:Box W1 b2 [pt0 mb] 26) (B3:Box W1 b3 [pt0 sb] 27),Calls _ _ _ _ (λe w'=>∃ a cap,e=.returned (.slice a (bigT E Lw).length cap)/\RowAt cT 6 w' a (bigT E Lw)/\Below W1 W1 w') at ct
 generalize bigT E Lw=L at *
 generalize FB E Lw=F at *
 obtain ⟨m,hm⟩:∃ m,L.length=m:=⟨_,rfl⟩;rw [hm] at ct hlen;have HM:=hdd hm;clear hok hE hm
 go_enter func59,ntmps59
 go_wp2_with fail;refine zI λW1 hW=>?_;have B2:Box W1 w [pt0 mb] 26:=by rw [hW];exact (Box.new rfl).old _
 have B3:Box W1 (w+1) [pt0 sb] 27:=by rw [hW];exact Box.new (by simp)
 have hw:Below w w W1:=by rw [hW];go_grown
 clear hW;refine (ct _ hw _ _ B2 B3).mono ?_;rintro e w2 ⟨a,cap,rfl,hr,hb⟩;obtain ⟨B2,B3,hw,-⟩:=qX2 B2 B3 hw hb;clear hb ct;go_wp2_with fail
 go_loopw [6,14] (λvl vi wr=>∃ k:Nat,k<=m/\vi=.int .i64 k/\WRow wr w2.heap.size vl ((L.take k).flatMap λT=>upL E Lw T 3)/\Below w2 w2 wr) (λ_ vi _=>m - (intOf vi).toNat)
 case atStart=>exact ⟨0,Jl _,rfl,by simpa using WRow.nil0 _ _,Below.refl _ _⟩
 case round=>
  obtain ⟨k,hk,rfl,hown,hwr⟩:=hrel;by_cases hlt:k < m
  ·have hkL:k < L.length:=by rw [HM.o];exact hlt
   obtain ⟨ad,A,ea,eA,hA⟩:=(hr.ee hwr).six (j:=k) hkL;have HF:=hdd (flat_take (f:=λT=>upL E Lw T 3) hkL);have hle:((L.take k).flatMap λT=>upL E Lw T 3).length<=1000000:=JY (YA E Lw _) (by rw [Jc];omega);obtain ⟨hokT,hpos⟩:=HOK.o _ (JX hkL);have hpos:=hdd hpos;generalize L[k]=T at *
   have cu:=λW B H D=>Ka mb b E sb a0 c n Lw T hokT W B H D;have hu3:=ZT E Lw T 3;generalize upL E Lw T 3=U at *
   have hwx:=(upB hw hwr);obtain ⟨t6,t0,t1,t2,t3,t4,t5⟩:=hA.f;obtain ⟨x2,y2,z2,v2⟩:=(B2.ee hwr).f;obtain ⟨x3,y3,z3,v3⟩:=(B3.ee hwr).f;subst ea;go_wp2_with fail;clear t6 t0 t1 t2 t3 t4 t5 x2 y2 z2 v2 x3 y3 z3 v3 hA;refine zI λW4 hW=>?_;have h4:Below wr wr W4:=by rw [hW];go_grown
   clear hW;refine (cu _ ((Bm.ee hwx).ee h4) ((Hm.ee hwx).ee h4) ((S.ee hwx).ee h4)).mono ?_;rintro e w5 ⟨v5,rfl,hr5,hb5⟩;have h5:=(upB h4 hb5);obtain ⟨a5,cap5,rfl,ra5,fl5⟩:=hr5.row;obtain ⟨bb,hbb⟩:∃ bb,a5=some ⟨bb,0,none⟩:=by
    rcases hr5.2 with ⟨h0,h1⟩ | ⟨g,cap',cur,h0,_⟩
    ·have:=hpos.o;omega
    ·simp only [Value.slice.injEq] at h0;exact ⟨g,h0.1⟩
   subst hbb;have hown5:=hown.ee h5;have hlt0:=λq hq=>(hown.lt q hq).1;have hs5:=h5.size;have hsr:=hwr.size;have hwr5:=(upB hwr h5);clear cu h4 hb5 hr5 fl5 hown h5;go_wp2_with (at_builtin;refine append_wrow rfl _ _ rfl w2.heap.size _ _ rfl hown5 bb cap5 U rfl ra5 (by omega) hle (by omega) ?_;intro w6 v6 hown6 hg6)
   have hw6:=hwr5.grown hg6 hwr5.size (λq hq=>by have:=hlt0 q hq;omega);clear hg6 hlt0 hwr5 hown5;go_wp2
   go_roundw
   case rel=>exact ⟨k+1,hlt,by go_num,by rw [HF.o];exact hown6,hw6⟩
   case measure=>simp [intOf];omega
  ·obtain rfl:k=m:=by omega
   rw [JV (by rw [HM.o];omega)] at hown;have hle:(L.flatMap λT=>upL E Lw T 3).length<=3000000:=JY (YA E Lw _) (by rw [HM.o];omega);have hwx:=(upB hw hwr);go_wp2_with fail;refine (Zb _ _ _ hle _ hown).mono ?_;rintro e w7 ⟨rfl,hg7,hr7⟩;have hlt0:=λq hq=>(hown.lt q hq).1;have hs2:=hw.size;have hw7:=hwx.grown hg7 hwx.size (λq hq=>by have:=hlt0 q hq;omega);go_wp2
   go_ret
   exact ⟨_,rfl,by rw [HFB.o];exact hr7.base hs2,hw7⟩
end
end
end Go.Proofs.YthhcehmmglmlfaaGreat
